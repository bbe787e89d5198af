import PyProof.Rows.All
import Wide.All
import OpenK.AllK
import PySem.Challenge.RW_stretchdeeds_k42_turned_cut_and_put_in
set_option Elab.async false
set_option linter.all false
set_option maxRecDepth 100000
set_option genSizeOf false
set_option compiler.extract_closed false
set_option bootstrap.genMatcherCode false
local macro_rules |`(⋯)=>`(by first|with_reducible rfl|assumption|omega|rfl|simp)
def zqa(x:String):Lean.MacroM (Lean.TSyntax `term):=match x with|"?"=>`(?_)|"_"=>`(_)|"a"=>`(by assumption)|"d"=>`(by decide)|"="=>`(rfl)|x=>return Lean.mkIdent x.toName
def zqb(s:String):Lean.MacroM (Lean.TSyntax `tactic):=do
 (s.splitOn ";").foldrM (fun z b=>do let w:=z.splitOn " ";let a<-(w.drop 1).toArray.mapM zqa;`(tactic| first|exact $(Lean.mkIdent (w.headD "").toName) $a*|$b:tactic)) (<-`(tactic| fail))
def zqc(s:String):Lean.MacroM (Lean.TSyntax `tactic):=do
 (s.splitOn ";").foldrM (fun z b=>do let w:=z.splitOn " ";let a<-(w.drop 1).toArray.mapM zqa;`(tactic| first|(with_reducible refine $(Lean.mkIdent (w.headD "").toName) $a*<;>exact ⋯)|$b:tactic)) (<-`(tactic| fail))
noncomputable section
def q0a{a:Nat}:(0:Int)<=(a:Int):=by omega
def q0b{a:Nat}(h:a<=900):a<=1000:=by omega
def q0c{a b:Nat}:a+(b+1)=a+1+b:=by omega
def q0d{a b:Nat}(h:a+100<b):a+1+50<b:=by omega
def q0e{a:Nat}(h:a<=60):a<=900:=by omega
def q0f{a:Nat}:a<a+5\/a+5<a:=by omega
def q0g{a:Nat}(h:a<=8):a<=900:=by omega
def q0h{a b c:Nat}(h:a=b)(k:a<=c):b<=c:=by omega
def q0i{a b:Nat}(h:a<b\/b+5<a):a<b+5\/b+5<a:=by omega
def q0j{a b:Nat}(h:a<b):(a:Int)<(b:Int):=by omega
def q0k{a b:Nat}:a+1+b=a+(b+1):=by omega
def q0l{a b c:Nat}(h:a<=b)(k:b<=c):a<=c:=by omega
def q0m{a b:Nat}(h:a<b):a<b+5\/b+5<a:=by omega
def q0n{a:Nat}(h:a<=8):a<=1000:=by omega
def q0o{a:Nat}(h:2<=a)(k:a<=7):(0:Int)<(a:Int):=by omega
def q0p{a:Nat}:a+2<a+5\/a+5<a+2:=by omega
def q0q{a:Nat}:a+3<a+5\/a+5<a+3:=by omega
def q0r{a:Nat}:a+1<a+5\/a+5<a+1:=by omega
def q0s{a:Nat}:a+4<a+5\/a+5<a+4:=by omega
def q0t{a b:Nat}(h:a<b):a<=b:=by omega
def q0u{a:Nat}:a<a+4\/a+4<a:=by omega
def q0v{a:Nat}:a+1<a+4\/a+4<a+1:=by omega
def q0w{a:Nat}:a+5<a+4\/a+4<a+5:=by omega
def q0x{a:Nat}(h:a<=100):(0:Int)<=(a:Int):=by omega
def q0y{a b:Nat}(h:a<b\/b<a):a≠b:=by omega
def q0z{a:Nat}(h:2<=a):0<a:=by omega
def q0A{a:Nat}(h:1<=a)(k:a<=8):a<=1000:=by omega
def q0B{a:Nat}(h:a<900):a<1000:=by omega
def q0C{a:Nat}(h:a<=6):a<=900:=by omega
def q0D{a b:Nat}(h:¬(a<b)):b<=a:=by omega
def q0E{a:Nat}(h:a<=6):a<=1000:=by omega
def q0F{a b c:Nat}(h:a=16777216)(k:b=c)(h1:b<=a):(c:Int)<2^63:=by omega
def q0G{a b c:Nat}(h:a=b)(k:¬(c<b)):b<=c:=by omega
def q0H{a b c d:Nat}(h:a<b)(k:c=a)(h1:d=b):c<b:=by omega
def q0I{a b c:Nat}(h:a<b)(k:a=c):c<=b:=by omega
def q0J{a b:Nat}(h:a<b)(k:b<=10):a<10:=by omega
def q0K{a b c:Nat}(h:a+b=c)(k:b<c):a-1+(b+1)=c:=by omega
def q0L{a b:Nat}(h:a=b):(0:Int)<(b:Int)+(1:Int):=by omega
def q0M{a b:Nat}(h:1<=a)(k:a<=200)(h1:b=a):a<900:=by omega
def q0N{a:Nat}(h:1<=a)(k:a<=8):-10^200<(a:Int):=by omega
def q0O{a:Nat}(h:0<a):(0:Int)<(a:Int):=by omega
def q0P{a b c:Nat}(h:a<=900)(k:b<=a):min b a-c<=900:=by omega
def q0Q{a b c:Nat}(h:a<b)(k:b<=c):c≠a:=by omega
def q0R{a:Nat}(h:a<=1000):(0:Int)<(a:Int)+(1:Int):=by omega
def q0S{a:Nat}(h:1<=a):(0:Int)<(a:Int):=by omega
def q0T{a b:Nat}(h:a<=b):(a:Int)<=(b:Int):=by omega
def q0U{a:Nat}:a<=a+1:=by omega
def q0V{a:Nat}(h:1<=a)(k:a<=8):(a:Int)<10^200:=by omega
def q0W{a b:Nat}(h:0<a)(k:b<=a-1):b<a:=by omega
def q0X{a b c:Nat}(h:a+b=c)(k:b<c):a-1<a:=by omega
def q0Y{a b:Nat}(h:a<=900):min b a<=900:=by omega
def q0Z{a:Int}(h:¬((0:Int)<=a)):a<(0:Int):=by omega
def q1a{a b c:Nat}(h:a+3*(b+1)+5<c):a+1+3*b+5<c:=by omega
def q1b{a b:Nat}(h:a<=b+1)(k:b<=a+1):¬(1+max a b=0):=by omega
def q1c{a b:Nat}(h:a<b\/b+5<a):a<b\/b<a:=by omega
def q1d{a b:Nat}(h:¬(a<=b/\b<=a+5)):b<a\/a+5<b:=by omega
def q1e{a b c d:Nat}(h:a<b)(k:b=min c d):a<c:=by omega
def q1f{a b:Nat}(h:a<=900)(k:b<=a):a-b<=900:=by omega
def q1g{a:Int}(h:(0:Int)<=a):a=(Int.toNat a:Int):=by omega
def q1h{a b c:Nat}(h:1+max a b<c+1)(k:a<=b+1)(h1:b<=a+1):b<c:=by omega
def q1i{a b c d:Nat}(h:a<b)(k:b=min c d):a<d:=by omega
def q1j{a:Nat}:a+2<a+4\/a+4<a+2:=by omega
def q1k{a b c:Nat}(h:1+max a b<c+1)(k:a<=b+1)(h1:b<=a+1):a<c:=by omega
def q1l{a b:Nat}(h:a+100<b):a+60<b:=by omega
def q1m{a:Nat}:a+5<a\/a<a+5:=by omega
def q1n{a b:Nat}(h:a+1<b):b≠0:=by omega
def q1o{a:Nat}(h:a<=60):a<=1000:=by omega
def q1p{a b:Nat}(h:a+b<=1000):a<=1000:=by omega
def q1q{a:Nat}:-10^200<(a:Int):=by omega
def q1r{a b:Nat}(h:a<b):a<b+4\/b+4<a:=by omega
def q1s{a b:Nat}(h:a+(b+1)<=900):a+1+b<=900:=by omega
def q1t{a:Nat}(h:2<=a)(k:a<=7):1<=a:=by omega
def q1u{a b:Nat}(h:¬(a=b)):(a:Int)≠(b:Int):=by omega
def q1v{a b:Nat}(h:a*b<=8*6):a*b<=900:=by omega
def q1w{a b c:Nat}(h:1<=a)(k:a<=200)(h1:b=a-1)(h2:c=a):b<a:=by omega
def q1x{a b:Int}(h:a<=b)(k:b<=a):a=b:=by omega
def q1y{a:Nat}(h:a<=59):a<=900:=by omega
def q1z{a b:Nat}(h:a<7)(k:b=7):a<b:=by omega
def q1A{a b:Nat}(h:a=b+2):a≠0:=by omega
def q1B{a b:Nat}(h:a<10)(k:b=10):a<b:=by omega
def q1C{a b c:Nat}(h:a+1=b)(k:b<=c):a+1<=c:=by omega
def q1D{a:Nat}(h:(a+1)*(a+1)<=64):(a+1)*(a+1)<=900:=by omega
def q1E{a b c:Nat}(h:a+b=c)(k:¬(b<c)):c<=b:=by omega
def q1F{a b:Nat}(h:a<b)(k:b<=8):(a:Int)<10^200:=by omega
def q1G{a b:Nat}(h:a<b):a<b\/b<a:=by omega
def q1H{a b:Nat}(h:a<=b+1)(k:b<=a+1)(h1:¬(a<=b)):a=b+1:=by omega
def q1I{a:Nat}(h:a<=6):a<=1000000:=by omega
def q1J{a:Nat}(h:a<=8):a<=1000000:=by omega
def q1K{a:Nat}(h:a<=100):(0:Int)<=(2:Int)*(a:Int)+(1:Int):=by omega
def q1L{a:Int}(h:(0:Int)<a/\a<=(1000000:Int)):-10^200<a:=by omega
def q1M{a b c:Nat}(h:a=b)(k:b<=c):a<=c:=by omega
def q1N{a:Int}(h:(0:Int)<=a):-10^200<a:=by omega
def q1O{a b c:Nat}(h:a<b)(k:b=c):a<c:=by omega
def q1P{a b:Nat}(h:¬(a+1<b))(k:¬(b+1<a)):a<=b+1:=by omega
def q1Q{a b:Nat}(h:a<b)(k:b<=8):(a:Int)<=(8:Int):=by omega
def q1R{a:Int}(h:(0:Int)<a/\a<=(1000000:Int)):a<10^200:=by omega
def q1S{a:Nat}(h:1<=a)(k:a<=8):a<=900:=by omega
def q1T{a b c d e:Nat}(h:a+1<b)(k:a<c+1)(h1:b<c+1)(h2:b=1+max d e):a<c:=by omega
def q1U{a b:Nat}(h:a<=b+1)(k:b<=a+1)(h1:¬(a<=b)):a≠0:=by omega
def q1V{a:Nat}(h:1<=a)(k:a<=8):(0:Int)<(a:Int):=by omega
def q1W{a b c:Nat}(h:(a:Int)<(b:Int))(k:2<=b)(h1:b<=7)(h2:c<a):c<7:=by omega
def q1X{a b:Nat}(h:(a:Int)<(b:Int))(k:2<=b)(h1:b<=7):a<7:=by omega
def q1Y{a:Nat}(h:2<=a)(k:a<=7):(0:Int)<(a:Int)-(1:Int):=by omega
def q1Z{a:Nat}(h:a<=100):(a:Int)<=(100:Int):=by omega
def q2a{a:Nat}(h:2<=a):(0:Int)<(a:Int)-(1:Int):=by omega
def q2b{a:Int}{b:Nat}(h:(0:Int)<=a%(8:Int))(k:a%(8:Int)=(b:Int)-(1:Int)):(0:Int)<(b:Int)-(1:Int)+(1:Int):=by omega
def q2c{a:Nat}(h:1<=a)(k:a<=8):(0:Int)<(a:Int)/\(a:Int)<(1000000:Int):=by omega
def q2d{a b:Nat}(h:a=16777216)(k:b<=a):¬(2^63<=(b:Int)):=by omega
def q2e{a c d e f:Nat}{b:Int}(h:(a:Int)=b/(2:Int)%(8:Int))(k:(c:Int)=b/(2:Int)/(8:Int)%(6:Int))(h1:(d:Int)=b/(2:Int)/(8:Int)/(6:Int)%(7:Int))(h2:(e:Int)=b/(2:Int)/(8:Int)/(6:Int)/(7:Int)%(5:Int))(h3:(f:Int)=b/(2:Int)/(8:Int)/(6:Int)/(7:Int)/(5:Int)%(8:Int)):-10^200<(a+1:Int):=by omega
def q2f{a c d e f:Nat}{b:Int}(h:(a:Int)=b/(2:Int)%(8:Int))(k:(c:Int)=b/(2:Int)/(8:Int)%(6:Int))(h1:(d:Int)=b/(2:Int)/(8:Int)/(6:Int)%(7:Int))(h2:(e:Int)=b/(2:Int)/(8:Int)/(6:Int)/(7:Int)%(5:Int))(h3:(f:Int)=b/(2:Int)/(8:Int)/(6:Int)/(7:Int)/(5:Int)%(8:Int)):1<=a+1:=by omega
abbrev zzA:=PySem.W.Frag
abbrev zzB:=@List.length_map
abbrev zzC:=@List.mem_cons
abbrev zzD:=@List.mem_cons_of_mem
abbrev zzE:=@List.getElem?_eq_getElem
abbrev zzF:=@List.mem_cons_self
abbrev zzG:=@List.getElem?_eq_some_iff
abbrev zzH:=@List.size_toArray
abbrev zzI:=@List.getElem?_map
abbrev zzJ:=@List.length_append
abbrev zzK:=@Nat.lt_of_lt_of_le
abbrev zzL:=@List.mem_append_right
abbrev zzM:=@List.mem_append
abbrev zzN:=@Nat.le_refl
abbrev zzO:=@Nat.le_trans
abbrev zzP:=@List.mem_append_left
abbrev zzQ:=@Nat.ne_of_lt
abbrev zzR:=@List.mem_singleton
abbrev zzS:=@List.length_take
abbrev zzT:=@List.length_cons
abbrev zzU:=@List.length_set
abbrev zzV:=@Int.natCast_mul
abbrev zzW:=@List.nodup_cons
abbrev zzX:=@Option.map_eq_some_iff
abbrev zzY:=@List.getElem?_set_ne
abbrev zzZ:=@Option.some.inj
abbrev zyA:=@List.mem_of_getElem?
abbrev zyB:=@List.map_map
abbrev zyC:=@Bool.and_eq_true
abbrev zyD:=@Bool.or_true
abbrev zyE:=@List.append_nil
abbrev zyF:=@List.getD_eq_getElem?_getD
abbrev zyG:=@decide_eq_false
abbrev zyH:=@Int.emod_lt_of_pos
abbrev zyI:=@Int.toNat_natCast
abbrev zyJ:=@List.nodup_nil
abbrev zyK:=@List.getElem?_set_self
abbrev zyL:=@Option.bind_some
abbrev zyM:=@List.map_append
abbrev zyN:=@Int.emod_nonneg
abbrev zyO:=@decide_eq_true
abbrev zyP:=@List.getElem?_append_left
abbrev zyQ:=@List.drop_eq_getElem_cons
abbrev zyR:=@List.getElem?_append_right
abbrev zyS:=@List.map_cons
abbrev zyT:=@Array.length_toList
abbrev zyU:=@List.length_range
abbrev zyV:=@Bool.false_ne_true
abbrev zyW:=@Nat.le_succ
abbrev zyX:=@Nat.zero_add
abbrev zyY:=@Int.toNat_of_nonneg
abbrev zyZ:=@Nat.lt_succ_of_lt
abbrev zxA:=@List.append_assoc
abbrev zxB:=@List.mem_map
abbrev zxC:=@List.nodup_append
abbrev zxD:=@PySem.wpAny_bind
abbrev zxE:=@PySem.wpAny_pure
abbrev zxF:=@PySem.Heap.get?_push_of_some
abbrev zxG:=@PySem.Heap.lt_size
abbrev zxH:=@PySem.Heap.get?_push_size
abbrev zxI:=@PySem.wpAny_holding
abbrev zxJ:=@PySem.Heap.size_push
abbrev zxK:=@PySem.wpAny_mono
abbrev zxL:=@PySem.wpAny_call_entry
section
namespace L2
open PySem PySem.Spec PyProof.Rows
abbrev Key:=Sum Int Str
noncomputable def TJ:Key->Value->Bool
 | .inl k,v=>Value.isInt k v
 | .inr x,v=>Value.isStrOf x v
noncomputable def kK(w:World):Key->Int
 | .inl k=>hashInt k
 | .inr x=>hashStr w x
def yT:∀{k:Key}{v:Value},TJ k v=true->(∃i t,k=Sum.inl i/\v=Value.int i t)\/(∃x t,k=Sum.inr x/\v=Value.str x t)
 | .inl i,v,h=>by
  obtain⟨t,e⟩:=Value.isInt_shape h;exact .inl ⟨i,t,rfl,e⟩
 | .inr x,v,h=>by
  obtain⟨t,e⟩:=Value.isStrOf_shape h;exact .inr ⟨x,t,rfl,e⟩
def F9(i)(t):TJ (.inl i) (.int i t)=true:=by simp[TJ,Value.isInt]
def F3(x)(t):TJ (.inr x) (.str x t)=true:=by simp[TJ,Value.isStrOf]
def tm(a b):decide ((Sum.inl a:Key)=Sum.inl b)=(a==b):=by
 by_cases e:a=b
 . subst e;simp
 . have h:¬(Sum.inl a:Key)=Sum.inl b:=λq=>e<|Sum.inl.inj q;rw[zyG h];exact(beq_eq_false_iff_ne.mpr e).symm
def sd(a b):decide ((Sum.inr a:Key)=Sum.inr b)=decide (a=b):=⋯
def Dw(a)(b):decide ((Sum.inl a:Key)=Sum.inr b)=false:=⋯
def Dz(a)(b):decide ((Sum.inr a:Key)=Sum.inl b)=false:=⋯
def xR(prog:Program)(w:World):PySem.KeyKind prog w Key where
 is:=TJ
 hash:=kK w
 inj:=λv a b ha hb=>by
  rcases yT ha with⟨i,t,rfl,rfl⟩|⟨x,t,rfl,rfl⟩
  . rcases yT hb with⟨j,u,rfl,e⟩|⟨y,u,rfl,e⟩
    . injection e with e1 _;rw[e1]
    . exact nomatch e
  . rcases yT hb with⟨j,u,rfl,e⟩|⟨y,u,rfl,e⟩
    . exact nomatch e
    . injection e with e1 _;rw[e1]
 byValue:=λk v h=>by
  rcases yT h with⟨i,t,rfl,rfl⟩|⟨x,t,rfl,rfl⟩<;>rfl
 pyHash:=λhv h=>by
  rcases yT hv with⟨i,t,rfl,rfl⟩|⟨x,t,rfl,rfl⟩
  . exact wpAny_pyHash_int h
  . exact wpAny_pyHash_str h
 eqBool:=λhu hv h=>by
  rcases yT hu with⟨i,t,rfl,rfl⟩|⟨x,t,rfl,rfl⟩
  . rcases yT hv with⟨j,u,rfl,rfl⟩|⟨y,u,rfl,rfl⟩
    . rw[tm]at h;exact wpAny_eqBool_int h
    . rw[Dw]at h;exact SeqAt.EqAt.int_str i t y u _ _ _ _ h
  . rcases yT hv with⟨j,u,rfl,rfl⟩|⟨y,u,rfl,rfl⟩
    . rw[Dz]at h;exact SeqAt.EqAt.str_int x t j u _ _ _ _ h
    . rw[sd]at h;exact wpAny_eqBool_str h
 «strs» := λk x t v h=>by
  rcases yT h with⟨i,u,rfl,e⟩|⟨y,u,rfl,e⟩
  . exact nomatch e
  . injection e with e1 _
    subst e1;cases v<;>rfl
def L4(prog)(w)(i)(t):(xR prog w).is (.inl i) (.int i t)=true:=F9 i t
def X1(prog)(w)(x)(t):(xR prog w).is (.inr x) (.str x t)=true:=F3 x t
end L2
namespace L2
open PySem PySem.Spec PyProof.Rows
inductive V where
 |non|bl (b:Bool)|int (i:Int)|str (x:Str)|byt (b:Array UInt8)|flt (b:UInt64)|ref (a:Addr)|ty (n:String)
 deriving DecidableEq
def RelV:V->Value->Prop
 | .non,u=>u=Value.none
 | .bl b,u=>u=Value.bool b
 | .int i,u=>∃t,u=Value.int i t
 | .str x,u=>∃t,u=Value.str x t
 | .byt b,u=>∃t,u=Value.bytes b t
 | .flt b,u=>∃t,u=Value.float b t
 | .ref a,u=>u=Value.ref a
 | .ty n,u=>u=Value.type n
abbrev zQ:List V->List Value->Prop:=Paired RelV
theorem zQ.length(r:zQ xs us):xs.length=us.length:=Paired.length r
theorem zQ.get:∀{xs:List V}{us:List Value}{i:Nat}{x:V},zQ xs us->xs[i]? = some x->∃u,us[i]? = some u/\RelV x u
 |_,_,_,_,.nil,e=>by simp at e
 |_,_,0,_,.cons r _,e=>by simp at e;subst e;exact⟨_,rfl,r⟩
 |_,_,i+1,x,.cons _ t,e=>by
  obtain⟨u,h1,h2⟩:=zQ.get t (by simpa using e);exact⟨u,by simpa using h1,h2⟩
theorem zQ.append:∀{xs ys:List V}{us ws:List Value},zQ xs us->zQ ys ws->zQ (xs++ys) (us++ws)
 |_,_,_,_,.nil,s=>s
 |_,_,_,_,.cons r t,s=>.cons r<|zQ.append t s
theorem zQ.take:∀{xs:List V}{us:List Value}(n:Nat),zQ xs us->zQ (xs.take n) (us.take n)
 |_,_,0,_=>.nil
 |_,_,_+1,.nil=>.nil
 |_,_,n+1,.cons r t=>.cons r<|zQ.take n t
theorem zQ.drop:∀{xs:List V}{us:List Value}(n:Nat),zQ xs us->zQ (xs.drop n) (us.drop n)
 |_,_,0,r=>r
 |_,_,_+1,.nil=>.nil
 |_,_,n+1,.cons _ t=>zQ.drop n t
def VA:Option V->Option Value->Prop
 |some v,some u=>RelV v u
 |none,none=>True
 |_,_=>False
def KV{κ:Type}:List (κ×V)->List (κ×Value)->Prop:=Paired λ(p:κ×V) (q:κ×Value)=>p.1=q.1/\RelV p.2 q.2
noncomputable def kV:Key->V
 | .inl i=>.int i
 | .inr x=>.str x
inductive HO where
 |lst (xs:List V)
 |tup (xs:List V)
 |dK (kvs:List (Key×V))|dT (kvs:List (List Key×V))
 |set (S:Int->Bool) (n:Nat)
 |ins (C dx:Addr) (fs:List (Str×V))
 |own (x:Addr)
 |xd (fs:List (Str×V))
 |met (f x:Addr)
 |rng (lo hi:Int)
 |frz (o:Obj) (u:HO)
 |tbl (ps:Array Value)
 |ext (φ:Heap->Prop)
abbrev Hp:=Addr->Option HO
noncomputable def upd(H:Hp)(a:Addr)(o:HO):Hp:=λb=>if b=a then some o else H b
def yg:upd H a o a=some o:=by unfold upd;rw[if_pos rfl]
def zJ(h:b≠a):upd H a o b=H b:=by unfold upd;rw[if_neg h]
def zV{H:Hp}{a b o}(h:H a=some o)(h':H b=none):a≠b:=by
 intro e;subst e;rw[h]at h';cases h'
section
variable(P:Program)(w:World)
def vM(H:Hp)(h:Heap)(a:Addr):HO->Prop
 | .lst xs=>xs.length<=sizeLine/\∃(its:List Value) (n:Nat),zQ xs its/\h.get? a=some {cls:=.type "list",data:=.seq its.toArray n}
 | .tup xs=>xs.length<=sizeLine/\∃its:List Value,zQ xs its/\IsTup h a its.toArray
 | .dK kvs=>kvs.length<=sizeLine/\(a==sysModules)=false/\∃vs,KV kvs vs/\h.DictOf (xR P w) a vs
 | .dT kvs=>kvs.length<=sizeLine/\(a==sysModules)=false/\∃xs:List (List Key×Addr×Value),
  Paired (λ(p:List Key×V) (q:List Key×Addr×Value)=>p.1=q.1/\H q.2.1=some (.tup<|p.1.map kV)/\RelV p.2 q.2.2) kvs xs/\
  ∃o es ep,h.get? a=some o/\o.ExactDict/\o.data = .dict es ep/\es.toList=xs.map (entryOfKey<|tupleKind<|xR P w)/\(xs.map (·.1)).Nodup
 | .set S n=>h.SetOf (intKind P w) a S n
 | .ins C dx fs=>H dx=some (.own a)/\fs.length<=1000/\dx≠a/\h.get? a=some (W.instObj C dx)/\
  ∃mA,h.Ns1 dx mA/\(∀f,VA (fs.lookup f)<|mA f)/\PySem.Within mA (fs.map (·.1))
 | .own _=>∃o,h.get? a=some o
 | .xd fs=>∃mA,h.Ns1 a mA/\∀f,VA (fs.lookup f)<|mA f
 | .rng lo hi=>∃t u v,h.get? a=some {cls:=.type "range",data:=.fields #[.int lo t,.int hi u,.int 1 v]}
 | .frz o u=>h.get? a=some o/\vM H h a u
 | .tbl ps=>h.get? a=some {cls:=.none,data:=.fields ps}
 | .met f x=>h.get? a=some (W.methodObj (.ref f)<|.ref x)
 | .ext φ=>φ h/\(∃o,h.get? a=some o)/\∀h1 h2:Heap,φ h1->(∀o,h1.get? a=some o->h2.get? a=some o)->φ h2
def Q9(H:Hp)(h:Heap):Prop:=∀a o,H a=some o->vM P w H h a o
end
section
variable{P:Program}{w:World}{H H':Hp}{h h':Heap}{a:Addr}{o:HO}
theorem vM.lt(x:vM P w H h a o):a<h.objs.size:=by
 cases o with
 |lst xs=>obtain⟨_,_,_,_,e⟩:=x;exact zxG e
 |tup xs=>obtain⟨_,_,_,p⟩:=x;exact p.lt
 |dK kvs=>obtain⟨_,_,_,_,o,_,_,e,_⟩:=x;exact zxG e
 |dT kvs=>obtain⟨_,_,_,_,o,_,_,e,_⟩:=x;exact zxG e
 |set S n=>obtain⟨o,_,_,_,e,_⟩:=x;exact zxG e
 |ins C dx fs=>obtain⟨_,_,_,e,_⟩:=x;exact zxG e
 |own y=>obtain⟨_,e⟩:=x;exact zxG e
 |xd fs=>obtain⟨_,⟨_,_,_,e,_⟩,_⟩:=x;exact zxG e
 |rng lo hi=>obtain⟨_,_,_,e⟩:=x;exact zxG e
 |frz ob u=>obtain⟨e,_⟩:=x;exact zxG e
 |tbl ps=>exact zxG (x)
 |met f y=>exact zxG (x)
 |ext φ=>obtain⟨_,⟨_,e⟩,_⟩:=x;exact zxG e
theorem Paired.mapP:∀{l₁:List α}{l₂:List β},Paired F l₁ l₂->(∀a b,F a b->G a b)->Paired G l₁ l₂
 |_,_,.nil,_=>.nil
 |_,_,.cons r t,f=>.cons (f _ _ r)<|Paired.mapP t f
def vM.stay(x:vM P w H h a o)(k:∀b u,(b=a\/H b=some (.own a))->h.get? b=some u->h'.get? b=some u)
 (ho:∀b,H b=some (.own a)->H' b=some (.own a)) (ht:∀b xs,H b=some (.tup xs)->H' b=some (.tup xs)):vM P w H' h' a o:=by
 induction o with
 |lst xs=>obtain⟨z,its,n,r,e⟩:=x;exact⟨z,its,n,r,k _ _ (.inl rfl) e⟩
 |tup xs=>obtain⟨z,its,r,ob,e,c⟩:=x;exact⟨z,its,r,ob,k _ _ (.inl rfl) e,c⟩
 |dK kvs=>obtain⟨z,y,vs,r,ob,es,ep,e,c⟩:=x;exact⟨z,y,vs,r,ob,es,ep,k _ _ (.inl rfl) e,c⟩
 |dT kvs=>
  obtain⟨z,y,xs,r,ob,es,ep,e,c⟩:=x;exact⟨z,y,xs,Paired.mapP r λp q z=>⟨z.1,ht _ _ z.2.1,z.2.2⟩,ob,es,ep,k _ _ (.inl rfl) e,c⟩
 |set S n=>obtain⟨ob,es,ep,t,e,c⟩:=x;exact⟨ob,es,ep,t,k _ _ (.inl rfl) e,c⟩
 |ins C dx fs=>
  obtain⟨d,z,ne,e,mA,⟨od,es,ep,e2,c⟩,r⟩:=x;exact⟨ho _ d,z,ne,k _ _ (.inl rfl) e,mA,⟨od,es,ep,k _ _ (.inr d) e2,c⟩,r⟩
 |own y=>obtain⟨ob,e⟩:=x;exact⟨ob,k _ _ (.inl rfl) e⟩
 |xd fs=>obtain⟨mA,⟨od,es,ep,e,c⟩,r⟩:=x;exact⟨mA,⟨od,es,ep,k _ _ (.inl rfl) e,c⟩,r⟩
 |rng lo hi=>obtain⟨t,u,v,e⟩:=x;exact⟨t,u,v,k _ _ (.inl rfl) e⟩
 |frz ob u ih=>obtain⟨e,q⟩:=x;exact⟨k _ _ (.inl rfl) e,ih q⟩
 |tbl ps=>
  have e:=x;exact k a _ (.inl rfl) e
 |met f y=>
  have e:=x;exact k a _ (.inl rfl) e
 |ext φ=>obtain⟨p,⟨o,e⟩,st⟩:=x;exact⟨st _ _ p λo q=>k _ _ (.inl rfl) q,⟨o,k _ _ (.inl rfl) e⟩,st⟩
theorem Q9.lt(x:Q9 P w H h)(e:H a=some o):a<h.objs.size:=(x a o e).lt
def Q9.fresh(x:Q9 P w H h)(e:h.objs.size<=a):H a=none:=by
 cases q:H a with
 |none=>rfl
 |some u=>exact absurd (zzK (x.lt q) e) (Nat.lt_irrefl _)
def Q9.kept(x:Q9 P w H h)(k:∀b u,h.get? b=some u->h'.get? b=some u):Q9 P w H h':=λa o e=>
 (x a o e).stay (λb u _ q=>k b u q) (λ_ q=>q) λ_ _ q=>q
def Q9.laid(x:Q9 P w H h)(k:∀b u,h.get? b=some u->h'.get? b=some u)(hp:h.objs.size<=a)(new:vM P w (upd H a o) h' a o):Q9 P w (upd H a o) h':=λb u e=>by
 have hn:=x.fresh hp
 by_cases hb:b=a
 . subst hb;rw[yg]at e;cases e;exact new
 . rw[zJ hb]at e;exact(x b u e).stay (λc v _ q=>k c v q) (λc q=>by rwa [zJ<|zV q hn]) λc xs q=>by rwa [zJ<|zV q hn]
end
def Rd(H:Hp)(a:Addr)(u:HO):Prop:=H a=some u\/∃o,H a=some (.frz o u)
def Rd.ok(r:Rd H a u)(x:Q9 P w H h):vM P w H h a u:=by
 rcases r with r|⟨o,r⟩
 . exact x a u r
 . obtain⟨_,q⟩:=x a _ r;exact q
def mC:Option HO->Prop
 |some (.lst _)=>True
 |some (.dK _)=>True
 |some (.dT _)=>True
 |some (.set _ _)=>True
 |some (.ins _ _ _)=>True
 |some (.ext _)=>True
 |_=>False
section
variable{P:Program}{w:World}{H:Hp}{h h':Heap}{x e:Addr}{o':HO}
def Q9.write(ok:Q9 P w H h)(mu:mC (H x))(he:e=x\/H e=some (.own x))(k:∀b u,b≠e->h.get? b=some u->h'.get? b=some u)(heo:∃u,h'.get? e=some u)
 (new:vM P w (upd H x o') h' x o'):Q9 P w (upd H x o') h':=λb u q=>by
 have nown:∀c y,H c=some (.own y)->c≠x:=λc y r z=>by subst z;rwa [r]at mu
 have ntup:∀c xs,H c=some (.tup xs)->c≠x:=λc xs r z=>by subst z;rwa [r]at mu
 by_cases hb:b=x
 . subst hb;rw[yg]at q;cases q;exact new
 . rw[zJ hb]at q
   by_cases hbe:b=e
   . have q':H b=some (.own x):=by
      rcases he with z|z
      . exact absurd (hbe.trans z) hb
      . rwa [hbe]
     rw[q]at q';cases q';obtain⟨v,hv⟩:=heo;exact⟨v,by rwa [hbe]⟩
   . refine(ok b u q).stay (λc v hc r=>k c v ?_ r) (λc r=>by rwa [zJ<|nown c b r]) λc xs r=>by rwa [zJ<|ntup c xs r]
     rcases hc with rfl|hc
     . exact hbe
     . rintro rfl
       rcases he with z|z
       . exact nown c b hc z
       . rw[hc]at z;cases z;exact hb rfl
end
structure Un(fs ex:List Addr)(H H':Hp)(h h':Heap):Prop where
 keep:∀b o,h.get? b=some o->H b=none->b ∉ fs->b ∉ ex->h'.get? b=some o
 slot:∀b o,h.get? b=some o->H b=none->b ∈ fs->b ∉ ex->∃sl,h'.get? b=some {o with slots:=sl}
 free:∀b o,h.get? b=some o->H b=none->b ∉ ex->H' b=none
 there:∀b o,h.get? b=some o->b ∉ ex->∃o',h'.get? b=some o'
 tups:∀b xs,H b=some (.tup xs)->H' b=some (.tup xs)
 frzs:∀b o u,H b=some (.frz o u)->H' b=some (.frz o u)
 tbls:∀b ps,H b=some (.tbl ps)->∃more,H' b=some (.tbl<|ps++more)
section
variable{fs fs' ex ex':List Addr}{H H1 H2:Hp}{h h1 h2 h':Heap}{a x e:Addr}{o:HO}
def Un.any(u:Un fs ex H H1 h h1)(q:h.get? b=some ob)(n:H b=none)(hx:b ∉ ex):∃sl,h1.get? b=some {ob with slots:=sl}:=by
 by_cases hb:b ∈ fs
 . exact u.slot b ob q n hb hx
 . exact⟨ob.slots,u.keep b ob q n hb hx⟩
def Un.kept(k:∀b u,h.get? b=some u->h'.get? b=some u):Un fs ex H H h h':=
 ⟨λb ob q _ _ _=>k b ob q,λb ob q _ _ _=>⟨ob.slots,k b ob q⟩,λ_ _ _ n _=>n,λb ob q _=>⟨ob,k b ob q⟩,λ_ _ q=>q,λ_ _ _ q=>q,λ_ ps q=>⟨#[],by rw[q];simp⟩⟩
def Un.refl:Un fs ex H H h h:=Un.kept λ_ _ q=>q
def Un.laid(k:∀b u,h.get? b=some u->h'.get? b=some u)(hp:h.objs.size<=a)(hn:H a=none):Un fs ex H (upd H a o) h h' where
 keep:=λb u q _ _ _=>k b u q
 slot:=λb u q _ _ _=>⟨u.slots,k b u q⟩
 free:=λb u q n _=>by rwa [zJ<|zzQ<|zzK (zxG q) hp]
 there:=λb u q _=>⟨u,k b u q⟩
 tups:=λb xs q=>by rwa [zJ<|zV q hn]
 frzs:=λb u xs q=>by rwa [zJ<|zV q hn]
 tbls:=λb ps q=>⟨#[],by rw[zJ<|zV q hn,q];simp⟩
def Un.write(mu:mC (H x))(he:e=x\/H e=some (.own x))(k:∀b u,b≠e->h.get? b=some u->h'.get? b=some u)(heo:∃u,h'.get? e=some u):Un fs ex H (upd H x o) h h':=by
 have hx:∀b,H b=none->b≠x:=λb n z=>by subst z;rwa [n]at mu
 have hb:∀b,H b=none->b≠e:=λb n z=>by
  subst z
  rcases he with r|r
  . exact hx b n r
  . rw[n]at r;cases r
 have hm:∀b u,H b=some u->¬mC (some u)->b≠x:=λb u q nm z=>by subst z;rw[q]at mu;exact nm mu
 refine⟨λb u q n _ _=>k b u (hb b n) q,λb u q n _ _=>⟨u.slots,k b u (hb b n) q⟩,λb u q n _=>by rw[zJ<|hx b n];exact n,λb u q _=>?_,
  λb xs q=>by rw[zJ<|hm b _ q λz=>z];exact q,λb u xs q=>by rw[zJ<|hm b _ q λz=>z];exact q,λb ps q=>⟨#[],by rw[zJ<|hm b _ q λz=>z,q];simp⟩⟩
 by_cases hbe:b=e
 . subst hbe;exact heo
 . exact⟨u,k b u hbe q⟩
end
noncomputable def trk(h:Heap)(H:Hp):List Addr:=(List.range h.objs.size).filter λa=>(H a).isSome
def Bo(h:Heap)(H:Hp):Heap:=W.hideAll h<|trk h H
def FQ(h)(H):(Bo h H).objs.size=h.objs.size:=W.hideAll_size _ _
def Hb(e:h.get? b=some o)(n:H b=none):(Bo h H).get? b=some o:=
 W.hideAll_get _ e λhm=>by
  have q:=(List.mem_filter.mp hm).2;rw[n]at q;simp at q
def C6(e:(Bo h H).get? b=some o):h.get? b=some o/\H b=none:=by
 have e':h.get? b=some o:=W.of_hideAll _ e;refine⟨e', ?_⟩;cases q:H b with
 |none=>rfl
 |some x=>
  have hm:b ∈ trk h H:=List.mem_filter.mpr ⟨List.mem_range.mpr<|zxG e',by simp[q]⟩;have z:(Bo h H).get? b=none:=W.hideAll_none _ hm;rw[z]at e;cases e
end L2
namespace L2
open PySem PySem.Spec PyProof.Rows
structure Mod(K:zzA)(mg:Str->Option Value)(base:Heap):Prop where
 kin:K.In base
 glob:base.Ns mainGlobals mg
 blt:∃mb,base.Ns builtinsNs mb/\∀x:Str,x≠"__name__"->mb x=bootBuiltins x
 nolimit:base.NoLimit
structure Cx where
 prog:Program
 w:World
 K:zzA
 mg:Str->Option Value
 base:Heap
 A:Around
 N:List Str
 s₀:Shared
 H₀:Hp
 env:Env
 outer:List Env
 stack:List Env
 ex:List Addr
 fn:Str->Bool
 calm:Bool
 pn:List (Addr×Obj)
 xe:Value->Shared->Prop
noncomputable def B3(l:List Env):List Addr:=l.filterMap (·.frame)
abbrev Cx.fs(X:Cx):List Addr:=B3 X.outer
def n3(sc:Scope)(x:Str):Prop:=sc.names.lookup x=some .local\/sc.names.lookup x=some .cell\/sc.names.lookup x=some .free
def Loc(sc:Scope)(x:Str):Prop:=sc.names.lookup x=some .local\/sc.names.lookup x=some .cell
def Look(env:Env)(h:Heap)(m:Str->Option Value)(x:Str)(u:Value):Prop:=
 (env.kindOf x=some .local/\m x=some u)\/((env.kindOf x=some .cell\/env.kindOf x=some .free)/\∃c,env.cells.lookup x=some c/\h.IsCell c (some u))
structure Cx.Ok(X:Cx):Prop where
 mod:Mod X.K X.mg X.base
 kind:X.env.scope.kind = .function
 glob:X.env.globals=mainGlobals
 blt:X.env.builtins=builtinsNs
 above:X.s₀.heap.objs.size<=X.env.locals
 inj:∀x y c,X.env.cells.lookup x=some c->X.env.cells.lookup y=some c->x=y
 has:∀x,(X.env.kindOf x=some .cell\/X.env.kindOf x=some .free)->∃c,X.env.cells.lookup x=some c
 cab:∀x c,X.fn x=true->X.env.cells.lookup x=some c->X.s₀.heap.objs.size<=c
 hd:X.calm=true->X.A.handled=none
 frames:X.A.frames=some X.stack
 stk:X.stack=X.outer\/(X.stack=X.env::X.outer/\X.env.frame=some X.env.locals)
 exf:∀b ∈ X.ex,b≠X.env.locals/\∀x c,X.env.cells.lookup x=some c->c≠b
 bs:∀b o,X.base.get? b=some o->X.s₀.heap.get? b=some o/\X.H₀ b=none
 bsz:X.base.objs.size<=X.s₀.heap.objs.size
 noex:∀b o,X.base.get? b=some o->b ∉ X.ex
 exfs:∀b ∈ X.ex,b ∉ X.fs
 funs:X.s₀.heap.FunFrames X.base X.outer
 frf:∀b ∈ X.fs,X.H₀ b=none
structure Inv(X:Cx)(pins:List (Addr×Obj))(σ:List (Option V))(H:Hp)(s:Shared):Prop where
 ok:X.Ok
 os:s.os=X.s₀.os
 bare:AllBare s.gens
 base:Un X.fs X.ex X.H₀ H X.s₀.heap s.heap
 loc:∃m,s.heap.Ns X.env.locals m/\∀(i:Nat) (x:Str) (v:V),X.N[i]? = some x->σ[i]? = some (some v)->n3 X.env.scope x->∃u,RelV v u/\Look X.env s.heap m x u
 cell:∀x c,X.env.cells.lookup x=some c->∃v,s.heap.IsCell c v
 free:H X.env.locals=none
 freeC:∀x c,X.env.cells.lookup x=some c->H c=none
 pin:∀p ∈ X.pn++pins,s.heap.get? p.1=some p.2/\H p.1=none/\p.1≠X.env.locals/\p.1 ∉ X.fs/\∀v,p.2.data ≠ .cell v
 hok:Q9 X.prog X.w H s.heap
 len:σ.length=X.N.length
section
variable{X:Cx}{pins:List (Addr×Obj)}{σ:List (Option V)}{H H':Hp}{s:Shared}{h':Heap}
def Cx.Ok.nofr(ok:X.Ok)(e:X.base.get? b=some o):b ∉ X.fs:=λhb=>by
 have:=(ok.funs.mem hb).1;rw[e]at this;cases this
theorem Inv.bs(I:Inv X pins σ H s):∀b o,X.base.get? b=some o->s.heap.get? b=some o/\H b=none:=λb o e=>
 ⟨I.base.keep b o (I.ok.bs b o e).1 (I.ok.bs b o e).2 (I.ok.nofr e)<|I.ok.noex b o e,I.base.free b o (I.ok.bs b o e).1 (I.ok.bs b o e).2<|I.ok.noex b o e⟩
def Inv.bk(I:Inv X pins σ H s):∀b o,X.base.get? b=some o->s.heap.get? b=some o:=λb o e=>(I.bs b o e).1
theorem Inv.mod(I:Inv X pins σ H s):Mod X.K X.mg X.base:=I.ok.mod
def Inv.kIn(I:Inv X pins σ H s):X.K.In s.heap:=I.ok.mod.kin.keeps I.bk
theorem Inv.lt(I:Inv X pins σ H s):X.env.locals<s.heap.objs.size:=let⟨_,hn,_⟩:=I.loc;hn.lt
def Inv.sz(I:Inv X pins σ H s):X.s₀.heap.objs.size<=s.heap.objs.size:=zzO I.ok.above<|Nat.le_of_lt I.lt
def Inv.nofs(I:Inv X pins σ H s)(h:s.heap.objs.size<=a):a ∉ X.fs:=λhb=>by
 obtain⟨_,o,ho,_⟩:=I.ok.funs.mem hb;exact absurd (zzK (zxG ho)<|zzO I.sz h)<|Nat.lt_irrefl _
def Inv.cne(I:Inv X pins σ H s):∀x c,X.env.cells.lookup x=some c->c≠X.env.locals:=λx c e z=>by
 obtain⟨v,o,ho,hd⟩:=I.cell x c e;obtain⟨m,⟨o',es,ep,ho',hd',_⟩,_⟩:=I.loc;rw[z,ho']at ho;cases ho;rw[hd']at hd;cases hd
theorem Inv.funs(I:Inv X pins σ H s):s.heap.FunFrames X.base X.outer:=by
 have all:∀l,(∀b ∈ B3 l,b ∈ X.fs)->X.s₀.heap.FunFrames X.base l->s.heap.FunFrames X.base l:=by
  intro l
  induction l with
  |nil=>intro _ _;trivial
  |cons env r ih=>
   intro hs hl;obtain⟨hk,⟨L,o,hf,hn,ho,hd⟩,hr⟩:=hl;have hL:=hs L (by unfold B3;rw[List.filterMap_cons,hf];exact zzF);obtain⟨sl,e⟩:=I.base.slot L o ho (I.ok.frf L hL) hL λz=>I.ok.exfs L z hL;exact⟨hk,⟨L,_,hf,hn,e,hd⟩,ih (λb hb=>hs b<|by unfold B3;rw[List.filterMap_cons,hf];exact zzD _ hb) hr⟩
 exact all X.outer (λ_ hb=>hb) I.ok.funs
theorem Inv.stack(I:Inv X pins σ H s):s.heap.FunFrames X.base X.stack:=by
 rcases I.ok.stk with e|⟨e,hf⟩
 . rw[e];exact I.funs
 . rw[e];obtain⟨m,hn,_⟩:=I.loc;refine .cons (by rw[I.ok.kind];decide) hf hn ?_ I.funs;exact Heap.get?_none_of_le<|zzO I.ok.bsz I.ok.above
def Inv.stkSub(I:Inv X pins σ H s):∀b ∈ B3 X.stack,b ∈ X.env.locals::X.fs:=λb hb=>by
 rcases I.ok.stk with e|⟨e,hf⟩
 . rw[e]at hb;exact zzD _ hb
 . rw[e]at hb;unfold B3 at hb
   rwa [List.filterMap_cons,hf]at hb
def Inv.stkFree(I:Inv X pins σ H s):∀b ∈ B3 X.stack,H b=none:=λb hb=>by
 rcases zzC.mp (I.stkSub b hb)with e|hb
 . rw[e];exact I.free
 . obtain⟨_,o,ho,_⟩:=I.ok.funs.mem hb;exact I.base.free b o ho (I.ok.frf b hb) λz=>I.ok.exfs b z hb
def Inv.step{g'}{t':Nat}{d'}{ch:List Addr}(I:Inv X pins σ H s)
 (hch:∀b ∈ ch,(b ∈ X.ex\/X.s₀.heap.objs.size<=b)/\b≠X.env.locals/\(∀x c,X.env.cells.lookup x=some c->c≠b)/\∀p ∈ X.pn++pins,p.1≠b)
 (keep:∀b o,b≠X.env.locals->b ∉ X.fs->b ∉ ch->s.heap.get? b=some o->H b=none->h'.get? b=some o)
 (slot:∀b o,b≠X.env.locals->b ∈ X.fs->b ∉ ch->s.heap.get? b=some o->H b=none->∃sl,h'.get? b=some {o with slots:=sl}) (free:∀b o,b ∉ ch->s.heap.get? b=some o->H b=none->H' b=none)
 (there:∀b o,b ∉ ch->s.heap.get? b=some o->∃o',h'.get? b=some o')
 (tups:∀b xs,H b=some (.tup xs)->H' b=some (.tup xs)) (frzs:∀b o u,H b=some (.frz o u)->H' b=some (.frz o u)) (tbls:∀b ps,H b=some (.tbl ps)->∃more,H' b=some (.tbl<|ps++more))
 (ns:∀m,s.heap.Ns X.env.locals m->h'.Ns X.env.locals m) (hok:Q9 X.prog X.w H' h') (hg:AllBare g'):
 Inv X pins σ H' {s with heap:=h',gens:=g',drawn:=d',toks:=t'}:=by
 have neL:∀b o,X.s₀.heap.get? b=some o->b≠X.env.locals:=λb o e=>zzQ<|zzK (zxG e) I.ok.above;have neC:∀b o,X.s₀.heap.get? b=some o->b ∉ X.ex->b ∉ ch:=λb o e hx hb=>by
  rcases(hch b hb).1 with z|z
  . exact hx z
  . exact absurd (zzK (zxG e) z)<|Nat.lt_irrefl _
 have cellK:∀x c,X.env.cells.lookup x=some c->∀v,s.heap.IsCell c v->h'.IsCell c v:=λx c e v ⟨o,ho,hd⟩=>by
  have nch:=λz=>(hch c z).2.2.1 x c e rfl
  by_cases hc:c ∈ X.fs
  . obtain⟨sl,q⟩:=slot c o (I.cne x c e) hc nch ho<|I.freeC x c e;exact⟨_,q,hd⟩
  . exact⟨o,keep c o (I.cne x c e) hc nch ho<|I.freeC x c e,hd⟩
 refine⟨I.ok,I.os,hg,⟨λb o e n hb hx=>?_,λb o e n hb hx=>?_,λb o e n hx=>?_,λb o e hx=>?_,λb xs e=>tups b xs<|I.base.tups b xs e,λb o xs e=>frzs b o xs<|I.base.frzs b o xs e,λb ps e=>?_⟩, ?_,λx c e=>?_, ?_,λx c e=>?_,λp hp=>?_,hok,I.len⟩
 . exact keep b o (neL b o e) hb (neC b o e hx) (I.base.keep b o e n hb hx)<|I.base.free b o e n hx
 . obtain⟨sl,e1⟩:=I.base.slot b o e n hb hx;obtain⟨sl',e2⟩:=slot b _ (neL b o e) hb (neC b o e hx) e1<|I.base.free b o e n hx;exact⟨sl',e2⟩
 . obtain⟨o',e1⟩:=I.base.there b o e hx;exact free b o' (neC b o e hx) e1<|I.base.free b o e n hx
 . obtain⟨o',e1⟩:=I.base.there b o e hx;exact there b o' (neC b o e hx) e1
 . obtain⟨m1,e1⟩:=I.base.tbls b ps e;obtain⟨m2,e2⟩:=tbls b _ e1;exact⟨m1++m2,by rw[e2,Array.append_assoc]⟩
 . obtain⟨m,hn,hl⟩:=I.loc;refine⟨m,ns m hn,λi x v e1 e2 e3=>?_⟩;obtain⟨u,r,l⟩:=hl i x v e1 e2 e3;refine⟨u,r, ?_⟩
   rcases l with l|⟨k,c,e,z⟩
   . exact .inl l
   . exact .inr ⟨k,c,e,cellK x c e _ z⟩
 . obtain⟨v,z⟩:=I.cell x c e;exact⟨v,cellK x c e v z⟩
 . obtain⟨m,⟨o,_,_,ho,_⟩,_⟩:=I.loc;exact free _ o (λz=>(hch _ z).2.1 rfl) ho I.free
 . obtain⟨v,o,ho,hd⟩:=I.cell x c e;exact free c o (λz=>(hch c z).2.2.1 x c e rfl) ho<|I.freeC x c e
 . obtain⟨e,n,ne,nf,d⟩:=I.pin p hp;have nch:=λz=>(hch p.1 z).2.2.2 p hp rfl;exact⟨keep p.1 p.2 ne nf nch e n,free p.1 p.2 nch e n,ne,nf,d⟩
def Inv.un{t':Nat}(I:Inv X pins σ H s)(u:Un X.fs [] H H' s.heap h')(hok:Q9 X.prog X.w H' h'):Inv X pins σ H' {s with heap:=h',toks:=t'}:=by
 obtain⟨m,⟨o,es,ep,ho,r⟩,_⟩:=id I.loc;obtain⟨sl,hL⟩:=u.any ho I.free (by simp);exact I.step (g':=s.gens) (d':=s.drawn) (ch:=[]) (λ_ z=>nomatch z) (λb o _ hb _ e n=>u.keep b o e n hb<|by simp) (λb o _ hb _ e n=>u.slot b o e n hb<|by simp) (λb o _ e n=>u.free b o e n<|by simp) (λb o _ e=>u.there b o e<|by simp) u.tups u.frzs u.tbls (λm' hm=>by
  obtain⟨o',es',ep',ho',r'⟩:=hm;rw[ho]at ho';cases ho';exact⟨_,es',ep',hL,r'⟩) hok I.bare
def Inv.call{g'}{t':Nat}{d'}{ch:List Addr}(I:Inv X pins σ H s)(u:Un (B3 X.stack) ch H H' s.heap h')(hok:Q9 X.prog X.w H' h')(hg:AllBare g')
 (hch:∀b ∈ ch,(b ∈ X.ex\/X.s₀.heap.objs.size<=b)/\b≠X.env.locals/\(∀x c,X.env.cells.lookup x=some c->c≠b)/\∀p ∈ X.pn++pins,p.1≠b):
 Inv X pins σ H' {s with heap:=h',gens:=g',drawn:=d',toks:=t'}:=by
 obtain⟨m,⟨o,es,ep,ho,r⟩,_⟩:=id I.loc;obtain⟨sl,hL⟩:=u.any ho I.free λz=>(hch _ z).2.1 rfl;exact I.step hch (λb o hL hb hc e n=>u.keep b o e n (λz=>(zzC.mp<|I.stkSub b z).elim hL hb) hc) (λb o _ _ hc e n=>u.any e n hc) (λb o hc e n=>u.free b o e n hc) (λb o hc e=>u.there b o e hc) u.tups u.frzs u.tbls (λm' hm=>by
  obtain⟨o',es',ep',ho',r'⟩:=hm;rw[ho]at ho';cases ho';exact⟨_,es',ep',hL,r'⟩) hok hg
def Inv.turned{t':Nat}{it:Addr}(I:Inv X pins σ H s)(k:∀b o,b≠it->s.heap.get? b=some o->h'.get? b=some o)(hn:H it=none)(hL:it≠X.env.locals)
 (h1:it ∈ X.ex\/X.s₀.heap.objs.size<=it) (h2:∀x c,X.env.cells.lookup x=some c->c≠it) (h3:∀p ∈ X.pn++pins,p.1≠it):Inv X pins σ H {s with heap:=h',toks:=t'}:=by
 have nit:∀b u,H b=some u->b≠it:=λb u e z=>by rw[z,hn]at e;cases e
 refine I.step (g':=s.gens) (d':=s.drawn) (ch:=[it]) (λb hb=>?_) (λb o _ _ hc e _=>k b o (λz=>hc<|by simp[z]) e) (λb o _ _ hc e _=>⟨o.slots,k b o (λz=>hc<|by simp[z]) e⟩) (λ_ _ _ _ n=>n)
  (λb o hc e=>⟨o,k b o (λz=>hc<|by simp[z]) e⟩) (λ_ _ e=>e) (λ_ _ _ e=>e) (λb ps e=>⟨#[],by rw[e];simp⟩) (λm hm=>?_) (λb u e=>?_) I.bare
 . have e:b=it:=by simpa using hb
   subst e;exact⟨h1,hL,h2,h3⟩
 . obtain⟨o,es,ep,ho,r⟩:=hm;exact⟨o,es,ep,k _ o (Ne.symm hL) ho,r⟩
 . refine(I.hok b u e).stay (λc v hc q=>k c v ?_ q) (λ_ q=>q) λ_ _ q=>q
   rcases hc with z|z
   . rw[z];exact nit b u e
   . exact nit c _ z
def Inv.tok(I:Inv X pins σ H s)(t:Nat):Inv X pins σ H {s with toks:=t}:=I.un (h':=s.heap) (t':=t) Un.refl I.hok
theorem Inv.kept(I:Inv X pins σ H s)(k:∀b u,s.heap.get? b=some u->h'.get? b=some u):Inv X pins σ H {s with heap:=h',toks:=t'}:=I.un (Un.kept k)<|I.hok.kept k
theorem Inv.laid(I:Inv X pins σ H s)(k:∀b u,s.heap.get? b=some u->h'.get? b=some u)(hp:s.heap.objs.size<=a)(new:vM X.prog X.w (upd H a o) h' a o):
 Inv X pins σ (upd H a o) {s with heap:=h',toks:=t'}:=I.un (Un.laid k hp<|I.hok.fresh hp)<|I.hok.laid k hp new
theorem Inv.write(I:Inv X pins σ H s)(mu:mC (H x))(he:e=x\/H e=some (.own x))(k:∀b u,b≠e->s.heap.get? b=some u->h'.get? b=some u)(heo:∃u,h'.get? e=some u)
 (new:vM X.prog X.w (upd H x o) h' x o):Inv X pins σ (upd H x o) {s with heap:=h',toks:=t'}:=I.un (Un.write mu he k heo)<|I.hok.write mu he k heo new
def Inv.weak(I:Inv X pins σ H s)(hl:σ'.length=σ.length)(w:∀(i:Nat) v,σ'[i]? = some (some v)->σ[i]? = some (some v)):Inv X pins σ' H s:=
 ⟨I.ok,I.os,I.bare,I.base,let⟨m,hn,hl'⟩:=I.loc;⟨m,hn,λi x v e1 e2 e3=>hl' i x v e1 (w i v e2) e3⟩,I.cell,I.free,I.freeC,I.pin,I.hok,hl.trans I.len⟩
def Inv.pins_of(I:Inv X pins σ H s)(h:∀p ∈ pins',s.heap.get? p.1=some p.2/\H p.1=none/\p.1≠X.env.locals/\p.1 ∉ X.fs/\∀v,p.2.data ≠ .cell v):Inv X pins' σ H s:=
 ⟨I.ok,I.os,I.bare,I.base,I.loc,I.cell,I.free,I.freeC,λp hp=>(zzM.mp hp).elim (λz=>I.pin p<|zzP _ z)<|h p,I.hok,I.len⟩
def LX{N:List Str}(hN:N.Nodup){i j:Nat}{x}(a:N[i]? = some x)(b:N[j]? = some x):i=j:=by
 obtain⟨h1,e1⟩:=zzG.mp a;obtain⟨h2,e2⟩:=zzG.mp b;exact(List.getElem_inj hN).mp<|e1.trans e2.symm
def Gp{M A E}{i:Nat}{x v u Q}(I:Inv X pins σ H s)(hN:X.N.Nodup)(hi:X.N[i]? = some x)(hx:Loc X.env.scope x)(r:RelV v u)
 (h:∀s',Inv X pins (σ.set i<|some v) H s'->(∃a,Heap.SameBut a s.heap s'.heap/\(a=X.env.locals\/X.env.cells.lookup x=some a))->Q () s') (hf:X.fn x=true\/X.env.scope.names.lookup x=some .local:=by first|exact .inl rfl|exact .inr rfl|assumption):wpAny M A (storeName X.env x u) Q E s:=by
 obtain⟨m,hn,hl⟩:=id I.loc;have hcls:(X.env.scope.kind == .class||(X.env.scope.kind == .module&&X.env.locals != X.env.globals))=false:=by rw[I.ok.kind];rfl
 have hiσ:i<σ.length:=by rw[I.len];exact(zzG.mp hi).1
 have cne:=I.cne;have tracked:∀{a:Addr}{h':Heap},(∃o,s.heap.get? a=some o/\H a=none)->Heap.SameBut a s.heap h'->Q9 X.prog X.w H h':=λ{a h'} ha hs b ob e=>by
  obtain⟨_,_,hfree⟩:=ha;refine(I.hok b ob e).stay (λc w' hc q=>(hs.2 c ?_).trans q) (λ_ q=>q) λ_ _ q=>q
  rintro rfl
  rcases hc with rfl|hc
  . rw[hfree]at e;cases e
  . rw[hfree]at hc;cases hc
 rcases hx with hk|hk
 . refine wpAny_storeName_local hk hn (λh' hn' hs=>?_) hcls;obtain⟨oL,_,_,hoL,_⟩:=id hn;refine h _ ⟨I.ok,I.os,I.bare,⟨λb o e n hb hx=>?_,λb o e n hb hx=>?_,I.base.free,λb o e hx=>?_,I.base.tups,I.base.frzs,I.base.tbls⟩,⟨_,hn',λj y v' e1 e2 e3=>?_⟩,λy c e=>?_,I.free,I.freeC,λp hp=>?_,tracked ⟨oL,hoL,I.free⟩ hs,by simpa using I.len⟩ ⟨_,hs,.inl rfl⟩
   . exact(hs.2 b<|zzQ<|zzK (zxG e) I.ok.above).trans<|I.base.keep b o e n hb hx
   . obtain⟨sl,e1⟩:=I.base.slot b o e n hb hx;exact⟨sl,(hs.2 b<|zzQ<|zzK (zxG e) I.ok.above).trans e1⟩
   . obtain⟨o',e1⟩:=I.base.there b o e hx;exact⟨o',(hs.2 b<|zzQ<|zzK (zxG e) I.ok.above).trans e1⟩
   . by_cases hj:j=i
     . subst hj;rw[hi]at e1;cases e1;rw[zyK hiσ]at e2;cases e2;exact⟨u,r,.inl ⟨hk,by simp⟩⟩
     . rw[zzY<|Ne.symm hj]at e2;obtain⟨u',r',q⟩:=hl j y v' e1 e2 e3;refine⟨u',r', ?_⟩
       rcases q with⟨k,e⟩|⟨k,c,e,z⟩
       . refine .inl ⟨k, ?_⟩;have:y≠x:=λe=>hj<|LX hN e1<|e ▸ hi;simp[this,e]
       . exact .inr ⟨k,c,e,z.sameBut hs<|cne y c e⟩
   . obtain⟨w',z⟩:=I.cell y c e;exact⟨w',z.sameBut hs<|cne y c e⟩
   . obtain⟨e,n,ne,nf,d⟩:=I.pin p hp;exact⟨(hs.2 p.1 ne).trans e,n,ne,nf,d⟩
 . have hfn:X.fn x=true:=by
    rcases hf with z|z
    . exact z
    . rw[z]at hk;cases hk
   obtain⟨c,hc⟩:=I.ok.has x<|.inl hk;obtain⟨w',z⟩:=I.cell x c hc;refine wpAny_storeName_cell I.ok.kind hk hc z λh' hc' hs=>?_;obtain⟨oc,hoc,hocd⟩:=id z;refine h {s with heap:=h'} ⟨I.ok,I.os,I.bare,⟨λb o e n hb hx=>?_,λb o e n hb hx=>?_,I.base.free,λb o e hx=>?_,I.base.tups,I.base.frzs,I.base.tbls⟩,⟨m,hn.sameBut hs<|Ne.symm<|cne x c hc,λj y v' e1 e2 e3=>?_⟩,λy c' e=>?_,I.free,I.freeC,λp hp=>?_,tracked ⟨oc,hoc,I.freeC x c hc⟩ hs,by simpa using I.len⟩ ⟨c,hs,.inr hc⟩
   . exact(hs.2 b<|zzQ<|zzK (zxG e)<|I.ok.cab x c hfn hc).trans<|I.base.keep b o e n hb hx
   . obtain⟨sl,e1⟩:=I.base.slot b o e n hb hx;exact⟨sl,(hs.2 b<|zzQ<|zzK (zxG e)<|I.ok.cab x c hfn hc).trans e1⟩
   . obtain⟨o',e1⟩:=I.base.there b o e hx;exact⟨o',(hs.2 b<|zzQ<|zzK (zxG e)<|I.ok.cab x c hfn hc).trans e1⟩
   . by_cases hj:j=i
     . subst hj;rw[hi]at e1;cases e1;rw[zyK hiσ]at e2;cases e2;exact⟨u,r,.inr ⟨.inl hk,c,hc,hc'⟩⟩
     . rw[zzY<|Ne.symm hj]at e2;obtain⟨u',r',q⟩:=hl j y v' e1 e2 e3;refine⟨u',r', ?_⟩
       rcases q with q|⟨k,c',e,z'⟩
       . exact .inl q
       . refine .inr ⟨k,c',e,z'.sameBut hs ?_⟩
         rintro rfl
         exact hj<|LX hN e1<|I.ok.inj _ _ _ e hc ▸ hi
   . by_cases hcc:c'=c
     . subst hcc;exact⟨_,hc'⟩
     . obtain⟨w2,z2⟩:=I.cell y c' e;exact⟨w2,z2.sameBut hs hcc⟩
   . obtain⟨e,n,ne,nf,d⟩:=I.pin p hp;refine⟨(hs.2 p.1 ?_).trans e,n,ne,nf,d⟩;intro q;rw[q,hoc]at e;have q':oc=p.2:=zzZ e;exact d w' (by rwa [<-q'])
def LK(I:Inv X pins σ H s)(hN:X.N.Nodup)(hi:X.N[i]? = some x)(hx:Loc X.env.scope x)(r:RelV v u)
 (h:∀s',Inv X pins (σ.set i<|some v) H s'->Q () s') (hf:X.fn x=true\/X.env.scope.names.lookup x=some .local:=by first|exact .inl rfl|exact .inr rfl|assumption):wpAny M A (storeName X.env x u) Q E s:=
 Gp I hN hi hx r (λs' I' _=>h s' I') hf
def Inv.call'(I:Inv X pins σ H s)(ho:s'.os=s.os)(u:Un (B3 X.stack) ch H H' s.heap s'.heap)(hok:Q9 X.prog X.w H' s'.heap)(hg:AllBare s'.gens)
 (hch:∀b ∈ ch,(b ∈ X.ex\/X.s₀.heap.objs.size<=b)/\b≠X.env.locals/\(∀x c,X.env.cells.lookup x=some c->c≠b)/\∀p ∈ X.pn++pins,p.1≠b):Inv X pins σ H' s':=by
 obtain⟨h',g',d',t',o'⟩:=s';have e:=ho;subst e;exact I.call (g':=g') (t':=t') (d':=d') u hok hg hch
end
abbrev XK:=Value->Option Addr->Hp->Prop
abbrev St:=List<|Option V
abbrev VK:=V->Hp->Prop
abbrev TE:=St->Hp->VK->Prop
abbrev TT:=St->Hp->(Bool->Hp->Prop)->Prop
abbrev TA:=St->Hp->(List V->Hp->Prop)->Prop
structure Ends where
 nx:St->Hp->Prop
 rt:VK
 bk:St->Hp->Prop:=λ_ _=>False
 ct:St->Hp->Prop:=λ_ _=>False
abbrev TS:=Ends->St->Hp->Prop
def EP(X:Cx)(pins:List (Addr×Obj))(σ:St)(Q:VK)(u:Value)(s':Shared):Prop:=∃v H',Inv X pins σ H' s'/\RelV v u/\Q v H'
def TP(X:Cx)(pins:List (Addr×Obj))(σ:St)(Q:Bool->Hp->Prop)(b:Bool)(s':Shared):Prop:=∃H',Inv X pins σ H' s'/\Q b H'
def AP(X:Cx)(pins:List (Addr×Obj))(σ:St)(Q:List V->Hp->Prop)(us:List Value)(s':Shared):Prop:=∃vs H',Inv X pins σ H' s'/\zQ vs us/\Q vs H'
def SP(X:Cx)(pins:List (Addr×Obj))(D:Ends)(f:Flow)(s':Shared):Prop:=
 match f with
 | .next=>∃σ' H',Inv X pins σ' H' s'/\D.nx σ' H'
 | .brk=>∃σ' H',Inv X pins σ' H' s'/\D.bk σ' H'
 | .cont=>∃σ' H',Inv X pins σ' H' s'/\D.ct σ' H'
 | .ret u=>∃v σ' H',Inv X pins σ' H' s'/\RelV v u/\D.rt v H'
def PE(X:Cx)(e:Expr)(t:TE):Prop:=
 ∀(pins:List (Addr×Obj)) (s:Shared) (σ:St) (H:Hp) (Q:VK),Inv X pins σ H s->t σ H Q->wpAny (model X.prog X.w) X.A (eval e X.env) (EP X pins σ Q) X.xe s
def PT(X:Cx)(e:Expr)(t:TT):Prop:=
 ∀(pins:List (Addr×Obj)) (s:Shared) (σ:St) (H:Hp) (Q:Bool->Hp->Prop),Inv X pins σ H s->t σ H Q->wpAny (model X.prog X.w) X.A (isTrue e X.env<|eval e X.env) (TP X pins σ Q) X.xe s
def PW(X:Cx)(e:Expr)(t:TT):Prop:=
 ∀(whole:Sem Value) (pins:List (Addr×Obj)) (s:Shared) (σ:St) (H:Hp) (Q:Bool->Hp->Prop),Inv X pins σ H s->t σ H Q->wpAny (model X.prog X.w) X.A (isTrue e X.env whole) (TP X pins σ Q) X.xe s
def PW.pt(h:PW X e t):PT X e t:=h _
def PA(X:Cx)(es:List Expr)(t:TA):Prop:=
 ∀(pos:Pos) (pins:List (Addr×Obj)) (s:Shared) (σ:St) (H:Hp) (Q:List V->Hp->Prop),Inv X pins σ H s->t σ H Q->wpAny (model X.prog X.w) X.A (spliced<|backTo pos<|starEach es X.env) (AP X pins σ Q) X.xe s
def PS(X:Cx)(st:Stmt)(t:TS):Prop:=
 ∀(pins:List (Addr×Obj)) (s:Shared) (σ:St) (H:Hp) (D:Ends),Inv X pins σ H s->t D σ H->wpAny (model X.prog X.w) X.A (exec st X.env) (SP X pins D) X.xe s
def Kt(X:Cx)(st:List Stmt)(t:TS):Prop:=
 ∀(pins:List (Addr×Obj)) (s:Shared) (σ:St) (H:Hp) (D:Ends),Inv X pins σ H s->t D σ H->wpAny (model X.prog X.w) X.A (execs st X.env) (SP X pins D) X.xe s
def wA(h:wpAny M A t Q E s)(hQ:∀a s,Q a s->Q' a s):wpAny M A t Q' E s:=zxK h hQ λ_ _ x=>x
end L2
namespace L2
open PySem PySem.Spec PyProof.Rows
section
variable{X:Cx}
def W5(i:Nat):TE:=λσ H Q=>∃v,σ[i]? = some (some v)/\Q v H
def tC(v:V):TE:=λ_ H Q=>Q v H
def OC(hN:X.N[i]? = some x)(hv:n3 X.env.scope x)(hd:(x==("__debug__":Str))=false:=by decide)(hcd:(x==("__classdict__":Str))=false:=by decide):PE X (.Name x pos) (W5 i):=by
 intro pins s σ H Q I h;obtain⟨v,e,h⟩:=h;obtain⟨m,hn,hl⟩:=I.loc;obtain⟨u,r,l⟩:=hl i x v hN e hv;have fin:EP X pins σ Q u s:=⟨v,H,I,r,h⟩
 rcases l with⟨hk,hm⟩|⟨hk,c,hc,hcell⟩
 . exact wpAny_Name (wpAny_loadName_local I.ok.kind hk hn hm fin) hd
 . rcases hk with hk|hk
   . exact wpAny_Name (wpAny_loadName_cell I.ok.kind hk hc hcell fin) hd
   . exact wpAny_Name (wpAny_loadName_free I.ok.kind hk hc hcell fin hcd) hd
def um:PE X (.Constant (.int i) j pos) (tC<|.int i):=λ_ _ _ H _ I h=>wpAny_Constant_int ⟨.int i,H,I.tok _,⟨_,rfl⟩,h⟩
def oI:PE X (.Constant (.bool b) j pos) (tC<|.bl b):=λ_ _ _ H _ I h=>Constant_bool ⟨.bl b,H,I,rfl,h⟩
def A9:PE X (.Constant .none j pos) (tC .non):=λ_ _ _ H _ I h=>Constant_none ⟨.non,H,I,rfl,h⟩
def D7:PE X (.Constant (.str x) j pos) (tC<|.str x):=λ_ _ _ H _ I h=>Calls.Constant_str ⟨.str x,H,I.tok _,⟨_,rfl⟩,h⟩
def Gl(X:Cx)(x:Str):Prop:=X.env.kindOf x=some .globalImplicit
def Le(I:Inv X pins σ H s)(hg:Gl X x)(hm:X.mg x=some u)(h:Q u s)
 (hd:(x==("__debug__":Str))=false:=by decide):wpAny (model X.prog X.w) X.A (eval (.Name x pos) X.env) Q E s:=
 Calls.Name_function_global I.ok.kind hg (Calls.loadGlobal_global (by rw[I.ok.glob];exact I.mod.glob.keeps I.bk) hm h) hd
def W_(I:Inv X pins σ H s)(hg:Gl X x)(hm:X.mg x=none)(hv:bootBuiltins x=some u)(h:Q u s)
 (hn:x≠"__name__":=by decide) (hd:(x==("__debug__":Str))=false:=by decide):wpAny (model X.prog X.w) X.A (eval (.Name x pos) X.env) Q E s:=by
 obtain⟨mb,h1,h2⟩:=I.mod.blt;exact Calls.Name_function_global I.ok.kind hg (Calls.loadGlobal_builtin (by rw[I.ok.glob];exact I.mod.glob.keeps I.bk) hm (by rw[I.ok.blt];exact h1.keeps I.bk) ((h2 x hn).trans hv) h) hd
def C7(hg:Gl X x)(hm:X.mg x=some u)(r:RelV v u)(hd:(x==("__debug__":Str))=false:=by decide):PE X (.Name x pos) (tC v):=
 λ_ _ _ H _ I h=>Le I hg hm ⟨v,H,I,r,h⟩ hd
def JT(hg:Gl X x)(hm:X.mg x=none)(hv:bootBuiltins x=some u)(r:RelV v u)(hn:x≠"__name__":=by decide)(hd:(x==("__debug__":Str))=false:=by decide):PE X (.Name x pos) (tC v):=
 λ_ _ _ H _ I h=>W_ I hg hm hv ⟨v,H,I,r,h⟩ hn hd
variable{a b:Expr}{ta tb:TE}{pos:Pos}
variable{tA tB':TT}{rest:List Expr}
def lX(t u:TT):TT:=λσ H Q=>t σ H λc H1=>if c=true then u σ H1 Q else Q false H1
def gb(t u:TT):TT:=λσ H Q=>t σ H λc H1=>if c=true then Q true H1 else u σ H1 Q
def kB(t:TT):TT:=λσ H Q=>t σ H λc H1=>Q (!c) H1
def IP(ha:PT X a tA):PW X (.BoolOp .And [a] pos) tA:=by
 intro wh pins s σ H Q I h;refine isTrue_and<|wA (ha pins s σ H Q I h) λc s1 e=>?_;cases c with
 |true=>exact isTrue_and_nil e
 |false=>exact e
def Do(ha:PT X a tA):PW X (.BoolOp .Or [a] pos) tA:=by
 intro wh pins s σ H Q I h;refine isTrue_or<|wA (ha pins s σ H Q I h) λc s1 e=>?_;cases c with
 |false=>exact isTrue_or_nil e
 |true=>exact e
def D_(ha:PT X a tA)(hb:PW X (.BoolOp .And (b::rest) pos) tB'):PW X (.BoolOp .And (a::b::rest) pos) (lX tA tB'):=by
 intro wh pins s σ H Q I h;refine isTrue_and<|wA (ha pins s σ H _ I h) λc s1 ⟨H1,I1,q1⟩=>?_;cases c with
 |true=>exact hb wh pins s1 σ H1 Q I1 q1
 |false=>exact⟨H1,I1,q1⟩
def qi(ha:PT X a tA)(hb:PW X (.BoolOp .Or (b::rest) pos) tB'):PW X (.BoolOp .Or (a::b::rest) pos) (gb tA tB'):=by
 intro wh pins s σ H Q I h;refine isTrue_or<|wA (ha pins s σ H _ I h) λc s1 ⟨H1,I1,q1⟩=>?_;cases c with
 |true=>exact⟨H1,I1,q1⟩
 |false=>exact hb wh pins s1 σ H1 Q I1 q1
def D2(ha:PT X a tA):PT X (.UnaryOp .Not a pos) (kB tA):=by
 intro pins s σ H Q I h;exact isTrue_not<|ha pins s σ H _ I h
def o_(ta tb:TE):TE:=λσ H Q=>ta σ H λx H1=>∃c,x = .bl c/\if c=true then tb σ H1 Q else Q (.bl false) H1
def qb(ta:TE):TE:=λσ H Q=>ta σ H λx H1=>∃c,x = .bl c/\Q (.bl<|!c) H1
def lF(h:PE X a t):PE X (.BoolOp op [a] pos) t:=λpins s σ H Q I hw=>BoolOp_one<|h pins s σ H Q I hw
def uq(ha:PE X a ta)(hb:PE X (.BoolOp .And (b::rest) pos) tb):PE X (.BoolOp .And (a::b::rest) pos) (o_ ta tb):=by
 intro pins s σ H Q I h;refine BoolOp_and<|wA (ha pins s σ H _ I h) λv s1 ⟨x,H1,I1,r1,q1⟩=>?_;obtain⟨c,rfl,q1⟩:=q1;cases r1;refine wpAny_truthy_bool ?_;cases c with
 |true=>exact hb pins s1 σ H1 Q I1 q1
 |false=>exact⟨.bl false,H1,I1,rfl,q1⟩
def si(ha:PE X a ta):PE X (.UnaryOp .Not a pos) (qb ta):=by
 intro pins s σ H Q I h;refine UnaryOp_<|wA (ha pins s σ H _ I h) λv s1 ⟨x,H1,I1,r1,q1⟩=>?_;obtain⟨c,rfl,q1⟩:=q1;cases r1;exact not_of<|wpAny_truthy_bool ⟨.bl _,H1,I1,rfl,q1⟩
def iV(t:TT)(ta tb:TE):TE:=λσ H Q=>t σ H λc H1=>if c=true then ta σ H1 Q else tb σ H1 Q
def B9(hc:PT X c tA)(ha:PE X a ta)(hb:PE X b tb):PE X (.IfExp c a b pos) (iV tA ta tb):=by
 intro pins s σ H Q I h;refine wpAny_IfExp<|wA (hc pins s σ H _ I h) λd s1 ⟨H1,I1,q1⟩=>?_;cases d with
 |true=>exact ha pins s1 σ H1 Q I1 q1
 |false=>exact hb pins s1 σ H1 Q I1 q1
end
end L2
namespace L2
open PySem PySem.Spec PyProof.Rows
def Xo(K:zzA)(H:Hp)(a:Addr)(xs:List V):Prop:=
 Rd H a (.lst xs) \/
  ∃(o:Obj) (its:Array Value) (n:Nat),K.lookup a=some o/\o.cls = .type "list"/\o.dict=none/\o.data = .seq its n/\its.size<=sizeLine/\zQ xs its.toList
def Sr(K:zzA)(H:Hp)(a:Addr)(xs:List V):Prop:=
 Rd H a (.lst xs)\/∃(its:Array Value) (n:Nat),K.lookup a=some {cls:=.type "list",data:=.seq its n}/\its.size<=sizeLine/\zQ xs its.toList
def Vd(K:zzA)(H:Hp)(a:Addr)(xs:List V):Prop:=
 Rd H a (.tup xs) \/
  ∃(o:Obj) (its:Array Value) (n:Nat),K.lookup a=some o/\o.cls = .type "tuple"/\o.data = .seq its n/\its.size<=sizeLine/\zQ xs its.toList
noncomputable def m5:Value->Option V
 | .none=>some .non
 | .bool b=>some<|.bl b
 | .int i _=>some<|.int i
 | .str x _=>some<|.str x
 | .bytes b _=>some<|.byt b
 | .float b _=>some<|.flt b
 | .ref a=>some<|.ref a
 | .type n=>some (.ty n)
 |_=>none
def RelV.abs(r:RelV x u):m5 u=some x:=by
 cases x with
 |non=>cases r;rfl
 |bl _=>cases r;rfl
 |int _=>obtain⟨t,rfl⟩:=r;rfl
 |str _=>obtain⟨t,rfl⟩:=r;rfl
 |byt _=>obtain⟨t,rfl⟩:=r;rfl
 |flt _=>obtain⟨t,rfl⟩:=r;rfl
 |ref _=>cases r;rfl
 |ty _=>cases r;rfl
def RelV.inj(r:RelV x u)(q:RelV y u):x=y:=zzZ<|r.abs.symm.trans q.abs
theorem zQ.inj:∀{xs ys:List V}{us:List Value},zQ xs us->zQ ys us->xs=ys
 |_,_,_,.nil,.nil=>rfl
 |_,_,_,.cons r t,.cons r' t'=>by rw[r.inj r',zQ.inj t t']
section
variable{X:Cx}{pins:List (Addr×Obj)}{σ:St}{H:Hp}{s:Shared}{a:Addr}{xs ys:List V}
def Inv.list(I:Inv X pins σ H s)(h:Xo X.K H a xs):∃its:List Value,zQ xs its/\PlainL s.heap a its.toArray/\xs.length<=sizeLine:=by
 rcases h with h|⟨o,its,n,hk,hc,hd,hs,hz,r⟩
 . obtain⟨z,its,n,r,e⟩:=h.ok I.hok;exact⟨its,r,⟨_,n,e,rfl,rfl,rfl⟩,z⟩
 . refine⟨its.toList,r,⟨o,n,I.kIn a o hk,hc,hd,by simpa using hs⟩, ?_⟩;have e:=r.length;simp at e;exact q1M e hz
def Inv.tuple(I:Inv X pins σ H s)(h:Vd X.K H a xs):∃its:List Value,zQ xs its/\IsTup s.heap a its.toArray/\xs.length<=sizeLine:=by
 rcases h with h|⟨o,its,n,hk,hc,hs,hz,r⟩
 . obtain⟨z,its,r,p⟩:=h.ok I.hok;exact⟨its,r,p,z⟩
 . refine⟨its.toList,r,⟨o,I.kIn a o hk,hc,n,by simpa using hs⟩, ?_⟩;have e:=r.length;simp at e;exact q1M e hz
def Inv.list_inj(I:Inv X pins σ H s)(h:Xo X.K H a xs)(h':Xo X.K H a ys):xs=ys:=by
 obtain⟨its,r,⟨o,n,e,_,_,d⟩,_⟩:=I.list h;obtain⟨its',r',⟨o',n',e',_,_,d'⟩,_⟩:=I.list h';rw[e]at e';cases e';rw[d]at d';injection d' with d1 _
 have:its=its':=by simpa using congrArg Array.toList d1
 subst this;exact r.inj r'
def Inv.tuple_inj(I:Inv X pins σ H s)(h:Vd X.K H a xs)(h':Vd X.K H a ys):xs=ys:=by
 obtain⟨its,r,⟨o,e,_,n,d⟩,_⟩:=I.tuple h;obtain⟨its',r',⟨o',e',_,n',d'⟩,_⟩:=I.tuple h';rw[e]at e';cases e';rw[d]at d';injection d' with d1 _
 have:its=its':=by simpa using congrArg Array.toList d1
 subst this;exact r.inj r'
end
noncomputable abbrev Cx.wish(X:Cx)(E:Value->Shared->Prop):Cx:={X with xe:=E}
noncomputable abbrev Cx.nox(X:Cx):Cx:=X.wish λ_ _=>False
theorem Cx.Ok.wish{X:Cx}(ok:X.Ok)(E):(X.wish E).Ok:=
 ⟨ok.mod,ok.kind,ok.glob,ok.blt,ok.above,ok.inj,ok.has,ok.cab,ok.hd,ok.frames,ok.stk,ok.exf,ok.bs,ok.bsz,ok.noex,ok.exfs,ok.funs,ok.frf⟩
def Cx.Ok.unwish{X:Cx}{E}(ok:(X.wish E).Ok):X.Ok:=
 ⟨ok.mod,ok.kind,ok.glob,ok.blt,ok.above,ok.inj,ok.has,ok.cab,ok.hd,ok.frames,ok.stk,ok.exf,ok.bs,ok.bsz,ok.noex,ok.exfs,ok.funs,ok.frf⟩
section
variable{X:Cx}{pins:List (Addr×Obj)}{σ:St}{H:Hp}{s:Shared}{E:Value->Shared->Prop}
theorem Inv.wish(I:Inv X pins σ H s)(E:Value->Shared->Prop):Inv (X.wish E) pins σ H s:=⟨I.ok.wish E,I.os,I.bare,I.base,I.loc,I.cell,I.free,I.freeC,I.pin,I.hok,I.len⟩
theorem Inv.unwish(I:Inv (X.wish E) pins σ H s):Inv X pins σ H s:=⟨I.ok.unwish,I.os,I.bare,I.base,I.loc,I.cell,I.free,I.freeC,I.pin,I.hok,I.len⟩
theorem SP.unwish(h:SP (X.wish E) pins D f s'):SP X pins D f s':=by
 cases f with
 |next=>obtain⟨σ',H',I,q⟩:=h;exact⟨σ',H',I.unwish,q⟩
 |brk=>obtain⟨σ',H',I,q⟩:=h;exact⟨σ',H',I.unwish,q⟩
 |cont=>obtain⟨σ',H',I,q⟩:=h;exact⟨σ',H',I.unwish,q⟩
 |ret u=>obtain⟨v,σ',H',I,r,q⟩:=h;exact⟨v,σ',H',I.unwish,r,q⟩
theorem Kt.nox{st t}(h:Kt X.nox st t):Kt X st t:=λpins s σ H D I hw=>
 zxK (h pins s σ H D (I.wish _) hw) (λ_ _ q=>q.unwish) λ_ _ z=>False.elim z
end
section
variable{X:Cx}{st:Stmt}{rest:List Stmt}{t u:TS}{e:Expr}{te:TE}{pos:Pos}
def qo:TS:=λD σ H=>D.nx σ H
def m9(t u:TS):TS:=λD σ H=>t {D with nx:=u D} σ H
def U8:Kt X [] qo:=λ_ _ σ H _ I h=>wpAny_execs_nil ⟨σ,H,I,h⟩
def ZK(h1:PS X st t)(h2:Kt X rest u):Kt X (st::rest) (m9 t u):=by
 intro pins s σ H D I h;refine wpAny_execs_cons<|wA (h1 pins s σ H {D with nx:=u D} I h) λf s1 q=>?_;cases f with
 |next=>
  obtain⟨σ',H',I',q⟩:=q;exact h2 pins s1 σ' H' D I' q
 |ret v=>exact q
 |brk=>exact q
 |cont=>exact q
def Vn(h1:PS X st t):Kt X [st] t:=by
 intro pins s σ H D I h;refine wpAny_execs_cons<|wA (h1 pins s σ H D I h) λf s1 q=>?_;cases f with
 |next=>exact wpAny_execs_nil q
 |ret v=>exact q
 |brk=>exact q
 |cont=>exact q
def Inv.quiet(I:Inv X pins σ H s):interactive X.env=false:=by simp[interactive,I.ok.kind]
def rV(te:TE):TS:=λD σ H=>te σ H λ_ H1=>D.nx σ H1
def V5(he:PE X e te)(hs:swapsWith e none pos.line X.env=pure false:=by rfl):PS X (.Expr e pos) (rV te):=by
 intro pins s σ H D I h;exact wpAny_Expr_any (wA (he pins s σ H _ I h) λv s1 ⟨x,H1,I1,r1,q1⟩=>⟨σ,H1,I1,q1⟩) I.quiet hs
def l_(te:TE):TS:=λD σ H=>te σ H D.rt
def Og(he:PE X e te):PS X (.Return (some e) pos) (l_ te):=by
 intro pins s σ H D I h;exact wpAny_Return_some<|wA (he pins s σ H _ I h) λv s1 ⟨x,H1,I1,r1,q1⟩=>⟨x,σ,H1,I1,r1,q1⟩
def pU:TS:=λD _ H=>D.rt .non H
def JF:PS X (.Return none pos) pU:=λ_ _ σ H _ I h=>wpAny_Return_none ⟨.non,σ,H,I,rfl,h⟩
def lS(c:TT)(t u:TS):TS:=λD σ H=>c σ H λb H1=>if b=true then t D σ H1 else u D σ H1
def EA(hc:PT X c tc)(ha:Kt X a t)(hb:Kt X b u):PS X (.If c a b pos) (lS tc t u):=by
 intro pins s σ H D I h;refine wpAny_If<|wA (hc pins s σ H _ I h) λd s1 ⟨H1,I1,q1⟩=>?_;cases d with
 |true=>exact ha pins s1 σ H1 D I1 q1
 |false=>exact hb pins s1 σ H1 D I1 q1
end
abbrev TG:=V->St->Hp->(St->Hp->Prop)->Prop
abbrev D6:=List V->St->Hp->(St->Hp->Prop)->Prop
def PG(X:Cx)(target:Expr)(t:TG):Prop:=
 ∀(pins:List (Addr×Obj)) (s:Shared) (σ:St) (H:Hp) (v:V) (u:Value) (Q:St->Hp->Prop),Inv X pins σ H s->RelV v u->t v σ H Q->
  wpAny (model X.prog X.w) X.A (assign target X.env u) (λ_ s'=>∃σ' H',Inv X pins σ' H' s'/\Q σ' H') X.xe s
def Ai(X:Cx)(ts:List Expr)(t:D6):Prop:=
 ∀(pins:List (Addr×Obj)) (s:Shared) (σ:St) (H:Hp) (vs:List V) (us:List Value) (Q:St->Hp->Prop),Inv X pins σ H s->zQ vs us->t vs σ H Q->
  wpAny (model X.prog X.w) X.A (assignInOrder ((assignEach ts X.env).map (·.2)) us) (λ_ s'=>∃σ' H',Inv X pins σ' H' s'/\Q σ' H') X.xe s
section
variable{X:Cx}{pos:Pos}
def Ff(i:Nat):TG:=λv σ H Q=>Q (σ.set i<|some v) H
def Jg(hN:X.N.Nodup)(hi:X.N[i]? = some x)(hx:Loc X.env.scope x)(hf:X.fn x=true\/X.env.scope.names.lookup x=some .local:=by first|exact .inl rfl|exact .inr rfl|assumption):PG X (.Name x pos) (Ff i):=by
 intro pins s σ H v u Q I r h;exact wpAny_assign_Name<|LK I hN hi hx r (λs' I'=>⟨_,H,I',h⟩) hf
def jh:D6:=λvs σ H Q=>vs=[]/\Q σ H
def q5(t:TG)(u:D6):D6:=λvs σ H Q=>∃v r,vs=v::r/\t v σ H λσ' H'=>u r σ' H' Q
def CT:Ai X [] jh:=by
 intro pins s σ H vs us Q I r h;obtain⟨e,h⟩:=h;subst e;exact assignInOrder_nil ⟨σ,H,I,h⟩
def HR(h1:PG X e t)(h2:Ai X es u)
 (hs:(assignEach (e::es) X.env).map (·.2)=assign e X.env::(assignEach es X.env).map (·.2):=by rfl):Ai X (e::es) (q5 t u):=by
 intro pins s σ H vs us Q I r h;obtain⟨v,vr,e1,h⟩:=h;subst e1;cases r with
 |cons r rr=>
  rw[hs];refine assignInOrder_cons<|wA (h1 pins s σ H _ _ _ I r h) λ_ s1 ⟨σ1,H1,I1,q1⟩=>?_;exact h2 pins s1 σ1 H1 _ _ Q I1 rr q1
def lC(K:zzA)(n:Nat)(t:D6):TG:=λv σ H Q=>∃a xs,v = .ref a/\Vd K H a xs/\xs.length=n/\t xs σ H Q
def DN(hc:X.calm=true)(h:Ai X es t)
 (hn:(assignEach es X.env).length=n:=by rfl) (hst:(assignEach es X.env).findIdx? (·.1)=none:=by rfl):PG X (.Tuple es k pos) (lC X.K n t):=by
 intro pins s σ H v u Q I r hw;obtain⟨a,xs,e1,hq,hl,hw⟩:=hw;subst e1;cases r;obtain⟨its,rv,ht,hz⟩:=I.tuple hq;refine assign_Tuple_tuple (I.ok.hd hc) ht (by simp[hn,<-hl,rv.length]) hst λh' hx=>?_;have I1:=I.kept (t':=s.toks) λb o e=>hx b o (zzQ<|zxG e) e;exact h pins _ σ H xs _ Q I1 (by simpa using rv) hw
def tj(te:TE)(g:TG):TS:=λD σ H=>te σ H λx H1=>g x σ H1 D.nx
def Hx(he:PE X e te)(hg:PG X tg g)(hs:swapsWithSole [tg] e pos.line X.env=pure false:=by rfl)(hw:swappedStores [tg] e X.env=pure none:=by rfl)
 (h1:(assignEach [tg] X.env).map (·.2)=[assign tg X.env]:=by rfl):PS X (.Assign [tg] e pos) (tj te g):=by
 intro pins s σ H D I h;refine wpAny_Assign_stores (wA (he pins s σ H _ I h) λv s1 ⟨x,H1,I1,r1,q1⟩=>?_) hs hw;rw[h1];exact wA (hg pins s1 σ H1 x v _ I1 r1 q1) λ_ s2 q=>q
def SY(hN:X.N.Nodup)(hi:X.N[i]? = some x)(hx:Loc X.env.scope x)(he:PE X e te)(hs:swapsWith e (some<|.Name x pos') pos.line X.env=pure false:=by rfl)(hf:X.fn x=true\/X.env.scope.names.lookup x=some .local:=by first|exact .inl rfl|exact .inr rfl|assumption):
 PS X (.Assign [.Name x pos'] e pos) (tj te<|Ff i):=by
 intro pins s σ H D I h;refine wpAny_Assign_Name (wA (he pins s σ H _ I h) λv s1 ⟨y,H1,I1,r1,q1⟩=>?_) hs;exact LK I1 hN hi hx r1 (λs2 I2=>⟨_,H1,I2,q1⟩) hf
end
structure It where
 go:Nat->Hp->Prop
 yld:Nat->Hp->V->Hp->Prop
 stop:Nat->Hp->Prop
def Uw(X:Cx)(pins:List (Addr×Obj))(H:Hp)(b:Addr):Prop:=
 H b=none/\b≠X.env.locals/\b ∉ X.fs/\(b ∈ X.ex\/X.s₀.heap.objs.size<=b)/\(∀x c,X.env.cells.lookup x=some c->c≠b)/\∀p ∈ X.pn++pins,p.1≠b
def Inv.fpOk(I:Inv X pins σ H s)(hb:s.heap.objs.size<=b)(hn:H' b=none):Uw X pins H' b:=by
 refine⟨hn,Nat.ne_of_gt<|zzK I.lt hb,I.nofs hb,.inr<|zzO I.sz hb,λx c e z=>?_,λp hp z=>?_⟩
 . obtain⟨v,q⟩:=I.cell x c e;exact absurd (zzK q.lt<|by rwa [z])<|Nat.lt_irrefl _
 . exact absurd (zzK (zxG (I.pin p hp).1)<|by rwa [z])<|Nat.lt_irrefl _
structure Turn(P:Program)(w:World)(K:zzA)(tg:Expr)(J:It)(fp:List Addr)(it:Addr)(tn:Nat->Heap->Prop):Prop where
 mem:it ∈ fp
 obj:∀i h,tn i h->∀b ∈ fp,∃o,h.get? b=some o/\∀v,o.data ≠ .cell v
 keep:∀i h h',tn i h->(∀b ∈ fp,∀o,h.get? b=some o->h'.get? b=some o)->tn i h'
 item:∀(X:Cx),X.prog=P->X.w=w->X.K=K->X.calm=true->∀(i:Nat) (pins:List (Addr×Obj)) (s:Shared) (σ:St) (H:Hp) (E:Value->Shared->Prop),Inv X pins σ H s->(∀b ∈ fp,Uw X pins H b)->tn i s.heap->J.go i H->
  wpAny (model P w) X.A (pyNext<|.ref it) (λr s1=>∃u,r=some u/\
   wpAny (model P w) X.A (letOwnedTupleGo tg (.ref it) u) (λ_ s2=>∃x H',Inv X pins σ H' s2/\RelV x u/\J.yld i H x H'/\tn (i+1) s2.heap/\∀b ∈ fp,H' b=none) E s1) E s
 done:∀(X:Cx),X.prog=P->X.w=w->X.K=K->X.calm=true->∀(i:Nat) (pins:List (Addr×Obj)) (s:Shared) (σ:St) (H:Hp) (E:Value->Shared->Prop),Inv X pins σ H s->(∀b ∈ fp,Uw X pins H b)->tn i s.heap->J.stop i H->
  wpAny (model P w) X.A (pyNext<|.ref it) (λr s1=>r=none/\Inv X pins σ H s1) E s
 self:∀(A:Around) (i:Nat) (s:Shared) (Q:Value->Shared->Prop) (E:Value->Shared->Prop),tn i s.heap->Q (.ref it) s->wpAny (model P w) A (pyIter<|.ref it) Q E s
abbrev TI:=St->Hp->(It->Hp->Prop)->Prop
def jl(X:Cx)(pins:List (Addr×Obj))(σ:St)(tg:Expr)(R:It->Hp->Prop)(itv:Value)(s2:Shared):Prop:=
 ∃(it:Addr) (fp:List Addr) (tn:Nat->Heap->Prop) (J:It) (H':Hp),itv = .ref it/\Inv X pins σ H' s2/\Turn X.prog X.w X.K tg J fp it tn/\tn 0 s2.heap/\(∀b ∈ fp,Uw X pins H' b)/\R J H'
def PI(X:Cx)(tg iter:Expr)(wi:TI):Prop:=
 ∀(pins:List (Addr×Obj)) (s:Shared) (σ:St) (H:Hp) (R:It->Hp->Prop),Inv X pins σ H s->wi σ H R->
  wpAny (model X.prog X.w) X.A (eval iter X.env) (λv s1=>wpAny (model X.prog X.w) X.A (pyIter v) (jl X pins σ tg R) X.xe s1) X.xe s
def Sj(ho:s.heap.get? it=some o)(hc:o.cls = .type n)(hd:o.data = .fields vs)
 (hn : ["enumerate","zip","dict_itemiterator","dict_reverseitemiterator","odict_iterator","itertools.zip_longest","itertools.pairwise"].contains n=false) (hQ:Q () s):wpAny M A (letOwnedTupleGo tg (.ref it) u) Q E s:=by
 cases tg<;>first
  |exact zxE hQ
  |(cases u<;>first
   |exact zxE hQ
   | (refine zxD (wpAny_load ho ?_)
      rw[hc,hd];show wpAny M A (if _=true then _ else _) Q E s;rw[if_neg (by intro h;rw[hn]at h;cases h)];exact zxE hQ))
noncomputable def mB(K:zzA)(a:Addr):It:=
 ⟨λi H=>∃xs x,Xo K H a xs/\xs[i]? = some x,λi H x H'=>H'=H/\∀xs,Xo K H a xs->xs[i]? = some x,λi H=>∃xs,Xo K H a xs/\xs.length<=i⟩
noncomputable def mF(K:zzA)(a:Addr):It:=
 ⟨λi H=>∃xs x,Vd K H a xs/\xs[i]? = some x,λi H x H'=>H'=H/\∀xs,Vd K H a xs->xs[i]? = some x,λi H=>∃xs,Vd K H a xs/\xs.length<=i⟩
noncomputable def sW(lo:Int)(n:Nat):It:=⟨λi _=>i<n,λi H x H'=>H'=H/\x = .int (lo+i),λi _=>n<=i⟩
def Bk{P w K tg}(a it):Turn P w K tg (mB K a) [it] it (λi h=>h.IsListIter it a i)where
 mem:=by simp
 obj:=λi h st b hb=>by
  have e:b=it:=by simpa using hb
  subst e;obtain⟨o,e,c,d⟩:=st;exact⟨o,e,λv z=>by rw[d]at z;cases z⟩
 keep:=λi h h' st k=>st.at λo e=>k it (by simp) o e
 item:=by
  intro X hP hw hK hc i pins s σ H E I hf st hg;subst hP hw hK;obtain⟨xs,x,hq,hx⟩:=hg;obtain⟨its,rv,p,hz⟩:=I.list hq;obtain⟨u,hu,ru⟩:=rv.get hx;obtain⟨f0,f1,f2,f3,f4,f5⟩:=hf it (by simp);refine wpAny_pyNext_list_item st p.isList (by simpa using hu) λh' st' sb=>?_;have I1:=I.turned (t':=s.toks) (λb o hb e=>(sb.2 b hb).trans e) f0 f1 f3 f4 f5;obtain⟨o,e,c,d⟩:=id st';exact⟨u,rfl,Sj e c d (by decide) ⟨x,H,I1,ru,⟨rfl,λys hy=>by rwa [I.list_inj hy hq]⟩,st',λb hb=>(hf b hb).1⟩⟩
 done:=by
  intro X hP hw hK hc i pins s σ H E I hf st hg;subst hP hw hK;obtain⟨xs,hq,hx⟩:=hg;obtain⟨its,rv,p,hz⟩:=I.list hq;obtain⟨f0,f1,f2,f3,f4,f5⟩:=hf it (by simp);have hl:=rv.length;exact wpAny_pyNext_list_end (I.ok.hd hc) st p.isList (by simp;exact q0h hl hx) λh' eb=>⟨rfl,I.turned (t':=s.toks) (λb o hb e=>eb b o hb e) f0 f1 f3 f4 f5⟩
 self:=λ_ _ _ _ _ st h=>wpAny_pyIter_listiter st h
def M5{P w K tg}(a it):Turn P w K tg (mF K a) [it] it (λi h=>h.IsTupleIter it a i)where
 mem:=by simp
 obj:=λi h st b hb=>by
  have e:b=it:=by simpa using hb
  subst e;obtain⟨o,e,c,d⟩:=st;exact⟨o,e,λv z=>by rw[d]at z;cases z⟩
 keep:=λi h h' st k=>st.at λo e=>k it (by simp) o e
 item:=by
  intro X hP hw hK hc i pins s σ H E I hf st hg;subst hP hw hK;obtain⟨xs,x,hq,hx⟩:=hg;obtain⟨its,rv,p,hz⟩:=I.tuple hq;obtain⟨u,hu,ru⟩:=rv.get hx;obtain⟨f0,f1,f2,f3,f4,f5⟩:=hf it (by simp);refine wpAny_pyNext_tuple_item st (p) (by simpa using hu) λh' st' sb=>?_;have I1:=I.turned (t':=s.toks) (λb o hb e=>(sb.2 b hb).trans e) f0 f1 f3 f4 f5;obtain⟨o,e,c,d⟩:=id st';exact⟨u,rfl,Sj e c d (by decide) ⟨x,H,I1,ru,⟨rfl,λys hy=>by rwa [I.tuple_inj hy hq]⟩,st',λb hb=>(hf b hb).1⟩⟩
 done:=by
  intro X hP hw hK hc i pins s σ H E I hf st hg;subst hP hw hK;obtain⟨xs,hq,hx⟩:=hg;obtain⟨its,rv,p,hz⟩:=I.tuple hq;obtain⟨f0,f1,f2,f3,f4,f5⟩:=hf it (by simp);have hl:=rv.length;exact wpAny_pyNext_tuple_end (I.ok.hd hc) st (p) (by simp;exact q0h hl hx) λh' eb=>⟨rfl,I.turned (t':=s.toks) (λb o hb e=>eb b o hb e) f0 f1 f3 f4 f5⟩
 self:=λ_ _ _ _ _ st h=>wpAny_pyIter_tupleiter st h
def Mu{P w K tg}(it)(lo)(n:Nat):Turn P w K tg (sW lo n) [it] it (λi h=>IsRangeIter h it (lo+(i:Nat)*1) ((n:Int)-(i:Nat)) 1)where
 mem:=by simp
 obj:=λi h st b hb=>by
  have e:b=it:=by simpa using hb
  subst e;exact⟨_,st,λv z=>by
   have z':Data.fields _=Data.cell v:=z;cases z'⟩
 keep:=λi h h' st k=>k it (by simp) _ st
 item:=by
  intro X hP hw hK hc i pins s σ H E I hf st hg;subst hP hw hK;obtain⟨f0,f1,f2,f3,f4,f5⟩:=hf it (by simp);have W:=Walks.range (prog:=X.prog) (w:=X.w) (I.ok.hd hc) it lo 1 n;refine W.item i s _ _ hg st λv h' tk hv st' kk=>?_;obtain⟨t,rfl⟩:=hv;have I1:Inv X pins σ H {s with heap:=h',toks:=tk}:=I.turned (λb o hb e=>kk b o (by simpa using hb) e) f0 f1 f3 f4 f5;refine⟨_,rfl,Sj st' rfl rfl (by decide) ⟨.int _,H,I1,⟨t, ?_⟩,⟨rfl,rfl⟩,st',λb hb=>(hf b hb).1⟩⟩;rw[Int.mul_one]
 done:=by
  intro X hP hw hK hc i pins s σ H E I hf st hg;subst hP hw hK;obtain⟨f0,f1,f2,f3,f4,f5⟩:=hf it (by simp);exact wpAny_pyNext_range_end (I.ok.hd hc) st (by have:n<=i:=hg;omega) λh' eb=>⟨rfl,I.turned (t':=s.toks) (λb o hb e=>eb b o hb e) f0 f1 f3 f4 f5⟩
 self:=λ_ _ _ _ _ st h=>wpAny_pyIter_rangeiter st h
end L2
namespace L2
open PySem PySem.Spec PyProof.Rows
section
variable{X:Cx}{tg:Expr}
def ni(K:zzA)(tl:TE):TI:=λσ H R=>tl σ H λx H1=>∃a,x = .ref a/\(∃xs,Xo K H1 a xs)/\R (mB K a) H1
def mW(K:zzA)(tl:TE):TI:=λσ H R=>tl σ H λx H1=>∃a,x = .ref a/\(∃xs,Vd K H1 a xs)/\R (mF K a) H1
def Kh{l tl}(hl:PE X l tl):PI X tg l (ni X.K tl):=by
 intro pins s σ H R I h;refine wA (hl pins s σ H _ I h) λv s1 ⟨x,H1,I1,r1,q1⟩=>?_;obtain⟨a,e,⟨xs,hq⟩,q⟩:=q1;subst e;cases r1;obtain⟨its,rv,p,hz⟩:=I1.list hq;refine wpAny_pyIter_list p.isList ?_;refine⟨s1.heap.objs.size,[s1.heap.objs.size],_,_,H1,rfl,I1.kept (t':=s1.toks) λb o e=>zxF _ e,Bk a _,⟨_,zxH _ rfl,rfl,rfl⟩,λb hb=>?_,q⟩;have e:b=s1.heap.objs.size:=by simpa using hb
 subst e;exact I1.fpOk (zzN _)<|I1.hok.fresh<|zzN _
def MQ{l tl}(hl:PE X l tl):PI X tg l (mW X.K tl):=by
 intro pins s σ H R I h;refine wA (hl pins s σ H _ I h) λv s1 ⟨x,H1,I1,r1,q1⟩=>?_;obtain⟨a,e,⟨xs,hq⟩,q⟩:=q1;subst e;cases r1;obtain⟨its,rv,p,hz⟩:=I1.tuple hq;refine wpAny_pyIter_tuple (p) ?_;refine⟨s1.heap.objs.size,[s1.heap.objs.size],_,_,H1,rfl,I1.kept (t':=s1.toks) λb o e=>zxF _ e,M5 a _,⟨_,zxH _ rfl,rfl,rfl⟩,λb hb=>?_,q⟩;have e:b=s1.heap.objs.size:=by simpa using hb
 subst e;exact I1.fpOk (zzN _)<|I1.hok.fresh<|zzN _
def Lz{pins σ H s R E lo hi t u v}{tk:Nat}(I:Inv X pins σ H s)(h1 : -(2 ^ 62)<=lo)(h2:lo<2 ^ 62)(h3 : -(2 ^ 62)<=hi)(h4:hi<2 ^ 62)
 (q:R (sW lo (hi-lo).toNat) H):wpAny (model X.prog X.w) X.A (pyIter<|.ref s.heap.objs.size) (jl X pins σ tg R) E {s with heap:=s.heap.push {cls:=.type "range",data:=.fields #[.int lo t,.int hi u,.int 1 v]},toks:=tk}:=by
 refine wpAny_pyIter_range (IsRange.new ..) (small_one h1 h2 h3 h4) ?_;have I1:Inv X pins σ H {s with heap:=s.heap.push {cls:=.type "range",data:=.fields #[.int lo t,.int hi u,.int 1 v]},toks:=tk}:=I.kept λb o e=>zxF _ e;refine⟨(s.heap.push {cls:=.type "range",data:=.fields #[.int lo t,.int hi u,.int 1 v]}).objs.size,[(s.heap.push {cls:=.type "range",data:=.fields #[.int lo t,.int hi u,.int 1 v]}).objs.size],_,_,H,rfl,
  I1.kept (t':=tk) λb o e=>zxF _ e,Mu _ lo (hi-lo).toNat, ?_,λb hb=>?_,q⟩
 . have e1:lo+((0:Nat):Int)*1=lo:=by simp
   have e2:(((hi-lo).toNat:Nat):Int)-((0:Nat):Int)=Builtin.Range.rangeSize lo hi 1:=by rw[rangeSize_one];split<;>omega
   rw[e1,e2];exact zxH _ rfl
 . have e:b=(s.heap.push {cls:=.type "range",data:=.fields #[.int lo t,.int hi u,.int 1 v]}).objs.size:=by simpa using hb
   subst e;exact I1.fpOk (zzN _)<|I1.hok.fresh<|zzN _
def qQ(ta:TA):TI:=λσ H R=>ta σ H λvs H1=>∃j:Int,vs=[.int j] /\ -(2 ^ 62)<=j/\j<2 ^ 62/\R (sW 0 j.toNat) H1
def sZ(ta:TA):TI:=λσ H R=>ta σ H λvs H1=>∃i j:Int,vs=[.int i,.int j]/\(-(2 ^ 62)<=i/\i<2 ^ 62 /\ -(2 ^ 62)<=j/\j<2 ^ 62)/\R (sW i (j-i).toNat) H1
def Ge{a ta p pos}(hg:Gl X "range")(hm:X.mg "range"=none)(ha:PA X [a] ta)(hs:starEach [a] X.env=[(false,eval a X.env)]:=by rfl):PI X tg (.Call (.Name "range" p) [a] [] pos) (qQ ta):=by
 intro pins s σ H R I h;refine Call_<|W_ I hg hm boot_range<|PyProof.Rows.callWith_type1 (wA (ha pos pins s σ H _ I h) λus s1 ⟨vs,H1,I1,r1,q1⟩=>?_) hs rfl;obtain⟨j,e,q1,q2,q⟩:=q1;subst e;cases r1 with
 |cons r rr=>
  cases rr;obtain⟨t,rfl⟩:=r;exact call_range_1 (Lz I1 (by omega) (by omega) q1 q2<|by simpa using q)
def BQ(hg:Gl X "range")(hm:X.mg "range"=none)(ha:PA X [a,b] ta)(hs:starEach [a,b] X.env=[(false,eval a X.env),(false,eval b X.env)]:=by rfl)(hs2:starEach [b] X.env=[(false,eval b X.env)]:=by rfl):
 PI X tg (.Call (.Name "range" p) [a,b] [] pos) (sZ ta):=by
 intro pins s σ H R I h;refine Call_ (W_ I hg hm boot_range<|PyProof.Rows.callWith_type1 (wA (ha pos pins s σ H _ I h) λus s1 ⟨vs,H1,I1,r1,q1⟩=>?_) (by rw[hs,hs2])<|by rw[hs2];rfl);obtain⟨i,j,e,⟨q1,q2,q3,q4⟩,q⟩:=q1;subst e;cases r1 with
 |cons r rr=>
  cases rr with
  |cons r' rr=>
   cases rr;obtain⟨t,rfl⟩:=r;obtain⟨t',rfl⟩:=r';exact call_range_2<|Lz I1 q1 q2 q3 q4 q
def kW(wi:TI)(g:TG)(tb:TS):TS:=λD σ H=>wi σ H λJ H1=>∃W:Nat->Nat->St->Hp->Prop,(∃m,W 0 m σ H1)/\∀i m σ H,W i m σ H->
 (J.stop i H/\D.nx σ H)\/(J.go i H/\∃N:St->Hp->Prop,(∀σ' H',N σ' H'->∃m',m'<m/\W (i+1) m' σ' H')/\∀x H',J.yld i H x H'->g x σ H' λσ2 H2=>tb {D with nx:=N,ct:=N,bk:=D.nx} σ2 H2)
noncomputable def MH(fp:List Addr)(h:Heap):List (Addr×Obj):=fp.filterMap λb=>(h.get? b).map λo=>(b,o)
def Yv(hb:b ∈ fp)(e:h.get? b=some o):(b,o) ∈ MH fp h:=List.mem_filterMap.mpr ⟨b,hb,by rw[e];rfl⟩
def Be(hp:p ∈ MH fp h):p.1 ∈ fp/\h.get? p.1=some p.2:=by
 obtain⟨b,hb,e⟩:=List.mem_filterMap.mp hp;cases q:h.get? b with
 |none=>rw[q]at e;cases e
 |some o=>
  rw[q]at e;have e':_=p:=zzZ e;subst e';exact⟨hb,q⟩
def Inv.pinned(I:Inv X pins σ H s)(hf:∀b ∈ fp,Uw X pins H b)(ho:∀b ∈ fp,∃o,s.heap.get? b=some o/\∀v,o.data ≠ .cell v):Inv X (pins++MH fp s.heap) σ H s:=
 I.pins_of λp hp=>(zzM.mp hp).elim (λz=>I.pin p<|zzL _ z) λz=>by
  obtain⟨hb,e⟩:=Be z;obtain⟨f0,f1,f2,_⟩:=hf p.1 hb;obtain⟨o,e',d⟩:=ho p.1 hb;rw[e]at e';cases e';exact⟨e,f0,f1,f2,d⟩
def Inv.unpinned(I:Inv X (pins++pl) σ H s):Inv X pins σ H s:=I.pins_of λp hp=>I.pin p<|zzL _<|zzP _ hp
def HQ(hp:PassesOwn (model X.prog X.w) X.A X.env X.xe)(hc:X.calm=true)(hi:PI X tg iter wi)(hg:PG X tg g)(hb:Kt X body tb)
 (hs:∀x,foldedSetIterable iter X.env x=pure x:=by intro _;rfl):PS X (.For tg iter body [] pos) (kW wi g tb):=by
 intro pins s σ H D I h;refine wpAny_For (wA (hi pins s σ H _ I h) λv s1 h1=>wA h1 λitv s2 h2=>?_) hs;obtain⟨it,fp,tn,J,H2,e,I2,T,st2,f2,W,⟨m0,w0⟩,turn⟩:=h2;subst e;have stat:∀{H':Hp},(∀b ∈ fp,H' b=none)->∀b ∈ fp,Uw X pins H' b:=λhn b hb=>⟨hn b hb,(f2 b hb).2⟩;refine codeAny_forLoop_any (λn s'=>∃i σ' H',Inv X pins σ' H' s'/\tn i s'.heap/\(∀b ∈ fp,H' b=none)/\W i n σ' H') ?_ m0 ⟨0,σ,H2,I2,st2,λb hb=>(f2 b hb).1,w0⟩
 rintro n s3 ⟨i,σ3,H3,I3,st3,fr3,w3⟩
 rcases turn i n σ3 H3 w3 with⟨stop,qn⟩|⟨go,N,hN,step⟩
 . refine wpAny_passesOwn hp<|wA (T.done X rfl rfl rfl hc i pins s3 σ3 H3 X.xe I3 (stat fr3) st3 stop) λr s4 ⟨hr,I4⟩=>?_;subst hr;exact wpAny_execs_nil ⟨σ3,H3,I4,qn⟩
 . refine wpAny_passesOwn hp<|wA (T.item X rfl rfl rfl hc i pins s3 σ3 H3 X.xe I3 (stat fr3) st3 go) λr s4 ⟨u,hr,h4⟩=>?_;subst hr;refine wpAny_passesOwn hp<|wA h4 λ_ s5 ⟨x,H5,I5,r5,y5,st5,fr5⟩=>?_;have I5':=I5.pinned (stat fr5)<|T.obj _ _ st5;refine wpAny_passesOwn hp<|wA (hg _ s5 σ3 H5 x u _ I5' r5<|step x H5 y5) λ_ s6 ⟨σ6,H6,I6,q6⟩=>?_;refine wpAny_passesOwn hp<|wA (hb _ s6 σ6 H6 _ I6 q6) λf s7 q7=>?_;have again:∀{σ7:St}{H7:Hp},Inv X _ σ7 H7 s7->N σ7 H7->∃m,m<n/\∃i σ' H',Inv X pins σ' H' s7/\tn i s7.heap/\(∀b ∈ fp,H' b=none)/\W i m σ' H':=λ{σ7 H7} I7 n7=>by
    obtain⟨m',hm,w7⟩:=hN σ7 H7 n7;refine⟨m',hm,i+1,σ7,H7,I7.unpinned,T.keep _ _ _ st5 λb hb o e=>(I7.pin (b,o)<|zzL _<|zzL _<|Yv hb e).1,λb hb=>?_,w7⟩;obtain⟨o,e,d⟩:=T.obj _ _ st5 b hb;exact(I7.pin (b,o)<|zzL _<|zzL _<|Yv hb e).2.1
   cases f with
   |next=>obtain⟨σ7,H7,I7,n7⟩:=q7;exact again I7 n7
   |cont=>obtain⟨σ7,H7,I7,n7⟩:=q7;exact again I7 n7
   |brk=>obtain⟨σ7,H7,I7,q7⟩:=q7;exact⟨σ7,H7,I7.unpinned,q7⟩
   |ret v=>obtain⟨x7,σ7,H7,I7,r7,q7⟩:=q7;exact⟨x7,σ7,H7,I7.unpinned,r7,q7⟩
end
end L2
namespace L2
open PySem PySem.Spec PyProof.Rows
abbrev R2:=V->V->Hp->VK->Prop
def Qe(X:Cx)(f:Value->Value->Sem Value)(r:R2):Prop:=
 ∀(pins:List (Addr×Obj)) (s:Shared) (σ:St) (H:Hp) (x y:V) (v u:Value) (Q:VK),Inv X pins σ H s->RelV x v->RelV y u->r x y H Q->
  wpAny (model X.prog X.w) X.A (f v u) (EP X pins σ Q) X.xe s
def mf(X:Cx)(f:Value->Sem Value)(r:V->Hp->VK->Prop):Prop:=
 ∀(pins:List (Addr×Obj)) (s:Shared) (σ:St) (H:Hp) (x:V) (v:Value) (Q:VK),Inv X pins σ H s->RelV x v->r x H Q->
  wpAny (model X.prog X.w) X.A (f v) (EP X pins σ Q) X.xe s
def Yq(X:Cx)(f:Value)(r:List V->Hp->VK->Prop):Prop:=
 ∀(pins:List (Addr×Obj)) (s:Shared) (σ:St) (H:Hp) (xs:List V) (us:List Value) (Q:VK),Inv X pins σ H s->zQ xs us->r xs H Q->
  wpAny (model X.prog X.w) X.A (call f us) (EP X pins σ Q) X.xe s
def lW(X:Cx)(r:V->Hp->(Bool->Hp->Prop)->Prop):Prop:=
 ∀(pins:List (Addr×Obj)) (s:Shared) (σ:St) (H:Hp) (x:V) (v:Value) (Q:Bool->Hp->Prop),Inv X pins σ H s->RelV x v->r x H Q->
  wpAny (model X.prog X.w) X.A (truthy v) (TP X pins σ Q) X.xe s
def nU(r:R2)(ta tb:TE):TE:=λσ H Q=>ta σ H λx H1=>tb σ H1 λy H2=>r x y H2 Q
def iA(r:V->Hp->VK->Prop)(ta:TE):TE:=λσ H Q=>ta σ H λx H1=>r x H1 Q
def rI(C:Int->Int->Prop)(g:Int->Int->V):R2:=λx y H Q=>∃i j,x = .int i/\y = .int j/\C i j/\Q (g i j) H
def A3(g:Int->Int->V):R2:=λx y H Q=>∃i j,x = .int i/\y = .int j/\Q (g i j) H
def rU(g:Int->V):V->Hp->VK->Prop:=λx H Q=>∃i,x = .int i/\Q (g i) H
section
variable{X:Cx}{a b c:Expr}{ta tb tc:TE}{pos:Pos}
def uL(ha:PE X a ta)(hb:PE X b tb){pins s σ H}{R:V->V->Hp->Prop}(I:Inv X pins σ H s)
 (h:ta σ H λx H1=>tb σ H1 λy H2=>R x y H2) {Q:Value->Shared->Prop}{f:Value->Value->Sem Value}
 (hf:∀v u s2 x y H2,Inv X pins σ H2 s2->RelV x v->RelV y u->R x y H2->wpAny (model X.prog X.w) X.A (f v u) Q X.xe s2):
 wpAny (model X.prog X.w) X.A (eval a X.env) (λv s₁=>wpAny (model X.prog X.w) X.A (eval b X.env) (λu s₂=>wpAny (model X.prog X.w) X.A (f v u) Q X.xe s₂) X.xe s₁) X.xe s:=by
 refine wA (ha pins s σ H _ I h) λv s1 ⟨x,H1,I1,r1,q1⟩=>?_;refine wA (hb pins s1 σ H1 _ I1 q1) λu s2 ⟨y,H2,I2,r2,q2⟩=>?_;exact hf v u s2 x y H2 I2 r1 r2 q2
def oY{op}{r:R2}(ho:Qe X (binaryOp op) r)(ha:PE X a ta)(hb:PE X b tb):PE X (.BinOp a op b pos) (nU r ta tb):=by
 intro pins s σ H Q I h;exact wpAny_BinOp<|uL ha hb I h λv u s2 x y H2 I2 rx ry q=>ho pins s2 σ H2 x y v u Q I2 rx ry q
def pK(ho:mf X (unaryOp op) r)(ha:PE X a ta):PE X (.UnaryOp op a pos) (iA r ta):=by
 intro pins s σ H Q I h;exact UnaryOp_<|wA (ha pins s σ H _ I h) λv s1 ⟨x,H1,I1,r1,q1⟩=>ho pins s1 σ H1 x v Q I1 r1 q1
def jz{f C}{g:Int->Int->Int}
 (rule:∀(i j:Int) (t u:Tok) (s:Shared) (Q:Value->Shared->Prop) (E:Value->Shared->Prop),C i j->Q (.int (g i j) s.toks) {s with toks:=s.toks+1}->wpAny (model X.prog X.w) X.A (f (.int i t)<|.int j u) Q E s):
 Qe X f (rI C λi j=>.int<|g i j):=by
 intro pins s σ H x y v u Q I rx ry h;obtain⟨i,j,rfl,rfl,hc,q⟩:=h;obtain⟨t,rfl⟩:=rx;obtain⟨t',rfl⟩:=ry;exact rule i j t t' s _ _ hc ⟨.int _,H,I.tok _,⟨_,rfl⟩,q⟩
def qK{f}{g:Int->Int->Int}
 (rule:∀(i j:Int) (t u:Tok) (s:Shared) (Q:Value->Shared->Prop) (E:Value->Shared->Prop),Q (.int (g i j) s.toks) {s with toks:=s.toks+1}->wpAny (model X.prog X.w) X.A (f (.int i t)<|.int j u) Q E s):
 Qe X f (A3 λi j=>.int<|g i j):=by
 intro pins s σ H x y v u Q I rx ry h;obtain⟨i,j,rfl,rfl,q⟩:=h;obtain⟨t,rfl⟩:=rx;obtain⟨t',rfl⟩:=ry;exact rule i j t t' s _ _ ⟨.int _,H,I.tok _,⟨_,rfl⟩,q⟩
def Jv{f}{g:Int->Int->Bool}
 (rule:∀(i j:Int) (t u:Tok) (s:Shared) (Q:Value->Shared->Prop) (E:Value->Shared->Prop),Q (.bool<|g i j) s->wpAny (model X.prog X.w) X.A (f (.int i t)<|.int j u) Q E s):
 Qe X f (A3 λi j=>.bl<|g i j):=by
 intro pins s σ H x y v u Q I rx ry h;obtain⟨i,j,rfl,rfl,q⟩:=h;obtain⟨t,rfl⟩:=rx;obtain⟨t',rfl⟩:=ry;exact rule i j t t' s _ _ ⟨.bl _,H,I,rfl,q⟩
def kG(i j:Int):Prop:=0<j/\j<1073741824
def m4(i j:Int):Prop:=0<=j/\j<=1000000/\i.natAbs<2 ^ 64
def Dc:Qe X (binaryOp .Add) (A3 λi j=>.int<|i+j):=qK λ_ _ _ _ _ _ _ q=>add_int q
def uv:Qe X (binaryOp .Sub) (A3 λi j=>.int<|i-j):=qK λ_ _ _ _ _ _ _ q=>sub_int q
def De:Qe X (binaryOp .Mod) (rI (λ_ j=>0<j) λi j=>.int<|i%j):=jz λi j _ _ _ _ _ hc q=>mod_int' (by omega) (by rwa [Int.fmod_eq_emod_of_nonneg i<|by omega])
def sh:Qe X (binaryOp .Pow) (rI m4 λi j=>.int<|i ^ j.toNat):=jz λ_ _ _ _ _ _ _ hc q=>pow_int_small hc.1 hc.2.1 hc.2.2 q
def iS{f}{g:Int->Int}
 (rule:∀(i:Int) (t:Tok) (s:Shared) (Q:Value->Shared->Prop) (E:Value->Shared->Prop),Q (.int (g i) s.toks) {s with toks:=s.toks+1}->wpAny (model X.prog X.w) X.A (f<|.int i t) Q E s):
 mf X f (rU λi=>.int<|g i):=by
 intro pins s σ H x v Q I rx h;obtain⟨i,rfl,q⟩:=h;obtain⟨t,rfl⟩:=rx;exact rule i t s _ _ ⟨.int _,H,I.tok _,⟨_,rfl⟩,q⟩
def uQ:mf X (unaryOp .USub) (rU λi=>.int (-i)):=iS λ_ _ _ _ _ q=>neg_int q
end
section
variable{X:Cx}{a b c:Expr}{ta tb tc:TE}{pos:Pos}
def wo(I:Inv X pins σ H s)(q:Q (.bl k) H)(e:k=k'):EP X pins σ Q (.bool k') s:=by
 subst e;exact⟨.bl k,H,I,rfl,q⟩
def qd:Qe X (compareOp .Lt) (A3 λi j=>.bl<|decide (i<j)):=Jv λ_ _ _ _ _ _ _ q=>lt_int q
def oG:Qe X (compareOp .LtE) (A3 λi j=>.bl<|decide (i<=j)):=Jv λ_ _ _ _ _ _ _ q=>le_int q
def qm:Qe X (compareOp .Gt) (A3 λi j=>.bl<|decide (j<i)):=Jv λ_ _ _ _ _ _ _ q=>gt_int q
def p7:Qe X (compareOp .GtE) (A3 λi j=>.bl<|decide (j<=i)):=Jv λ_ _ _ _ _ _ _ q=>ge_int q
def Bq:Qe X (compareOp .In) (λx y H Q=>∃i j,x = .str i/\y = .str j/\Q (.bl<|!(Builtin.Str.occurrences j i 0 j.length 1).isEmpty) H):=by
 intro pins s σ H x y v u Q I rx ry h;obtain⟨i,j,rfl,rfl,q⟩:=h;obtain⟨t,rfl⟩:=rx;obtain⟨t',rfl⟩:=ry;exact in_str<|wo I q rfl
def uC:Qe X (compareOp .Is) (λx y H Q=>y = .non/\Q (.bl<|decide (x = .non)) H):=by
 intro pins s σ H x y v u Q I rx ry h;obtain⟨rfl,q⟩:=h;cases ry;refine is_none_gen<|wo I q ?_;cases x<;>first
  |(cases rx;rfl)
  |(obtain⟨t,rfl⟩:=rx;rfl)
def Ig:Qe X (compareOp .IsNot) (λx y H Q=>y = .non/\Q (.bl<|!decide (x = .non)) H):=by
 intro pins s σ H x y v u Q I rx ry h;obtain⟨rfl,q⟩:=h;cases ry;refine isnot_none_gen<|wo I q ?_;cases x<;>first
  |(cases rx;rfl)
  |(obtain⟨t,rfl⟩:=rx;rfl)
def GZ:Qe X (compareOp .NotIn) (λx y H Q=>∃i j,x = .str i/\y = .str j/\Q (.bl<|!(!(Builtin.Str.occurrences j i 0 j.length 1).isEmpty)) H):=by
 intro pins s σ H x y v u Q I rx ry h;obtain⟨i,j,rfl,rfl,q⟩:=h;obtain⟨t,rfl⟩:=rx;obtain⟨t',rfl⟩:=ry;exact notIn_str<|wo I q rfl
def OH(b)(h:op ≠ .In:=by decide)(h2:op ≠ .NotIn:=by decide):behindInMarks op b=false:=by
 have e1:(op==CmpOp.In)=false:=by cases op<;>first|rfl|exact absurd rfl h
 have e2:(op==CmpOp.NotIn)=false:=by cases op<;>first|rfl|exact absurd rfl h2
 cases b<;>simp[behindInMarks,e1,e2]
def CC{op}{r:R2}(ho:Qe X (compareOp op) r)(ha:PE X a ta)(hb:PE X b tb)(hm:behindInMarks op b=false):PE X (.Compare a [op] [b] pos) (nU r ta tb):=by
 intro pins s σ H Q I h;exact wpAny_Compare1 (uL ha hb I h λv u s2 x y H2 I2 rx ry q=>ho pins s2 σ H2 x y v u Q I2 rx ry q) hm
def pW(t:TE):TT:=λσ H Q=>t σ H λx H'=>∃k,x = .bl k/\Q k H'
def Cy(ho:Qe X (compareOp op) r)(ha:PE X a ta)(hb:PE X b tb)(hm:behindInMarks op b=false):PT X (.Compare a [op] [b] pos) (pW<|nU r ta tb):=by
 intro pins s σ H Q I h;refine wpAny_isTrue_Compare1 (wA (ha pins s σ H _ I h) λv s1 ⟨x,H1,I1,r1,q1⟩=>wA (hb pins s1 σ H1 _ I1 q1) λu s2 ⟨y,H2,I2,r2,q2⟩=>
  wA (ho pins s2 σ H2 x y v u _ I2 r1 r2 q2) λc s3 ⟨z,H3,I3,r3,k,e,q3⟩=>?_) hm
 subst e;cases r3;exact wpAny_truthy_bool ⟨H3,I3,q3⟩
def t7(r r':R2)(ta tb tc:TE):TE:=λσ H Q=>ta σ H λx H1=>tb σ H1 λy H2=>r x y H2 λz H3=>∃k,z = .bl k/\
 (if k=true then tc σ H3 λw' H4=>r' y w' H4 Q else Q (.bl false) H3)
def Oq(ho:Qe X (compareOp op) r)(ho':Qe X (compareOp op') r')(ha:PE X a ta)(hb:PE X b tb)(hc:PE X c tc)
 (hm:lastMarks [op,op'] [b,c]=false:=by with_unfolding_all rfl):PE X (.Compare a [op,op'] [b,c] pos) (t7 r r' ta tb tc):=by
 intro pins s σ H Q I h;refine Compare_chain (wA (ha pins s σ H _ I h) λv s1 ⟨x,H1,I1,r1,q1⟩=>chain_link<|wA (hb pins s1 σ H1 _ I1 q1) λu s2 ⟨y,H2,I2,r2,q2⟩=>
  wA (ho pins s2 σ H2 x y v u _ I2 r1 r2 q2) λd s3 ⟨z,H3,I3,r3,k,e,q3⟩=>?_) hm
 subst e;cases r3;refine wpAny_truthy_bool ?_;cases k with
 |false=>exact ite_ff ⟨.bl false,H3,I3,rfl,q3⟩
 |true=>exact ite_tt (chain_last<|wA (hc pins s3 σ H3 _ I3 q3) λw' s4 ⟨z',H4,I4,r4,q4⟩=>ho' pins s4 σ H4 y z' u w' Q I4 r2 r4 q4)
def uy(K:zzA)(x:V)(H:Hp)(k:Bool):Prop:=
 match x with
 | .non=>k=false
 | .bl b=>k=b
 | .int i=>k=(i != 0)
 | .str y=>y.length<=sizeLine/\k=((y.length:Int) != 0)
 | .byt y=>y.size<=sizeLine/\k=((y.size:Int) != 0)
 | .ref p=>(∃xs,Xo K H p xs/\k = !xs.isEmpty)\/(∃xs,Vd K H p xs/\k = !xs.isEmpty)\/∃kvs,H p=some (.dK kvs)/\k = !kvs.isEmpty
 |_=>False
def N9(r:KV kvs vs):(!vs.isEmpty) = !kvs.isEmpty:=by
 cases r<;>rfl
def Pq(r:zQ xs its):(!its.toArray.isEmpty) = !xs.isEmpty:=by
 cases r<;>simp
def Qh:(sizeLine:Nat)<2 ^ 63:=by decide
def t_:lW X (λx H Q=>∃k,uy X.K x H k/\Q k H):=by
 intro pins s σ H x v Q I rx h;obtain⟨k,e,q⟩:=h;have hl:=Qh;have hs:=sizeLine_eq;cases x with
 |non=>
  cases rx;have e':k=false:=e;subst e';exact truthy_none ⟨H,I,q⟩
 |bl b=>
  cases rx;have e':k=b:=e;subst e';exact wpAny_truthy_bool ⟨H,I,q⟩
 |int i=>
  obtain⟨t,rfl⟩:=rx;have e':k=(i != 0):=e;subst e';exact PySem.P.truthy_int ⟨H,I,q⟩
 |str y=>
  obtain⟨t,rfl⟩:=rx;obtain⟨hy,e'⟩:y.length<=sizeLine/\k=_:=e;subst e';exact PySem.P.truthy_str (q2d hs hy) ⟨H,I.tok _,q⟩
 |byt y=>
  obtain⟨t,rfl⟩:=rx;obtain⟨hy,e'⟩:y.size<=sizeLine/\k=_:=e;subst e';exact W.truthy_bytes (by omega) ⟨H,I.tok _,q⟩
 |ref p=>
  cases rx;have e':_\/_\/∃kvs,H p=some (.dK kvs)/\k = !kvs.isEmpty:=e
  rcases e' with⟨xs,hx,e'⟩|⟨xs,hx,e'⟩|⟨kvs,hx,e'⟩
  . subst e';obtain⟨its,r,pl,hz⟩:=I.list hx;have hlen:=r.length;exact wpAny_truthy_list pl.isList (by simp only[zzH];exact q0F hs hlen hz) ⟨H,I.tok _,by rw[Pq r];exact q⟩
  . subst e';obtain⟨its,r,pl,hz⟩:=I.tuple hx;have hlen:=r.length;exact truthy_tuple pl (by simp only[zzH];exact q0F hs hlen hz) ⟨H,I.tok _,by rw[Pq r];exact q⟩
  . subst e';obtain⟨hz,hS,vs,r,m⟩:kvs.length<=sizeLine/\_=false/\∃vs,KV kvs vs/\s.heap.DictOf _ p vs:=I.hok p _ hx;have hlen:=Paired.length r;exact wpAny_truthy_dict hS m (q0F hs hlen hz) ⟨H,I.tok _,by rw[N9 r];exact q⟩
 |_=>exact(e).elim
def HH(ha:PE X a ta)(he:∀whole,isTrue a X.env whole=(do let v <-whole;standAt a.pos;holding [v] (truthy v))):
 PT X a (λσ H Q=>ta σ H λx H'=>∃k,uy X.K x H' k/\Q k H'):=by
 intro pins s σ H Q I h;exact isTrue_plain (wA (ha pins s σ H _ I h) λv s1 ⟨x,H1,I1,r1,q1⟩=>t_ pins s1 σ H1 x v Q I1 r1 q1)<|he _
def Ep:Qe X (binaryOp .Add) (λx y H Q=>∃i j,x = .str i/\y = .str j/\i.length+j.length<=sizeLine/\Q (.str<|i++j) H):=by
 intro pins s σ H x y v u Q I rx ry h;obtain⟨i,j,rfl,rfl,hz,q⟩:=h;obtain⟨t,rfl⟩:=rx;obtain⟨t',rfl⟩:=ry;exact add_str (λt' tk=>⟨.str _,H,I.tok _,⟨_,rfl⟩,q⟩) hz
def vals1(r:zQ [x] us):∃u,us=[u]/\RelV x u:=by
 cases r with
 |cons r1 r2=>cases r2;exact⟨_,rfl,r1⟩
def vals2(r:zQ [x,y] us):∃u w',us=[u,w']/\RelV x u/\RelV y w':=by
 cases r with
 |cons r1 r2=>
  cases r2 with
  |cons r3 r4=>cases r4;exact⟨_,_,rfl,r1,r3⟩
def Bn(hc:X.calm=true):Yq X (.builtin "max") (λxs H Q=>∃i j,xs=[.int i,.int j]/\Q (.int (if j > i then j else i)) H):=by
 intro pins s σ H xs us Q I r h;obtain⟨i,j,rfl,q⟩:=h;obtain⟨u,w',rfl,⟨t,rfl⟩,⟨t',rfl⟩⟩:=vals2 r;refine max_two_ints (I.ok.hd hc) λh' tk k=>⟨_,H,I.kept k, ?_,q⟩
 by_cases hj:j > i
 . rw[if_pos hj,if_pos hj];exact⟨_,rfl⟩
 . rw[if_neg hj,if_neg hj];exact⟨_,rfl⟩
def BA(hc:X.calm=true):Yq X (.builtin "min") (λxs H Q=>∃i j,xs=[.int i,.int j]/\Q (.int (if j<i then j else i)) H):=by
 intro pins s σ H xs us Q I r h;obtain⟨i,j,rfl,q⟩:=h;obtain⟨u,w',rfl,⟨t,rfl⟩,⟨t',rfl⟩⟩:=vals2 r;refine min_two_ints (I.ok.hd hc) λh' tk k=>⟨_,H,I.kept k, ?_,q⟩
 by_cases hj:j<i
 . rw[if_pos hj,if_pos hj];exact⟨_,rfl⟩
 . rw[if_neg hj,if_neg hj];exact⟨_,rfl⟩
def T6:Yq X (.type "int") (λxs H Q=>(∃i,xs=[.int i]/\Q (.int i) H)\/∃k,xs=[.bl k]/\Q (.int (if k then 1 else 0)) H):=by
 intro pins s σ H xs us Q I r h
 rcases h with⟨i,rfl,q⟩|⟨k,rfl,q⟩
 . obtain⟨u,rfl,t,rfl⟩:=vals1 r;exact call_int_int ⟨.int i,H,I,⟨_,rfl⟩,q⟩
 . obtain⟨u,rfl,r1⟩:=vals1 r;cases r1;exact call_int_bool ⟨.int _,H,I.tok _,⟨_,rfl⟩,q⟩
def kg(K:zzA)(x:V)(H:Hp)(n:Nat):Prop:=
 match x with
 | .str y=>y.length<=sizeLine/\n=y.length
 | .byt y=>y.size<=sizeLine/\n=y.size
 | .ref p=>(∃xs,Xo K H p xs/\n=xs.length)\/∃xs,Vd K H p xs/\n=xs.length
 |_=>False
def HG:Yq X (.builtin "len") (λxs H Q=>∃x n,xs=[x]/\kg X.K x H n/\Q (.int n) H):=by
 intro pins s σ H xs us Q I r h;obtain⟨x,n,rfl,e,q⟩:=h;obtain⟨u,rfl,rx⟩:=vals1 r;have hs:=sizeLine_eq;cases x with
 |str y=>
  obtain⟨t,rfl⟩:=rx;obtain⟨hy,e'⟩:y.length<=sizeLine/\n=y.length:=e;subst e';exact len_str (q2d hs hy) ⟨.int _,H,I.tok _,⟨_,rfl⟩,q⟩
 |byt y=>
  obtain⟨t,rfl⟩:=rx;obtain⟨hy,e'⟩:y.size<=sizeLine/\n=y.size:=e;subst e';exact W.len_bytes (by omega) ⟨.int _,H,I.tok _,⟨_,rfl⟩,q⟩
 |ref p=>
  cases rx;have e':_\/∃xs,Vd X.K H p xs/\n=xs.length:=e
  rcases e' with⟨xs,hx,e'⟩|⟨xs,hx,e'⟩
  . subst e';obtain⟨its,r',pl,hz⟩:=I.list hx;have hlen:=r'.length;exact Calls.call_len_list pl.isList (by simp only[zzH];exact q0F hs hlen hz) ⟨.int xs.length,H,I.tok _,⟨_,by simp only[zzH];rw[hlen]⟩,q⟩
  . subst e';obtain⟨its,r',pl,hz⟩:=I.tuple hx;have hlen:=r'.length;exact len_tuple pl (by simp only[zzH];exact q0F hs hlen hz) ⟨.int xs.length,H,I.tok _,⟨_,by simp only[zzH];rw[hlen]⟩,q⟩
 |_=>exact(e).elim
def N1:Yq X (.builtin "divmod") (λxs H Q=>∃i j,xs=[.int i,.int j]/\kG i j/\∀p,H p=none->Q (.ref p) (upd H p<|.tup [.int<|i/j,.int<|i%j])):=by
 intro pins s σ H xs us Q I r h;obtain⟨i,j,rfl,⟨h1,h2⟩,q⟩:=h;obtain⟨u,w',rfl,⟨t,rfl⟩,⟨t',rfl⟩⟩:=vals2 r;refine divmod_int (by omega) ?_ (.inl<|PyProof.noPylong_small<|by omega);rw[Int.fdiv_eq_ediv_of_nonneg i (by omega),Int.fmod_eq_emod_of_nonneg i<|by omega];have hn:=I.hok.fresh<|zzN _;refine⟨.ref s.heap.objs.size,_, ?_,rfl,q _ hn⟩;refine I.laid (λb o e=>zxF _ e) (zzN _) ⟨by simp;decide,[.int _ s.toks,.int _<|s.toks+1],.cons ⟨_,rfl⟩<|.cons ⟨_,rfl⟩ .nil, ?_⟩;exact⟨_,zxH s.heap rfl,rfl,0,rfl⟩
end
end L2
namespace L2
open PySem PySem.Spec PyProof.Rows
structure ObjM(h:Heap)(x dx C:Addr)(mA:Str->Option Value):Prop where
 obj:h.get? x=some (W.instObj C dx)
 ns:h.Ns1 dx mA
 ne:dx≠x
def Bx{h:Heap}{dx mA}(n:h.Ns1 dx mA):∃od,h.get? dx=some od/\∀name,W.lookIn name od=some (mA name):=by
 obtain⟨o,es,ep,ho,hd,hk,_,hm⟩:=n;refine⟨o,ho,λname=>?_⟩;have e:=hm name;unfold nsFind findBy at e;rw[<-Array.find?_toList]at e;unfold W.lookIn;rw[hd];dsimp only
 split
 . rename_i y q;rw[q]at e;exact congrArg some e
 . rename_i q;rw[q]at e;have a:es.toList.any (·.refKey)=false:=by
    rw[List.any_eq_false];intro y hy;obtain⟨z,t,hkey⟩:=hk y<|Array.mem_toList_iff.mp hy;simp[DictEntry.refKey,hkey]
   have a':¬es.toList.any (·.refKey)=true:=by rw[a];exact zyV
   rw[if_neg a'];exact congrArg some e
def ObjM.look(I:ObjM h x dx C mA):∃od,PySem.W.InstAt h x (W.instObj C dx) C (some od)/\∀name,W.lookIn name od=some (mA name):=
 let⟨od,ho,hl⟩:=Bx I.ns
 ⟨od,⟨I.obj,rfl,rfl,ho⟩,hl⟩
section
variable{prog:Program}{w:World}{A:Around}{E:Value->Shared->Prop}{s:Shared}{K:zzA}{x dx C f:Addr}{mA:Str->Option Value}{name:Str}{v:Value}
def IY(X:K.In s.heap)(I:ObjM s.heap x dx C mA)(hg:W.plainGet K C name=true)(hh:W.hasDictIn K C=true)
 (ha:W.findIn K (.ref C) name=some none) (hv:mA name=some v) (hv':W.handedIn v=true) (h:Q v {s with toks:=s.toks+1}):
 wpAny (model prog w) A (getAttr (.ref x) name expr) Q E s:=by
 obtain⟨od,J,hl⟩:=I.look;exact W.get_value X J (W.plainGet_of hg).1 (W.findObj_own hh ha rfl<|by rw[hl,hv]) hv' h
def OI(X:K.In s.heap)(I:ObjM s.heap x dx C mA)(hg:W.plainGet K C name=true)
 (hf:W.findIn K (.ref C) name=some (some<|.ref f)) (ht:W.isFn K (.ref f)=true) (hv:mA name=none) (h:Q (.ref f,[.ref x]) s):
 wpAny (model prog w) A (getMethod (.ref x) name pl) Q E s:=by
 obtain⟨od,J,hl⟩:=I.look;exact W.method_fn X J (W.plainGet_of hg).1 (W.plainGet_of hg).2 hf (beq_iff_eq.mp ht) (by show(W.lookIn name od).map _=_;rw[hl,hv];rfl) h
def JI(X:K.In s.heap)(I:ObjM s.heap x dx C mA)
 (hs:W.findIn K (.ref C) "__setattr__"=some (some<|.builtin "object.__setattr__")) (hp:W.plainOver K C=true) (ht:W.takerIn K C name=some none) (hh:W.hasDictIn K C=true)
 (hw:PySem.Within mA ns) (hsz:ns.length<=sizeLine)
 (h:∀h',ObjM h' x dx C (λy=>if y=name then some v else mA y)->Heap.SameBut dx s.heap h'->Q () {s with heap:=h',toks:=s.toks+2}):
 wpAny (model prog w) A (setAttr (.ref x) name v) Q E s:=by
 obtain⟨od,J,hl⟩:=I.look;refine W.set_plain X J hs<|W.osa_open X J hp ht λb=>?_;obtain⟨cd,hc,hd'⟩:=W.any_some hh;have hx:=I.obj;refine zxD<|zxE<|zxD<|zxD<|wpAny_loadPart hx<|zxD<|PySem.W.Looks.here (W.looks_clsIn X hc) ?_;rw[hd'];refine zxE<|zxD<|zxE<|zxD ?_;refine wpAny_nsSet1 I.ns λh' hn2 hs2=>?_;obtain⟨oD,esD,epD,hoD,hdD,hcD⟩:=hn2.count<|PySem.Within.cons name v hw;refine zxD<|wpAny_lookBehind hoD (by rw[hdD];exact pastItsLine_dict<|zzO hcD<|by rw[zzT];omega) ?_;exact zxE<|h _ ⟨(hs2.2 _<|Ne.symm I.ne).trans I.obj,hn2,I.ne⟩ hs2
def Hv(X:K.In s.heap)(hm:W.makesIn K C=true)
 (hi:W.findIn K (.ref C) "__init__"=some (some<|.ref f)) (hf:W.typeIn K (.ref f)=some (.type "function"))
 (h:codeAny (model prog w) (A.under<|.builtin "type.__call__" ⟨.ref C::vs,kw⟩) (.call (.ref f) ⟨.ref (s.heap.objs.size+1)::vs,kw⟩) (PySem.W.InitBack (s.heap.objs.size+1) R)
  {s with heap:=(s.heap.push W.emptyDict).push (W.instObj C s.heap.objs.size)}):
 codeAny (model prog w) A (.call (.ref C) ⟨vs,kw⟩) R s:=W.make_core (W.makes_of X hm) (W.looks_findIn X hi) (λself=>W.bind_fn X self hf) (.inl rfl) h
end
noncomputable def Wc(f:Str)(v:V):List (Str×V)->List (Str×V)
 | []=>[(f,v)]
 |(g,x)::r=>if g=f then(g,v)::r else(g,x)::Wc f v r
theorem Uh(f g)(v):∀fs:List (Str×V),(Wc f v fs).lookup g=if g=f then some v else fs.lookup g
 | []=>by
  show List.lookup g [_]=_
  by_cases h:g=f
  . have hb:=beq_iff_eq.mpr h;simp only[List.lookup,hb,if_pos h]
  . have hb:=beq_eq_false_iff_ne.mpr h;simp only[List.lookup,hb,if_neg h]
 |(k,x)::r=>by
  have ih:=Uh f g v r;rw[show Wc f v _=(if k=f then _::r else _::Wc f v r)from rfl]
  by_cases hk:k=f
  . rw[if_pos hk]
    by_cases h:g=k
    . have hb:=beq_iff_eq.mpr h;simp only[List.lookup,hb,if_pos<|h.trans hk]
    . have hb:=beq_eq_false_iff_ne.mpr h;simp only[List.lookup,hb,if_neg (λe:g=f=>h<|e.trans hk.symm)]
  . rw[if_neg hk]
    by_cases h:g=k
    . have hb:=beq_iff_eq.mpr h;simp only[List.lookup,hb,if_neg (λe:g=f=>hk<|h.symm.trans e)]
    . have hb:=beq_eq_false_iff_ne.mpr h;simp only[List.lookup,hb];exact ih
theorem Qo(f)(v):∀fs:List (Str×V),f ∈ (Wc f v fs).map (·.1)/\∀g,g ∈ fs.map (·.1)->g ∈ (Wc f v fs).map (·.1)
 | []=>⟨by simp[Wc],λg h=>by simp at h⟩
 |(k,x)::r=>by
  obtain⟨i1,i2⟩:=Qo f v r;rw[show Wc f v _=(if k=f then _::r else _::Wc f v r)from rfl]
  by_cases hk:k=f
  . rw[if_pos hk];subst hk;exact⟨by simp,λg h=>by simpa using h⟩
  . rw[if_neg hk];refine⟨?_,λg h=>?_⟩
    . rw[zyS];exact zzD _ i1
    . rw[zyS]at h ⊢
      rcases zzC.mp h with e|e
      . exact zzC.mpr<|.inl e
      . exact zzD _<|i2 g e
theorem Q3(f)(v):∀fs:List (Str×V),(Wc f v fs).length<=fs.length+1
 | []=>by simp[Wc]
 |(k,x)::r=>by
  have ih:=Q3 f v r;rw[show Wc f v _=(if k=f then _::r else _::Wc f v r)from rfl]
  by_cases hk:k=f
  . rw[if_pos hk,zzT,zzT];omega
  . rw[if_neg hk,zzT,zzT];omega
def VA.some_of(r:VA (some v) o):∃u,o=some u/\RelV v u:=by
 cases o with
 |none=>exact(r).elim
 |some u=>exact⟨u,rfl,r⟩
def VA.none_of(r:VA none o):o=none:=by
 cases o with
 |none=>rfl
 |some u=>exact(r).elim
def BX(r:RelV v u):W.handedIn u=true:=by
 cases v with
 |non=>cases(r);rfl
 |bl b=>cases(r);rfl
 |int i=>obtain⟨t,e⟩:=(r);cases e;rfl
 |str x=>obtain⟨t,e⟩:=(r);cases e;rfl
 |byt b=>obtain⟨t,e⟩:=(r);cases e;rfl
 |flt b=>obtain⟨t,e⟩:=(r);cases e;rfl
 |ref a=>cases(r);rfl
 |ty n=>cases(r);rfl
section
variable{P:Program}{w:World}{H H':Hp}{h h':Heap}{a C dx:Addr}{fs fs':List (Str×V)}
def K4(hok:Q9 P w H h)(e:H a=some (.ins C dx fs)):∃mA,ObjM h a dx C mA/\(∀f,VA (fs.lookup f)<|mA f)/\PySem.Within mA (fs.map (·.1))/\fs.length<=1000/\H dx=some (.own a):=by
 obtain⟨d,z,ne,ob,mA,n,r,q⟩:=(hok a _ e);exact⟨mA,⟨ob,n,ne⟩,r,q,z,d⟩
end
structure Cls(K:zzA)(C:Addr):Prop where
 pg:W.plainGet K C Str.empty=true
 hd:W.hasDictIn K C=true
 po:W.plainOver K C=true
 sa:W.findIn K (.ref C) "__setattr__"=some (some<|.builtin "object.__setattr__")
def Cls.get{K C}(c:Cls K C)(f):W.plainGet K C f=true:=c.pg
def yC(K:zzA)(C:Addr)(f:Str):Prop:=W.findIn K (.ref C) f=some none
def yC.taker{K C f}(n:yC K C f):W.takerIn K C f=some none:=by
 unfold W.takerIn;rw[show W.findIn K _ f=some none from n];rfl
structure Meth(K:zzA)(C:Addr)(m:Str)(f:Addr):Prop where
 at_:W.findIn K (.ref C) m=some (some<|.ref f)
 fn:W.isFn K (.ref f)=true
 kp:W.keepIn K (.ref f)=true
section
variable{X:Cx}{pins:List (Addr×Obj)}{σ:St}{H:Hp}{s:Shared}{a C dx:Addr}{fs:List (Str×V)}{f:Str}{v:V}{A:Around}{E:Value->Shared->Prop}
def MY(I:Inv X pins σ H s)(e:H a=some (.ins C dx fs))(c:Cls X.K C)(n:yC X.K C f)(l:fs.lookup f=some v)
 (h:∀u s',Inv X pins σ H s'->RelV v u->Q u s'):wpAny (model X.prog X.w) A (getAttr (.ref a) f b) Q E s:=by
 obtain⟨mA,O,r,_,_,_⟩:=K4 I.hok e;obtain⟨u,hu,ru⟩:=VA.some_of (by rw[<-l];exact r f);exact IY I.kIn O (c.get f) c.hd n hu (BX ru)<|h u _ (I.tok _) ru
def Mr(I:Inv X pins σ H s)(e:H a=some (.ins C dx fs))(c:Cls X.K C)(k:Meth X.K C m g)(l:fs.lookup m=none)
 (h:Q (.ref g,[.ref a]) s):wpAny (model X.prog X.w) A (getMethod (.ref a) m pl) Q E s:=by
 obtain⟨mA,O,r,_,_,_⟩:=K4 I.hok e;have hn:=VA.none_of (by rw[<-l];exact r m);exact OI I.kIn O (c.get m) k.at_ k.fn hn h
def MW(I:Inv X pins σ H s)(e:H a=some (.ins C dx fs))(c:Cls X.K C)(n:yC X.K C f)(hl:fs.length<1000)(ry:RelV y u)
 (h:∀s',Inv X pins σ (upd H a<|.ins C dx<|Wc f y fs) s'->Q () s'):wpAny (model X.prog X.w) A (setAttr (.ref a) f u) Q E s:=by
 obtain⟨mA,O,r,wi,_,ho⟩:=K4 I.hok e;have hz:(fs.map (·.1)).length<=sizeLine:=by rw[zzB,sizeLine_eq];omega
 refine JI I.kIn O c.sa c.po n.taker c.hd wi hz λh' O' sb=>h _ ?_;have hd:∃o,h'.get? dx=some o:=let⟨o,_,_,e',_⟩:=O'.ns;⟨o,e'⟩;refine I.write (by rw[e];exact True.intro) (.inr ho) (λb q hb z=>(sb.2 b hb).trans z) hd ?_;refine⟨by rw[zJ O.ne];exact ho, ?_,O.ne,O'.obj,_,O'.ns,λg=>?_,λg hg=>?_⟩
 . have:=Q3 f y fs;omega
 . show VA _ _;rw[Uh]
   by_cases q:g=f
   . rwa [if_pos q,if_pos q]
   . rw[if_neg q,if_neg q];exact r g
 . by_cases q:g=f
   . rw[q];exact(Qo f y fs).1
   . refine(Qo f y fs).2 g<|wi g λz=>hg ?_;show(if g=f then some u else mA g)=_
     rwa [if_neg q]
def Inv.made(I:Inv X pins σ H s):Inv X pins σ (upd (upd H s.heap.objs.size<|.own<|s.heap.objs.size+1) (s.heap.objs.size+1)<|.ins C s.heap.objs.size [])
 {s with heap:=(s.heap.push W.emptyDict).push (W.instObj C s.heap.objs.size)}:=by
 have e1:(s.heap.push W.emptyDict).get? s.heap.objs.size=some W.emptyDict:=zxH s.heap rfl;have e2:((s.heap.push W.emptyDict).push<|W.instObj C s.heap.objs.size).get? (s.heap.objs.size+1)=some (W.instObj C s.heap.objs.size):=by
  have:=zxH (s.heap.push W.emptyDict) (o:=W.instObj C s.heap.objs.size) rfl
  rwa [zxJ]at this
 have e3:(s.heap.push W.emptyDict).Ns s.heap.objs.size _:=⟨W.emptyDict,#[],_,e1,rfl,(λe he=>absurd he<|by simp),λ_=>rfl⟩;have I1:=I.laid (o:=.own<|s.heap.objs.size+1) (h':=s.heap.push W.emptyDict) (t':=s.toks) (λb u q=>zxF _ q) (zzN _) ⟨_,e1⟩;refine I1.laid (t':=s.toks) (λb u q=>zxF _ q) (Nat.le_of_eq<|zxJ _ _) ?_;have ne:s.heap.objs.size≠s.heap.objs.size+1:=zzQ<|Nat.lt_succ_self _;refine⟨by rw[zJ ne,yg],Nat.zero_le _,ne,e2,λ_=>none,(Heap.Ns1.of_empty e3).at λo q=>zxF _ q,λ_=>True.intro,λy hy=>absurd rfl hy⟩
def Ce(hb:attributeBase e f env (eval e env)=eval e env)
 (h:wpAny (model prog w) A (eval e env) (λo s₁=>wpAny (model prog w) A (getAttr o f true) Q E s₁) E s):wpAny (model prog w) A (eval (.Attribute e f pos) env) Q E s:=
 Attribute_any_ h (by rw[arm_eval_Attribute,hb])
end
def lE(K:zzA)(ta:TE)(f:Str):TE:=λσ H Q=>ta σ H λx H1=>∃a C dx fs v,x = .ref a/\H1 a=some (.ins C dx fs)/\Cls K C/\yC K C f/\fs.lookup f=some v/\Q v H1
def mK(K:zzA)(ta tv:TE)(f:Str):TS:=λD σ H=>tv σ H λy H1=>ta σ H1 λx H2=>∃a C dx fs,x = .ref a/\H2 a=some (.ins C dx fs)/\Cls K C/\yC K C f/\fs.length<1000/\
 D.nx σ (upd H2 a<|.ins C dx<|Wc f y fs)
section
variable{X:Cx}{o e value:Expr}{f:Str}{pos pos' tpos:Pos}{ta tv:TE}
def G_(he:PE X e ta)(hb:attributeBase e f X.env (eval e X.env)=eval e X.env):PE X (.Attribute e f pos) (lE X.K ta f):=by
 intro pins s σ H Q I h;refine Ce hb<|wA (he pins s σ H _ I h) λu s1 hq0=>?_;obtain⟨x,H1,I1,rx,a,C,dx,fs,v,ex,ea,c,n,l,q⟩:=hq0;subst ex;obtain rfl:u=Value.ref a:=rx;exact MY I1 ea c n l λu' s2 I2 ru=>⟨v,H1,I2,ru,q⟩
def Oz(ha:PE X o ta)(hv:PE X value tv)(hs:swapsWith value (some<|.Attribute o f pos') pos.line X.env=pure false):PS X (.Assign [.Attribute o f pos'] value pos) (mK X.K ta tv f):=by
 intro pins s σ H D I h;refine plainObj_wpAny_Assign_Attribute (wA (hv pins s σ H _ I h) λu s1 ⟨y,H1,I1,ry,q⟩=>wA (ha pins s1 σ H1 _ I1 q) λov s2 hq0=>?_) hs;obtain⟨x,H2,I2,rx,a,C,dx,fs,ex,ea,c,n,l,q2⟩:=hq0;subst ex;obtain rfl:ov=Value.ref a:=rx;exact MW I2 ea c n l ry λs3 I3=>⟨σ,_,I3,q2⟩
end
section
variable{X:Cx}{pins:List (Addr×Obj)}{σ:St}{H:Hp}{s:Shared}{A:Around}{E:Value->Shared->Prop}{Q:Value->Shared->Prop}{c:Value}{b:Bool}
inductive TyOf(K:zzA)(H:Hp):V->Value->Prop where
 |non:TyOf K H .non (.type "NoneType")
 |bl (x:Bool):TyOf K H (.bl x) (.type "bool")
 |int (i:Int):TyOf K H (.int i) (.type "int")
 |str (x:Str):TyOf K H (.str x) (.type "str")
 |flt (x:UInt64):TyOf K H (.flt x) (.type "float")
 |lst {a:Addr}{xs:List V}(e:H a=some (.lst xs)):TyOf K H (.ref a) (.type "list")
 |frz {a:Addr}{o:Obj}{xs:List V}(e:H a=some (.frz o (.lst xs))):TyOf K H (.ref a) (.type "list")
 |tup {a:Addr}{xs:List V}(e:H a=some (.tup xs)):TyOf K H (.ref a) (.type "tuple")
 |dK {a:Addr}{kvs:List (Key×V)}(e:H a=some (.dK kvs)):TyOf K H (.ref a) (.type "dict")
 |dT {a:Addr}{kvs:List (List Key×V)}(e:H a=some (.dT kvs)):TyOf K H (.ref a) (.type "dict")
 |ins {a C dx:Addr}{fs:List (Str×V)}(e:H a=some (.ins C dx fs)) (cl:Cls K C) (ha:W.findIn K (.ref C) "__class__"=some (some (.builtin "object.__class__")))
  (hn:W.specialIn K (.builtin "object.__class__") "__get__"=some (some<|.builtin "getset_descriptor.__get__")) (htk:W.takesIn K (.builtin "object.__class__")=some true)
  (hm:W.mroIn K C (.type "object")=some true):TyOf K H (.ref a) (.ref C)
end
end L2
namespace L2
open PySem PySem.Spec PyProof.Rows
structure Room(k:Nat)(A:Around):Prop where
 hd:A.handled=none
 dp:A.depth+3*k+5<recursionLimit
 un:A.units+16*k+200<cLine
 gd:A.guards=some []
def Room.mono(r:Room k A)(h:j<=k):Room j A:=⟨r.hd,by have:=r.dp;omega,by have:=r.un;omega,r.gd⟩
theorem Room.deeper(r:Room (k+1) A)(env):Room k (A.deeper env):=
 ⟨r.hd,by have:=r.dp;show A.depth+1+3*k+5<_;exact q1a this,by have:=r.un;show A.units+3+16*k+200<_;omega,r.gd⟩
def Ef{A:Around}{C us kw}:(A.under<|.builtin "type.__call__" ⟨.ref C::us,kw⟩).depth=A.depth+1:=rfl
def MP{A:Around}{C us kw}:(A.under<|.builtin "type.__call__" ⟨.ref C::us,kw⟩).units=A.units+1:=rfl
def Am{A:Around}{C us kw}:(A.under<|.builtin "type.__call__" ⟨.ref C::us,kw⟩).guards=A.guards:=rfl
def Room.make{k:Nat}{A:Around}(r:Room (k+1) A)(C)(us)(kw):Room k (A.under<|.builtin "type.__call__" ⟨.ref C::us,kw⟩):=
 ⟨r.hd,by have:=r.dp;rw[Ef];exact q1a this,by have:=r.un;rw[MP];omega,r.gd⟩
theorem Room.depth(r:Room k A):A.depth<recursionLimit:=by have:=r.dp;omega
def lg:TA:=λ_ H Q=>Q [] H
def nu(ta:TE)(tr:TA):TA:=λσ H Q=>ta σ H λx H1=>tr σ H1 λxs H2=>Q (x::xs) H2
section
variable{X:Cx}{e:Expr}{es:List Expr}{te:TE}{t:TA}{pos:Pos}
def RZ:PA X [] lg:=λ_ _ _ _ H Q I h=>Calls.spliced_nil ⟨[],H,I,.nil,h⟩
def Wf(ha:PE X e te)(hr:PA X es t)(hs:starEach (e::es) X.env=(false,eval e X.env)::starEach es X.env:=by rfl):PA X (e::es) (nu te t):=by
 intro pos pins s σ H Q I h;rw[hs];refine Calls.spliced_cons<|wA (ha pins s σ H _ I h) λu s1 ⟨x,H1,I1,r1,q1⟩=>?_;exact wA (hr pos pins s1 σ H1 _ I1 q1) λus s2 ⟨xs,H2,I2,r2,q2⟩=>⟨x::xs,H2,I2,.cons r1 r2,q2⟩
def kr(t:TA):TE:=λσ H Q=>t σ H λxs H1=>xs.length<=sizeLine/\∀p,H1 p=none->Q (.ref p) (upd H1 p<|.tup xs)
def lr(t:TA):TE:=λσ H Q=>t σ H λxs H1=>xs.length<=sizeLine/\∀p,H1 p=none->Q (.ref p) (upd H1 p<|.lst xs)
def Dh(h:PA X es t):PE X (.Tuple es x1 pos) (kr t):=by
 intro pins s σ H Q I hq;refine wpAny_Tuple_spliced<|wA (h pos pins s σ H _ I hq) λus s1 ⟨xs,H1,I1,r,z,q⟩=>⟨by rw[<-r.length];exact z, ?_⟩;have hf:=I1.hok.fresh<|zzN _;refine⟨.ref s1.heap.objs.size,upd H1 s1.heap.objs.size _,I1.laid (t':=s1.toks) (λb u e=>zxF _ e) (zzN _) ?_,rfl,q _ hf⟩;exact⟨z,us,r,⟨_,zxH _ rfl,rfl,_,rfl⟩⟩
def tY(h:PA X es t):PE X (.List es pos) (lr t):=by
 intro pins s σ H Q I hq;refine wpAny_List_spliced<|wA (h pos pins s σ H _ I hq) λus s1 ⟨xs,H1,I1,r,z,q⟩=>⟨by rw[<-r.length];exact z, ?_⟩;have hf:=I1.hok.fresh<|zzN _;refine⟨.ref s1.heap.objs.size,upd H1 s1.heap.objs.size _,I1.laid (t':=s1.toks) (λb u e=>zxF _ e) (zzN _) ?_,rfl,q _ hf⟩;exact⟨z,us,0,r,zxH _ rfl⟩
end
abbrev Sp:=List V->Hp->VK->XK->Prop
abbrev Ap:=List Env->Hp->Shared->XK->Value->Shared->Prop
structure Env0(P:Program)(w:World)(K:zzA)(mg:Str->Option Value)(base:Heap)(A:Around)(outer:List Env)(s:Shared)(H:Hp):Prop where
 frames:A.frames=some outer
 mod:Mod K mg base
 bs:∀b o,base.get? b=some o->s.heap.get? b=some o/\H b=none
 bsz:base.objs.size<=s.heap.objs.size
 funs:s.heap.FunFrames base outer
 frf:∀b ∈ B3 outer,H b=none
 hok:Q9 P w H s.heap
 bare:AllBare s.gens
def CE(outer:List Env)(P:Program)(w:World)(H:Hp)(s:Shared)(Q:VK)(u:Value)(s':Shared):Prop:=
 ∃v H',s'.os=s.os/\AllBare s'.gens/\Un (B3 outer) [] H H' s.heap s'.heap/\Q9 P w H' s'.heap/\RelV v u/\Q v H'
def CR(CX:Ap)(outer:List Env)(P:Program)(w:World)(H:Hp)(s:Shared)(Q:VK)(E:XK)(r:Result)(s':Shared):Prop:=
 match r with
 | .ok (.ret u)=>CE outer P w H s Q u s'
 | .ok _=>False
 | .error e=>CX outer H s E e s'
structure FnOk(P:Program)(w:World)(K:zzA)(mg:Str->Option Value)(base:Heap)(CX:Ap)(k:Nat)(f:Addr)(fd:FuncData)(ps:List Str)(sp:Sp):Prop where
 len:∀vs H Q E,sp vs H Q E->vs.length=ps.length
 run:∀(A:Around) (outer:List Env) (s:Shared) (H:Hp) (args:Args) (us:List Value) (vs:List V) (Q:VK) (E:XK),Room k A->Env0 P w K mg base A outer s H->BindsTo s fd args (ps.zip us)->zQ vs us->sp vs H Q E->
  codeAny (model P w) A (.call (.ref f) args) (CR CX outer P w H s Q E) s
def FnOk.imp{P w K mg base CX}{k:Nat}{f fd ps sp sp'}(F:FnOk P w K mg base CX k f fd ps sp)
 (h:∀vs H Q E,sp' vs H Q E->sp vs H Q E):FnOk P w K mg base CX k f fd ps sp':=
 ⟨λvs H Q E q=>F.len vs H Q E<|h _ _ _ _ q,λA outer s H args us vs Q E hr he hb hv hs=>F.run A outer s H args us vs Q E hr he hb hv<|h _ _ _ _ hs⟩
def Env0.make{P w K mg base A outer s H}(e:Env0 P w K mg base A outer s H)(C)(us)(kw):
 Env0 P w K mg base (A.under<|.builtin "type.__call__" ⟨.ref C::us,kw⟩) outer s H:=⟨by first|exact e.frames|(simpa[Around.under,Code.envs,Code.isFrame,pushEnvs]using e.frames),e.mod,e.bs,e.bsz,e.funs,e.frf,e.hok,e.bare⟩
section
variable{X:Cx}{pins:List (Addr×Obj)}{σ:St}{H:Hp}{s s':Shared}
def Inv.env0(I:Inv X pins σ H s):Env0 X.prog X.w X.K X.mg X.base X.A X.stack s H:=
 ⟨I.ok.frames,I.ok.mod,I.bs,zzO I.ok.bsz I.sz,I.stack,I.stkFree,I.hok,I.bare⟩
def Inv.after(I:Inv X pins σ H s)(h:CE X.stack X.prog X.w H s Q u s'):EP X pins σ Q u s':=by
 obtain⟨v,H',os,bare,un,hok,r,q⟩:=h;obtain⟨hh,g,d,t,os'⟩:=s';obtain rfl:os'=s.os:=os;exact⟨v,H',I.call (h':=hh) (g':=g) (d':=d) (t':=t) un hok bare (λb z=>absurd z<|by simp),r,q⟩
end
def Oh(sp:Sp)(dvs:List V)(E:XK)(t:TA):TE:=λσ H Q=>t σ H λvs H1=>sp (vs++dvs) H1 Q E
def Ab(C:Addr)(sp:Sp)(dvs:List V)(E:XK)(t:TA):TE:=λσ H Q=>t σ H λvs H1=>∀x dx,H1 x=none->H1 dx=none->dx≠x->
 sp (.ref x::(vs++dvs)) (upd (upd H1 dx<|.own x) x<|.ins C dx []) (λv H2=>v = .non/\Q (.ref x) H2) E
def Binds(K:zzA)(fd:FuncData)(ps:List Str)(ds:List Value):Prop:=
 ∀(s:Shared) (us:List Value),K.In s.heap->(us++ds).length=ps.length->BindsTo s fd ⟨us,[]⟩ (ps.zip<|us++ds)
def Binds.all{K fd ps}(h:∀us:List Value,us.length=ps.length->bindArgs fd ⟨us,[]⟩=pure (ps.zip us)):Binds K fd ps []:=λs us _ hl=>by
 rw[zyE]at hl ⊢;exact .of_eq<|h us hl
def vV(CX:Ap)(X:Cx)(E:XK):Prop:=∀(pins:List (Addr×Obj)) (σ:St) (H:Hp) (s:Shared) (e:Value) (s':Shared),Inv X pins σ H s->CX X.stack H s E e s'->X.xe e s'
section
variable{X:Cx}{CX:Ap}{k:Nat}{f C:Addr}{fd:FuncData}{ps:List Str}{sp:Sp}{dvs:List V}{ds:List Value}{E:XK}{x m:Str}{p pos apos:Pos}{e o:Expr}{es:List Expr}{ta:TE}{t:TA}
def HA(F:FnOk X.prog X.w X.K X.mg X.base CX k f fd ps sp)(hr:Room k X.A)(hb:Binds X.K fd ps ds)(hd:zQ dvs ds)(hx:vV CX X E)
 (I:Inv X pins σ H s) (r:zQ vs us) (h:sp (vs++dvs) H Q E):wpAny (model X.prog X.w) X.A (call (.ref f) us) (EP X pins σ Q) X.xe s:=by
 have r2:=r.append hd;have hl:(us++ds).length=ps.length:=by rw[<-r2.length];exact F.len _ _ _ _ h
 refine wpAny_call<|codeAny_mono (F.run X.A X.stack s H _ _ _ Q E hr I.env0 (hb s us I.kIn hl) r2 h) λr s' hq=>?_;cases r with
 |error e=>exact hx pins σ H s e s' I hq
 |ok fl=>
  cases fl with
  |ret u=>exact I.after hq
  |next=>exact False.elim hq
  |brk=>exact False.elim hq
  |cont=>exact False.elim hq
def KG(F:FnOk X.prog X.w X.K X.mg X.base CX k f fd ps sp)(hr:Room k X.A)(hg:Gl X x)(hm:X.mg x=some (.ref f))(hk:W.keepIn X.K (.ref f)=true)(hb:Binds X.K fd ps ds)(hd:zQ dvs ds)(hx:vV CX X E)
 (ha:PA X (e::es) t) (hdb:(x==("__debug__":Str))=false:=by decide) (he:starEach (e::es) X.env=(false,eval e X.env)::starEach es X.env:=by rfl) (hpl:(backTo pos<|starEach es X.env).any (·.1)=false:=by rfl):
 PE X (.Call (.Name x p) (e::es) [] pos) (Oh sp dvs E t):=by
 intro pins s σ H Q I h;refine wpAny_Call_Name_kw<|Le I hg hm ?_ hdb;refine W.callWith_K I.ok.mod.kin hk (wA (ha pos pins s σ H _ I h) λus s1 ⟨vs,H1,I1,r,q⟩=>⟨I1.kIn, ?_⟩) he hpl;exact HA F hr hb hd hx I1 r q
structure Mk(K:zzA)(C f:Addr):Prop where
 makes:W.makesIn K C=true
 init:W.findIn K (.ref C) "__init__"=some (some<|.ref f)
 fn:W.isFn K (.ref f)=true
 kp:W.keepIn K (.ref C)=true
def S7(M:Mk X.K C f)(F:FnOk X.prog X.w X.K X.mg X.base CX k f fd ps sp)(hr:Room (k+1) X.A)(hb:Binds X.K fd ps ds)(hd:zQ dvs ds)
 (hx:vV CX X E) (I:Inv X pins σ H s) (r:zQ vs us)
 (h:∀x dx,H x=none->H dx=none->dx≠x->sp (.ref x::(vs++dvs)) (upd (upd H dx<|.own x) x<|.ins C dx []) (λv H2=>v = .non/\Q (.ref x) H2) E):
 wpAny (model X.prog X.w) X.A (call (.ref C) us) (EP X pins σ Q) X.xe s:=by
 have hq:=h _ s.heap.objs.size (I.hok.fresh<|zyW _) (I.hok.fresh<|zzN _)<|zzQ<|Nat.lt_succ_self _;have I2:=Inv.made (C:=C) I;have r2:zQ (V.ref (s.heap.objs.size+1)::_) _:=.cons rfl<|r.append hd;have hl:(Value.ref (s.heap.objs.size+1)::us++ds).length=ps.length:=by
  have e:=r2.length;rw[F.len _ _ _ _ hq]at e;exact e.symm
 refine wpAny_call<|Hv I.kIn M.makes M.init (beq_iff_eq.mp M.fn)<|codeAny_mono (F.run _ X.stack _ _ _ _ _ _ E (hr.make C us [])
  (I2.env0.make C us []) (hb _ _ I2.kIn hl) r2 hq) λr s' hq'=>?_
 cases r with
 |error e=>exact hx pins σ _ _ e s' I2 hq'
 |ok fl=>
  cases fl with
  |ret u=>
   obtain⟨v,H',I3,rv,ev,q3⟩:=I2.after hq';subst ev;exact⟨rv,⟨V.ref _,H',I3,rfl,q3⟩⟩
  |next=>exact False.elim hq'
  |brk=>exact False.elim hq'
  |cont=>exact False.elim hq'
def II(M:Mk X.K C f)(F:FnOk X.prog X.w X.K X.mg X.base CX k f fd ps sp)(hr:Room (k+1) X.A)(hg:Gl X x)(hm:X.mg x=some (.ref C))(hb:Binds X.K fd ps ds)(hd:zQ dvs ds)(hx:vV CX X E)
 (ha:PA X (e::es) t) (hdb:(x==("__debug__":Str))=false:=by decide) (he:starEach (e::es) X.env=(false,eval e X.env)::starEach es X.env:=by rfl) (hpl:(backTo pos<|starEach es X.env).any (·.1)=false:=by rfl):
 PE X (.Call (.Name x p) (e::es) [] pos) (Ab C sp dvs E t):=by
 intro pins s σ H Q I h;refine wpAny_Call_Name_kw<|Le I hg hm ?_ hdb;refine W.callWith_K I.ok.mod.kin M.kp (wA (ha pos pins s σ H _ I h) λus s1 ⟨vs,H1,I1,r,q⟩=>⟨I1.kIn, ?_⟩) he hpl;exact S7 M F hr hb hd hx I1 r q
end
section
variable{X:Cx}{CX:Ap}{k:Nat}{f C:Addr}{fd:FuncData}{ps ks:List Str}{sp:Sp}{E:XK}{x m:Str}{p pos apos kpos:Pos}{e o:Expr}{es:List Expr}{kws:List Keyword}{te ta:TE}{t tk:TA}{nm:Option Str}
variable{g:List Value->List Value->List Value}{gV:List V->List V->List V}
end
structure FnScope(N P:List Str)(sc:Scope):Prop where
 kind:sc.kind = .function
 co:sc.isCoroutine=false
 gen:sc.isGenerator=false
 nd:N.Nodup
 pre:N.take P.length=P
 par:∀x ∈ P,sc.names.lookup x=some .local\/sc.names.lookup x=some .cell
 nofree:∀y ∈ sc.names,y.2 ≠ .free
theorem GG{kindOf x}:∀{binds:List (Str×Value)}{m:Str->Option Value},(∀v,(x,v) ∉ binds)->bindL kindOf binds m x=m x
 | [],_,_=>rfl
 |(n,v)::r,m,h=>by
  unfold bindL;rw[GG λw hw=>h w<|zzD _ hw]
  split
  . have:x≠n:=by rintro rfl;exact h v zzF
    simp[this]
  . rfl
theorem Gv{kindOf x}:∀{binds:List (Str×Value)}{m:Str->Option Value},(∀v,(x,v) ∉ binds)->bindC kindOf binds m x=m x
 | [],_,_=>rfl
 |(n,v)::r,m,h=>by
  unfold bindC;rw[Gv λw hw=>h w<|zzD _ hw]
  split
  . rfl
  . have:x≠n:=by rintro rfl;exact h v zzF
    simp[this]
theorem TV{kindOf x v}:∀{P:List Str}{vs:List Value}{i:Nat}{m:Str->Option Value},P.Nodup->P[i]? = some x->vs[i]? = some v->kindOf x=some .local->
 bindL kindOf (P.zip vs) m x=some v
 | [],_,_,_,_,h,_,_=>by simp at h
 |_::_,[],_,_,_,_,h,_=>by simp at h
 |p::P,w::vs,0,m,nd,h1,h2,hk=>by
  simp at h1 h2;subst h1;subst h2;show bindL kindOf (_::P.zip vs) m p=_;unfold bindL;rw[GG λv hv=>(zzW.mp nd).1 (List.of_mem_zip hv).1,if_pos hk];simp
 |p::P,w::vs,i+1,m,nd,h1,h2,hk=>by
  unfold bindL;exact TV (zzW.mp nd).2 (by simpa using h1) (by simpa using h2) hk
theorem Gj{kindOf x v}:∀{P:List Str}{vs:List Value}{i:Nat}{m:Str->Option Value},P.Nodup->P[i]? = some x->vs[i]? = some v->kindOf x≠some .local->
 bindC kindOf (P.zip vs) m x=some v
 | [],_,_,_,_,h,_,_=>by simp at h
 |_::_,[],_,_,_,_,h,_=>by simp at h
 |p::P,w::vs,0,m,nd,h1,h2,hk=>by
  simp at h1 h2;subst h1;subst h2;show bindC kindOf (_::P.zip vs) m p=_;unfold bindC;rw[Gv λv hv=>(zzW.mp nd).1 (List.of_mem_zip hv).1,if_neg hk];simp
 |p::P,w::vs,i+1,m,nd,h1,h2,hk=>by
  unfold bindC;exact Gj (zzW.mp nd).2 (by simpa using h1) (by simpa using h2) hk
noncomputable def start(N:List Str)(vs:List V):St:=vs.map some++List.replicate (N.length-vs.length) none
noncomputable def QL(CX:Ap)(P:Program)(w:World)(K:zzA)(mg:Str->Option Value)(base:Heap)(N:List Str)(qual:Str)(scope:Scope)(f:Addr)(cd:Value)(A:Around)(outer:List Env)(s:Shared)(H:Hp)(E:XK):Cx where
 prog:=P
 w:=w
 K:=K
 mg:=mg
 base:=base
 A:=A.deeper (envOfC qual scope s.heap.objs.size f cd)
 N:=N
 s₀:=s
 H₀:=H
 env:=envOfC qual scope s.heap.objs.size f cd
 outer:=outer
 stack:=envOfC qual scope s.heap.objs.size f cd::outer
 ex:=[]
 calm:=true
 fn:=λ_=>true
 pn:=[]
 xe:=λe s'=>wpAny (model P w) (A.deeper<|envOfC qual scope s.heap.objs.size f cd) (leaving (envOfC qual scope s.heap.objs.size f cd) e) (λ_ s''=>CX outer H s E e s'') (λe' s''=>CX outer H s E e' s'') s'
def LA{sc:Scope}{n:Nat}{x}(h:sc.names.lookup x=some .cell):∃c,(cellsFrom n sc.names []).lookup x=some c:=by
 have q:=W.cellsFrom_some sc.names n []<|.inl h;exact Option.isSome_iff_exists.mp q
def Bi{CX P w K mg base N ps qual scope f cd A outer s s1 H E us vs}
 (S:FnScope N ps scope) (hd:A.handled=none) (e0:Env0 P w K mg base A outer s H) (hl:vs.length=ps.length) (r:zQ vs us)
 (x:InCallC s s.heap.objs.size (bindL (envOfC qual scope s.heap.objs.size f cd).kindOf (ps.zip us) λ_=>none) (cellsFrom (s.heap.objs.size+1) scope.names []) (bindC (envOfC qual scope s.heap.objs.size f cd).kindOf (ps.zip us) λ_=>none) s1):
 Inv (QL CX P w K mg base N qual scope f cd A outer s H E) [] (start N vs) H s1:=by
 have hpl:ps.length<=N.length:=by have:=congrArg List.length S.pre;rw[zzS]at this;omega
 obtain⟨h1,tk,rfl,hk⟩:=x.done;have noA:∀b:Addr,b ∉ (QL CX P w K mg base N qual scope f cd A outer s H E).ex:=λb z=>absurd (show b ∈ ([]:List Addr)from z) (by simp);refine⟨⟨e0.mod,S.kind,rfl,rfl,zzN _,λy z c h1 h2=>?_,λy hy=>?_,λy c _ h=>?_,λ_=>hd,Around.frames_deeper e0.frames,.inr ⟨rfl,rfl⟩,λb z=>absurd z<|noA b,e0.bs,e0.bsz,λb _ _=>noA b,λb z=>absurd z<|noA b,e0.funs,e0.frf⟩,
  rfl,e0.bare,Un.kept hk,⟨_,x.toInCall.ns,λi y v h1 h2 h3=>?_⟩,λy c h=>⟨_,x.cell y c h⟩,e0.hok.fresh<|zzN _,λy c h=>?_,λp hp=>absurd (show p ∈ ([]:List _)from hp) (by simp),e0.hok.kept hk, ?_⟩
 . exact name_of_addr x.apart (PySem.mem_of_lookup h1)<|PySem.mem_of_lookup h2
 . have hy:=hy
   rcases hy with hy|hy
   . exact LA hy
   . exact absurd rfl<|S.nofree _<|PySem.mem_of_lookup hy
 . exact Nat.le_of_lt<|x.above y c<|PySem.mem_of_lookup h
 . have hi:i<vs.length:=by
    unfold start at h2
    by_cases hi:i<vs.length
    . exact hi
    . rw[zyR<|by simpa using hi]at h2;rw[List.getElem?_replicate]at h2
      split at h2<;>cases h2
   have ha:vs[i]? = some v:=by
    unfold start at h2;rw[zyP (by simpa using hi),zzI]at h2;cases e:vs[i]? with
    |none=>rw[e]at h2;cases h2
    |some a=>rw[e]at h2;cases h2;rfl
   obtain⟨u,hu,rv⟩:=r.get ha;have hp:ps[i]? = some y:=by
    rwa [<-S.pre,List.getElem?_take_of_lt<|(q1O hi hl)]
   have ndP:ps.Nodup:=by rw[<-S.pre];exact S.nd.sublist<|List.take_sublist _ _
   refine⟨u,rv, ?_⟩
   rcases S.par y (zyA hp)with k|k
   . exact .inl ⟨k,TV ndP hp hu k⟩
   . obtain⟨c,e⟩:=LA k;refine .inr ⟨.inl k,c,e, ?_⟩;have q:=x.cell y c e
     rwa [Gj ndP hp hu (by show scope.names.lookup y≠_;rw[k];decide)]at q
 . exact e0.hok.fresh<|Nat.le_of_lt<|x.above y c<|PySem.mem_of_lookup h
 . unfold start;show _=N.length;rw[zzJ,zzB,List.length_replicate];omega
def qT{CX P w K mg base}{k:Nat}{f name qual params body scope dV kV doc pm cdv ct oc an od}
 {osl N ps sp}(lk:K.lookup f=some ⟨oc,od,.func<|W.fnOf name qual params body scope dV kV doc pm an cdv ct,osl⟩) (hcd:W.codeIn K cdv qual=true) (S:FnScope N ps scope)
 (len:∀vs H Q E,sp vs H Q E->vs.length=ps.length)
 (hbody:∀(A:Around) (outer:List Env) (s:Shared) (H:Hp) (vs:List V) (Q:VK) (E:XK),Room k (A.deeper<|envOfC qual scope s.heap.objs.size f cdv)->sp vs H Q E->
  ∃t,Kt (QL CX P w K mg base N qual scope f cdv A outer s H E) body t/\t {nx:=λ_ H'=>Q .non H',rt:=Q} (start N vs) H):
 FnOk P w K mg base CX (k+1) f (W.fnOf name qual params body scope dV kV doc pm an cdv ct) ps sp:=by
 refine⟨len,λA outer s H args us vs Q E hr e0 hb r hsp=>?_⟩;have hl:=len _ _ _ _ hsp;have KX:=e0.mod.kin.keeps λb o e=>(e0.bs b o e).1;have lim:=e0.mod.nolimit.keeps λb o e=>(e0.bs b o e).1;have hkind:∀y ∈ ps.zip us,scope.names.lookup y.1=some .local\/(scope.names.lookup y.1=some .cell/\((cellsFrom (s.heap.objs.size+1) scope.names []).lookup y.1).isSome=true):=λ⟨n,v⟩ hy=>by
  rcases S.par n (List.of_mem_zip hy).1 with q|q
  . exact .inl q
  . exact .inr ⟨q,W.cellsFrom_some _ _ _<|.inl q⟩
 refine codeAny_call_function hr.depth (KX _ _ lk) rfl S.co S.gen rfl (W.codeRec_of KX hcd)<|hb _ _ _ _ ?_;refine wpAny_newFunctionEnv_cells S.kind hkind λenv he s1 x=>?_;subst he;refine⟨lim.keeps x.toInCall.keep,codeAny_func ?_⟩;obtain⟨t,ht,hq⟩:=hbody A outer s H vs Q E (hr.deeper _) hsp;have I:Inv (QL CX P w K mg base N qual scope f cdv A outer s H E) [] _ H s1:=Bi S hr.hd e0 hl r x;refine zxK (ht [] s1 _ H _ I hq) (λfl s' hs=>?_) λe s' hs=>hs;have fin:∀{σ':St}{H':Hp}{v:V}{u:Value},Inv (QL CX P w K mg base N qual scope f cdv A outer s H E) [] σ' H' s'->RelV v u->Q v H'->CE outer P w H s Q u s':=
  λ{σ' H' v u} J rv q=>⟨v,H',J.os,J.bare,J.base,J.hok,rv,q⟩
 cases fl with
 |ret u=>
  obtain⟨v,σ',H',J,rv,q⟩:=hs;exact fin J rv q
 |next=>
  obtain⟨σ',H',J,q⟩:=hs;exact fin (v:=V.non) J rfl q
 |brk=>
  obtain⟨_,_,_,q⟩:=hs;exact False.elim q
 |cont=>
  obtain⟨_,_,_,q⟩:=hs;exact False.elim q
end L2
namespace L2
open PySem PySem.Spec PyProof.Rows
section
variable{X:Cx}{x:Str}{p pos:Pos}{e:Expr}{es:List Expr}{t:TA}{id T:String}{r:List V->Hp->VK->Prop}
def jF(r:List V->Hp->VK->Prop)(t:TA):TE:=λσ H Q=>t σ H λvs H1=>r vs H1 Q
def RL(hc:Yq X (.builtin id) r)(hg:Gl X x)(hm:X.mg x=none)(hv:bootBuiltins x=some (.builtin id))(ha:PA X (e::es) t)(hn:x≠"__name__":=by decide)(hdb:(x==("__debug__":Str))=false:=by decide)
 (he:starEach (e::es) X.env=(false,eval e X.env)::starEach es X.env:=by rfl) (hpl:(backTo pos<|starEach es X.env).any (·.1)=false:=by rfl):PE X (.Call (.Name x p) (e::es) [] pos) (jF r t):=by
 intro pins s σ H Q I h;refine wpAny_Call_Name_kw<|W_ I hg hm hv ?_ hn hdb;exact PyProof.Rows.callWith_builtin1 (wA (ha pos pins s σ H _ I h) λus s1 ⟨vs,H1,I1,r1,q1⟩=>hc pins s1 σ H1 vs us Q I1 r1 q1) he hpl
def FZ(hc:Yq X (.type T) r)(hg:Gl X x)(hm:X.mg x=none)(hv:bootBuiltins x=some (.type T))(ha:PA X (e::es) t)(hn:x≠"__name__":=by decide)(hdb:(x==("__debug__":Str))=false:=by decide)
 (he:starEach (e::es) X.env=(false,eval e X.env)::starEach es X.env:=by rfl) (hpl:(backTo pos<|starEach es X.env).any (·.1)=false:=by rfl):PE X (.Call (.Name x p) (e::es) [] pos) (jF r t):=by
 intro pins s σ H Q I h;refine wpAny_Call_Name_kw<|W_ I hg hm hv ?_ hn hdb;exact PyProof.Rows.callWith_type1 (wA (ha pos pins s σ H _ I h) λus s1 ⟨vs,H1,I1,r1,q1⟩=>hc pins s1 σ H1 vs us Q I1 r1 q1) he hpl
end
end L2
namespace L2
open PySem PySem.Spec PyProof.Rows
section
variable{κ:Type}[DecidableEq κ]
noncomputable def QG(kvs:List (κ×V))(k:κ):Option V:=(kvs.find? λkv=>decide (kv.1=k)).map (·.2)
def S4{p r}{k:κ}(e:p.1=k):QG (p::r) k=some p.2:=by simp[QG,e]
def Oj{p r}{k:κ}(e:¬p.1=k):QG (p::r) k=QG r k:=by simp[QG,e]
def VA.isSome_eq(r:VA o u):o.isSome=u.isSome:=by
 cases o with
 |none=>cases u with
  |none=>rfl
  |some _=>exact(r).elim
 |some _=>cases u with
  |none=>exact(r).elim
  |some _=>rfl
def KV.val{kvs vs}(r:KV kvs vs)(k:κ):VA (QG kvs k) (valueAt vs k):=by
 induction r with
 |nil=>exact True.intro
 | @cons p q ps qs h t ih=>
  obtain⟨h1,h2⟩:=h
  by_cases e:p.1=k
  . have e':q.1=k:=h1.symm.trans e;have b:valueAt (q::qs) k=some q.2:=by simp[valueAt,e']
    rwa [S4 e,b]
  . have e':¬q.1=k:=λz=>e<|h1.trans z;have b:valueAt (q::qs) k=valueAt qs k:=by simp[valueAt,e']
    rwa [Oj e,b]
theorem KV.length(r:KV kvs vs):kvs.length=vs.length:=Paired.length r
end
def EV(r:RelV (kV k) u):(xR P w).is k u=true:=by
 cases k with
 |inl i=>obtain⟨t,e⟩:=(r);subst e;exact L4 P w i t
 |inr x=>obtain⟨t,e⟩:=(r);subst e;exact X1 P w x t
section
variable{P:Program}{w:World}{H:Hp}{h:Heap}{a:Addr}
def ng(ok:Q9 P w H h)(e:Rd H a u):vM P w H h a u:=e.ok ok
def oP(ok:Q9 P w H h)(e:Rd H a (.dK kvs)):kvs.length<=sizeLine/\(a==sysModules)=false/\∃vs,KV kvs vs/\h.DictOf (xR P w) a vs:=
 show vM P w H h a _ from ng ok e
end
section
variable{X:Cx}{pins:List (Addr×Obj)}{σ:St}{H:Hp}{s:Shared}{a:Addr}{y v:V}{u r:Value}{o:Option V}{A:Around}{E:Value->Shared->Prop}
def Inv.big(I:Inv X pins σ H s):sysModules<s.heap.objs.size:=by
 have h:=(I.mod.glob.keeps I.bk).lt;exact Nat.lt_trans (by decide) h
def Oo(z:kvs.length<=sizeLine)(hd:(a==sysModules)=false)(rel:KV kvs vs)(dd:h'.DictOf (xR P w) a vs):
 vM P w H' h' a (.dK kvs):=⟨z,hd,vs,rel,dd⟩
end
end L2
namespace HT
open PySem PyProof.Rows
section
variable{prog:Program}{w:World}{A:Around}{E:Value->Shared->Prop}{s:Shared}
def IX(ht:IsTup s.heap t vs.toArray)(hb:IsTup s.heap b ws.toArray)(hv:vs≠[])
 (h1:ws=[]->Q (.ref t) s) (h2:ws≠[]->Q (.ref s.heap.objs.size) {s with heap:=s.heap.push {cls:=.type "tuple",data:=.seq (vs++ws).toArray}})
 (hsz:vs.length+ws.length<=sizeLine):wpAny (model prog w) A (binaryOp .Add (.ref t)<|.ref b) Q E s:=by
 obtain⟨⟨cls,dd,data,sl⟩,ho,hc,n,hd⟩:=id ht;obtain⟨⟨cls2,dd2,data2,sl2⟩,ho2,hc2,n2,hd2⟩:=id hb;subst hc hd hc2 hd2;have e:vs.toArray++ws.toArray=(vs++ws).toArray:=by simp
 by_cases hw:ws=[]
 . exact concat_meets ⟨_,ho,rfl⟩ ⟨_,ho2,rfl⟩ noFill_tuple_add seq_tuple_add PySem.F.slot_tuple_add PySem.F.entry_tuple_add (PySem.F.args_tuple_add_2 _ _)
    (tuple_addW1 t b vs.toArray ws.toArray n n2 dd dd2 sl sl2 (by simpa using hv)<|by simp[hw]) ⟨ho,ho2,h1 hw⟩
 . refine concat_meets ⟨_,ho,rfl⟩ ⟨_,ho2,rfl⟩ noFill_tuple_add seq_tuple_add PySem.F.slot_tuple_add PySem.F.entry_tuple_add (PySem.F.args_tuple_add_2 _ _)
    (tuple_addW2 t b vs.toArray ws.toArray n n2 dd dd2 sl sl2 (by simpa using hv) (by simpa using hw)<|hsz) ⟨ho,ho2, ?_⟩
   rw[e];exact h2 hw
noncomputable def sIx(n d:Nat):Option Int->Nat
 |none=>d
 |some v=>if v<0 then(v+(n:Int)).toNat else min v.toNat n
def PP(n d:Nat):sIx n d none=d:=rfl
def YO(n d k:Nat):sIx n d (some (k:Int))=min k n:=rfl
def mT(n d:Nat)(hd:d<=n)(o):sIx n d o<=n:=by
 cases o with
 |none=>exact hd
 |some v=>
  show(if v<0 then(v+_).toNat else min v.toNat n)<=n
  by_cases hv:v<0
  . rw[if_pos hv];omega
  . rw[if_neg hv];exact Nat.min_le_right _ _
def Fo(v)(n d:Nat):(if v<0 then max (v+(n:Int)) 0 else min v (n:Int))=((sIx n d (some v):Nat):Int):=by
 show _=(((if v<0 then(v+_).toNat else min v.toNat n):Nat):Int)
 by_cases hv:v<0
 . simp only[if_pos hv];omega
 . simp only[if_neg hv];omega
def Ec(lo hi)(n:Nat):Builtin.Slice.sliceAdjust lo hi 1 (n:Int)=(((sIx n 0 lo:Nat):Int),((sIx n n hi:Nat):Int)):=by
 refine Prod.ext ?_ ?_
 . cases lo with
   |none=>rfl
   |some v=>exact Fo v n 0
 . cases hi with
   |none=>rfl
   |some v=>exact Fo v n n
def MM(i j:Nat):Builtin.Slice.slicePlaces (i:Int) (j:Int) 1=j-i:=by
 unfold Builtin.Slice.slicePlaces;have h1:(1:Int) > 0:=by omega
 simp
 split<;>omega
def Rm(p:IsPart v o)(h:Q o s):wpAny (model prog w) A (Builtin.Slice.slicePartIndex v) Q E s:=by
 cases p with
 |none=>exact slicePart_none h
 |int i t=>exact slicePart_int h
def Qz{sl vl vu lo hi}{n:Nat}{Q}(hs:s.heap.IsSliceOf sl vl vu .none)(pl:IsPart vl lo)(pu:IsPart vu hi)
 (h:Q (((sIx n 0 lo:Nat):Int),1,sIx n n hi-sIx n 0 lo) s):wpAny (model prog w) A (Builtin.Slice.sliceApplied (.ref sl)<|pure (n:Int)) Q E s:=by
 obtain⟨os,hos,hcs,hds⟩:=id hs;refine zxD<|zxD<|wpAny_field hos hds rfl<|zxD<|wpAny_field hos hds rfl<|zxD<|wpAny_field hos hds rfl<|zxE ?_;refine zxD<|slicePart_none ?_;refine zxD<|Rm pl<|zxD<|Rm pu<|zxD<|zxE ?_;show wpAny _ _ (match Builtin.Slice.sliceAdjust lo hi 1 _ with|(lo,hi)=>pure (lo,_,Builtin.Slice.slicePlaces lo hi 1)) _ _ s;rw[Ec lo hi n];show wpAny _ _ (pure _) _ _ s;rw[MM];exact zxE h
def OO(xs:Array Value)(i k:Nat):((List.range k).filterMap λ(m:Nat)=>xs[((i:Int)+(m:Int)*1).toNat]?).toArray=((xs.toList.drop i).take k).toArray:=by
 have e:(λ(m:Nat)=>xs[(i+(m:Int)*1).toNat]?)=λm=>xs[i+m]? := by
  funext m;have:(i+(m:Int)*1).toNat=i+m:=by omega
  rw[this]
 rw[e];have:=pick_run xs i k;rw[List.filterMap_map]at this;have e2:(_∘λx=>i+x)=λm=>xs[i+m]? := rfl;rw[e2]at this;rw[this]
def VS{t sl items vl vu lo hi Q}(ht:IsTup s.heap t items)(hs:s.heap.IsSliceOf sl vl vu .none)(pl:IsPart vl lo)(pu:IsPart vu hi)
 (hw:¬(sIx items.size 0 lo=0/\sIx items.size items.size hi=items.size))
 (h:Q (.ref s.heap.objs.size) {s with heap:=s.heap.push {cls:=.type "tuple",data:=.seq ((items.toList.drop<|sIx items.size 0 lo).take<|sIx items.size items.size hi-sIx items.size 0 lo).toArray}})
 (hsz:items.size<=sizeLine):wpAny (model prog w) A (getItem (.ref t)<|.ref sl) Q E s:=by
 have htake:sizeOk (.seq ((items.toList.drop<|sIx items.size 0 lo).take<|sIx items.size items.size hi-sIx items.size 0 lo).toArray):=by
  show((items.toList.drop _).take _).toArray.size<=sizeLine;rw[zzH,zzS,List.length_drop,zyT];omega
 obtain⟨os,hos,hcs,hds⟩:=id hs;have hTs:s.TypeIs (.ref sl) "slice":=⟨os,hos,hcs⟩;unfold getItem
 try with_reducible refine zxI ?_
 first|refine zxD _|skip
 refine zxD<|wpAny_sequenceKey ht.typeIs (by decide) ?_;refine zxD<|wpAny_callSpecial?_slot ht.typeIs PyProof.Rows.slot_tuple_getitem
  (zxL PyProof.Rows.slot_tuple_getitem ht.typeIs entry_tuple_getitem ?_<|args_tuple_getitem _ _)
 show wpAny _ _ (Builtin.Tuple.tupleItemsOf _ >>= _) _ _ s;refine zxD<|tupleItemsOf_ ht ?_;refine zxD<|wpAny_typeOf hTs ?_;refine zxD<|Qz hs pl pu ?_;have hno:¬((((sIx items.size 0 lo:Nat):Int)==0&&(1:Int)==1&&(sIx items.size items.size hi-sIx items.size 0 lo)==items.size)=true):=by
  intro q;rw[zyC,zyC]at q;have q1:=eq_of_beq q.1.1;have q2:=eq_of_beq q.2;exact hw ⟨by omega,by omega⟩
 show wpAny _ _ (if _=true then _ else _) _ _ s;rw[if_neg hno,OO]
 first
  |exact zxD (wpAny_newObj_type (zxE ⟨_,rfl,zxE h⟩) htake)
  |exact zxD _
  |exact zxD _
  |exact zxD _
end
end HT
namespace L2
open PySem PySem.Spec PyProof.Rows
abbrev TO:=St->Hp->(Option Int->Hp->Prop)->Prop
def PO(X:Cx)(e:Option Expr)(t:TO):Prop:=
 ∀(pins:List (Addr×Obj)) (s:Shared) (σ:St) (H:Hp) (Q:Option Int->Hp->Prop),Inv X pins σ H s->t σ H Q->
  wpAny (model X.prog X.w) X.A (evalPart e X.env) (λu s'=>∃o H',Inv X pins σ H' s'/\IsPart u o/\Q o H') X.xe s
def Fl:TO:=λ_ H Q=>Q none H
def rA(t:TE):TO:=λσ H Q=>t σ H λx H1=>∃i,x = .int i/\Q (some i) H1
def intsAre_of:∀{us:List Value},zQ (ns.map V.int) us->IntsAre us ns:=by
 induction ns with
 |nil=>intro us r;cases r;exact .nil
 |cons n ns ih=>
  intro us r;cases r with
  |cons r1 r2=>
   obtain⟨t,e⟩:=r1;subst e;exact .cons n t<|ih r2
section
variable{X:Cx}{e:Expr}{te:TE}{lo hi:Option Expr}{tl th:TO}{pos p2:Pos}
def CW:PO X none Fl:=by
 intro pins s σ H Q I h;rw[evalPart_none];exact zxE ⟨none,H,I,.none,h⟩
def CO(h:PE X e te):PO X (some e) (rA te):=by
 intro pins s σ H Q I hw;rw[evalPart_some];refine wA (h pins s σ H _ I hw) λu s1 ⟨x,H1,I1,r1,q1⟩=>?_;obtain⟨i,rfl,q⟩:=q1;obtain⟨t,rfl⟩:=r1;exact⟨some i,H1,I1,.int i t,q⟩
def n6(X:Cx)(r:V->Option Int->Option Int->Hp->VK->Prop):Prop:=
 ∀(pins:List (Addr×Obj)) (s:Shared) (σ:St) (H:Hp) (x:V) (v vl vu:Value) (lo hi:Option Int) (sl:Addr) (Q:VK),Inv X pins σ H s->RelV x v->s.heap.IsSliceOf sl vl vu .none->IsPart vl lo->IsPart vu hi->r x lo hi H Q->
  ∃T id,typeLookup (.type T) "__getitem__"=pure (some<|.builtin id)/\s.TypeIs v T/\wpAny (model X.prog X.w) X.A (getItem v<|.ref sl) (EP X pins σ Q) X.xe s
def ji(r:V->Option Int->Option Int->Hp->VK->Prop)(te:TE)(tl th:TO):TE:=λσ H Q=>te σ H λx H1=>tl σ H1 λl H2=>th σ H2 λu H3=>r x l u H3 Q
def B7(hr:n6 X r)(he:PE X e te)(hl:PO X lo tl)(hu:PO X hi th):PE X (.Subscript e (.Slice lo hi none p2) pos) (ji r te tl th):=by
 intro pins s σ H Q I h;refine Subscript_<|wA (he pins s σ H _ I h) λv s1 ⟨x,H1,I1,r1,q1⟩=>?_;refine wpAny_Slice<|wA (hl pins s1 σ H1 _ I1 q1) λvl s2 ⟨l,H2,I2,pl,q2⟩=>wA (hu pins s2 σ H2 _ I2 q2) λvu s3 ⟨u,H3,I3,pu,q3⟩=>?_;rw[evalPart_none];refine zxE ?_;have I4:Inv X pins σ H3 {s3 with heap:=s3.heap.push {cls:=.type "slice",data:=.fields #[vl,vu,.none]}}:=I3.kept (t':=s3.toks) λb ob q=>zxF _ q;obtain⟨T,id,hT,ht,hg⟩:=hr pins {s3 with heap:=s3.heap.push {cls:=.type "slice",data:=.fields #[vl,vu,.none]}} σ H3 x v vl vu l u s3.heap.objs.size Q I4 r1 (Heap.IsSliceOf.new ..) pl pu q3;exact tail_any ht hT hg (by with_unfolding_all rfl)
def FS(xs:List V)(lo hi:Option Int):List V:=(xs.drop<|HT.sIx xs.length 0 lo).take<|HT.sIx xs.length xs.length hi-HT.sIx xs.length 0 lo
def Ug(xs)(lo hi):(FS xs lo hi).length<=xs.length:=by
 unfold FS;rw[zzS,List.length_drop];omega
def lN(K:zzA):V->Option Int->Option Int->Hp->VK->Prop:=λx lo hi H Q=>∃a xs,x = .ref a/\Vd K H a xs/\
 ¬(HT.sIx xs.length 0 lo=0/\HT.sIx xs.length xs.length hi=xs.length)/\∀p,H p=none->Q (.ref p) (upd H p<|.tup<|FS xs lo hi)
def Dm:n6 X (lN X.K):=by
 intro pins s σ H x v vl vu lo hi sl Q I rx hs pl pu h;obtain⟨a,xs,rfl,hx,hw,q⟩:=h;cases rx;obtain⟨its,r,ht,hz⟩:=I.tuple hx;have hlen:its.toArray.size=xs.length:=by rw[zzH];exact r.length.symm
 refine⟨"tuple",_,PyProof.Rows.slot_tuple_getitem.lookup,ht.typeIs, ?_⟩;refine HT.VS ht hs pl pu (by rw[hlen];exact hw) ?_ (by rw[hlen];exact hz);rw[hlen];refine⟨.ref s.heap.objs.size,_,I.laid (t':=s.toks) (λb ob q=>zxF _ q) (zzN _) ?_,rfl,q _<|I.hok.fresh<|zzN _⟩;exact⟨zzO (Ug xs lo hi) hz,_,(r.drop _).take _,IsTup.new _ _⟩
def pd(K:zzA):R2:=λx y H Q=>∃a b xs ys,x = .ref a/\y = .ref b/\Vd K H a xs/\Vd K H b ys/\xs≠[]/\xs.length+ys.length<=sizeLine/\
 (ys=[]->Q (.ref a) H)/\(ys≠[]->∀p,H p=none->Q (.ref p) (upd H p<|.tup<|xs++ys))
def zQ.nil_iff(r:zQ xs us):us=[] ↔ xs=[]:=by
 cases r with
 |nil=>simp
 |cons _ _=>simp
def JH:Qe X (binaryOp .Add) (pd X.K):=by
 intro pins s σ H x y v u Q I rx ry h;obtain⟨a,b,xs,ys,rfl,rfl,ha,hb,hx,hz,q1,q2⟩:=h;cases rx;cases ry;obtain⟨its,r1,p1,_⟩:=I.tuple ha;obtain⟨its2,r2,p2,_⟩:=I.tuple hb;refine HT.IX p1 p2 (λz=>hx<|r1.nil_iff.mp z) (λz=>⟨.ref a,H,I,rfl,q1<|r2.nil_iff.mp z⟩) (λz=>?_) (by rw[<-r1.length,<-r2.length];exact hz);refine⟨.ref s.heap.objs.size,_,I.laid (t':=s.toks) (λb ob q=>zxF _ q) (zzN _) ?_,rfl,q2 (λw=>z<|r2.nil_iff.mpr w) _<|I.hok.fresh<|zzN _⟩;exact⟨by rw[zzJ];exact hz,_,r1.append r2,IsTup.new _ _⟩
end
end L2
namespace L2
open PySem PySem.Spec PyProof.Rows
noncomputable def ixN(n:Nat)(i:Int):Option Nat:=if 0<=i then(if i<n then some i.toNat else none)else if -(n:Int)<=i then some (i+n).toNat else none
def atI{α:Type}(xs:List α)(i:Int):Option α:=(ixN xs.length i).bind λj=>xs[j]?
def IT(h:ixN n i=some j):seqIndex? i n=some j/\j<n /\ -(n:Int)<=i/\i<n:=by
 unfold ixN at h
 by_cases h0:0<=i
 . rw[if_pos h0]at h
   by_cases h1:i<n
   . rw[if_pos h1]at h;have e:=zzZ h;exact⟨by rw[seqIndex_of h0 h1,e],by omega,by omega,h1⟩
   . rw[if_neg h1]at h;cases h
 . rw[if_neg h0]at h
   by_cases h1 : -n<=i
   . rw[if_pos h1]at h;have e:=zzZ h;exact⟨by rw[seqIndex_neg (q0Z h0) h1,e],by omega,h1,by omega⟩
   . rw[if_neg h1]at h;cases h
def K0(h:atI xs i=some v):∃j,seqIndex? i xs.length=some j/\xs[j]? = some v/\j<xs.length /\ -(xs.length:Int)<=i/\i<xs.length:=by
 unfold atI at h;cases e:ixN xs.length i with
 |none=>rw[e]at h;cases h
 |some j=>
  rw[e]at h;obtain⟨h1,h2,h3,h4⟩:=IT e;exact⟨j,h1,h,h2,h3,h4⟩
def V0{α:Type}{xs}{j:Nat}{v:α}(h:xs[j]? = some v):atI xs (j:Int)=some v:=by
 have hj:=(zzG.mp h).1;have e:ixN xs.length (j:Int)=some j:=by
  unfold ixN;rw[if_pos (q0a),if_pos<|(q0j hj)];simp
 unfold atI;rw[e];exact h
def KJ(b:Expr):Prop:=∀o i,subscripted b false o i=operate [o,i] (getItem o i)
def rH(X:Cx)(r:R2):Prop:=
 ∀(value slice:Expr) (pins:List (Addr×Obj)) (s:Shared) (σ:St) (H:Hp) (x y:V) (v u:Value) (Q:VK),Inv X pins σ H s->RelV x v->RelV y u->r x y H Q->
  subscripted slice false v u=operate [v,u] (getItem v u)->wpAny (model X.prog X.w) X.A (subscriptTail value slice v u) (EP X pins σ Q) X.xe s
def kH(X:Cx)(id:String)(r:V->List V->Hp->VK->Prop):Prop:=
 ∀(pins:List (Addr×Obj)) (s:Shared) (σ:St) (H:Hp) (x:V) (xs:List V) (v:Value) (us:List Value) (Q:VK),Inv X pins σ H s->RelV x v->zQ xs us->r x xs H Q->
  wpAny (model X.prog X.w) X.A (call (.builtin id) (v::us)) (EP X pins σ Q) X.xe s
section
variable{X:Cx}{a b:Expr}{ta tb:TE}{pos:Pos}
def rL(hr:rH X r)(ha:PE X a ta)(hb:PE X b tb)(hs:KJ b):PE X (.Subscript a b pos) (nU r ta tb):=by
 intro pins s σ H Q I h;exact Subscript_<|uL ha hb I h λv u s2 x y H2 I2 rx ry q=>hr a b pins s2 σ H2 x y v u Q I2 rx ry q<|hs _ _
def m7(K:zzA):R2:=λx y H Q=>∃p xs i v,x = .ref p/\y = .int i/\Xo K H p xs/\atI xs i=some v/\Q v H
def kI(K:zzA):R2:=λx y H Q=>∃p xs i v,x = .ref p/\y = .int i/\Vd K H p xs/\atI xs i=some v/\Q v H
def mO:R2:=λx y H Q=>∃z i c,x = .str z/\y = .int i/\z.length<=sizeLine/\atI z.cps.toList i=some c/\Q (.str ⟨#[c]⟩) H
def Js:rH X (m7 X.K):=by
 intro value slice pins s σ H x y v u Q I rx ry h hs;obtain⟨p,xs,i,z,rfl,rfl,hq,he,q⟩:=h;cases rx;obtain⟨t,rfl⟩:=ry;obtain⟨its,r,pl,hz⟩:=I.list hq;obtain⟨j,h1,h2,h3,h4,h5⟩:=K0 he;obtain⟨w,ew,rw'⟩:=r.get h2;have hl:=r.length;have hn:=Qh;have fin:EP X pins σ Q w s:=⟨z,H,I,rw',q⟩
 by_cases h0:0<=i
 . have hj:i.toNat=j:=by
    rw[seqIndex_of h0 h5]at h1;exact zzZ h1
   exact item_listR pl.isList h0 (by omega) (by rw[hj];simpa using ew) fin hs
 . have hj:(i+(its.toArray.size:Int)).toNat=j:=by
    rw[seqIndex_neg (q0Z h0) h4]at h1;rw[zzH,<-hl];exact zzZ h1
   exact subscriptTail_builtinR pl.isList.typeIs slot_list_getitem.lookup
    (wpAny_getItem_list_neg pl.isList (q0Z h0) (by rw[zzH]<;>omega) (by omega) (by rw[hj];simpa using ew) ⟨rfl,fin⟩) hs
def sC:rH X (kI X.K):=by
 intro value slice pins s σ H x y v u Q I rx ry h hs;obtain⟨p,xs,i,z,rfl,rfl,hq,he,q⟩:=h;cases rx;obtain⟨t,rfl⟩:=ry;obtain⟨its,r,pl,hz⟩:=I.tuple hq;obtain⟨j,h1,h2,h3,h4,h5⟩:=K0 he;obtain⟨w,ew,rw'⟩:=r.get h2;have hl:=r.length;have hn:=Qh;have fin:EP X pins σ Q w s:=⟨z,H,I,rw',q⟩;exact subscriptTail_builtinR pl.typeIs slot_tuple_getitem.lookup
  (getItem_tuple pl (by omega) (by omega) (by rw[zzH,<-hl];exact h1) (by simpa using ew) ⟨rfl,fin⟩) hs
def DJ:rH X mO:=by
 intro value slice pins s σ H x y v u Q I rx ry h hs;obtain⟨z,i,c,rfl,rfl,hz,he,q⟩:=h;obtain⟨t,rfl⟩:=rx;obtain⟨t',rfl⟩:=ry;obtain⟨j,h1,h2,h3,h4,h5⟩:=K0 he;have hl:z.cps.toList.length=z.length:=by simp[Str.length]
 rw[hl]at h1 h4 h5;have hn:=Qh;exact tail_any (typeIs_str s z t) slot_str_getitem.lookup (getItem_str (by
  have e1:decide (i < -(2 ^ 63:Int))=false:=zyG (by omega);have e2:decide (i ≥ 2 ^ 63)=false:=zyG (by omega);rw[e1,e2,Bool.or_false]) (by rw[h1];simpa using h2) ⟨.str ⟨#[c]⟩,H,I.tok _,⟨_,rfl⟩,q⟩) hs
def GU(lo hi)(n:Nat):(sliceBounds lo hi none n).1=((HT.sIx n 0 lo:Nat):Int)/\(sliceBounds lo hi none n).2.1=((HT.sIx n n hi:Nat):Int)/\(sliceBounds lo hi none n).2.2=1:=by
 refine⟨?_, ?_,rfl⟩
 . cases lo with
   |none=>simp[sliceBounds,HT.sIx]
   |some i=>
    simp only[sliceBounds,HT.sIx,Option.getD_none,show 1 > 0 by decide,if_true]
    by_cases h:i<0
    . simp only[h,if_true]<;>omega
    . simp only[h,if_false]<;>omega
 . cases hi with
   |none=>simp[sliceBounds,HT.sIx]
   |some i=>
    simp only[sliceBounds,HT.sIx,Option.getD_none,show 1 > 0 by decide,if_true]
    by_cases h:i<0
    . simp only[h,if_true]<;>omega
    . simp only[h,if_false]<;>omega
def P0(its:List Value)(lo hi):slicePick its.toArray lo hi none=((its.drop<|HT.sIx its.length 0 lo).take<|HT.sIx its.length its.length hi-HT.sIx its.length 0 lo).toArray:=by
 obtain⟨h1,h2,h3⟩:=GU lo hi its.toArray.size;unfold slicePick;rw[h1,h2,h3];simp only[sliceRange_one,pick_run,zzH]<;>rfl
def k_(K:zzA):V->Option Int->Option Int->Hp->VK->Prop:=λx lo hi H Q=>∃a xs,x = .ref a/\Xo K H a xs/\∀p,H p=none->Q (.ref p) (upd H p<|.lst<|FS xs lo hi)
def Iw:n6 X (k_ X.K):=by
 intro pins s σ H x v vl vu lo hi sl Q I rx hs pl pu h;obtain⟨a,xs,rfl,hx,q⟩:=h;cases rx;obtain⟨its,r,ht,hz⟩:=I.list hx;have hlen:=r.length;refine⟨"list",_,slot_list_getitem.lookup,ht.isList.typeIs, ?_⟩;refine wpAny_getItem_list_slice ht.isList hs pl pu .none (by simp) ?_ (by rw[zzH]<;>omega);rw[P0,<-hlen];refine⟨.ref s.heap.objs.size,_,I.laid (t':=s.toks) (λb ob q=>zxF _ q) (zzN _) ?_,rfl,q _<|I.hok.fresh<|zzN _⟩;exact⟨zzO (Ug xs lo hi) hz,_,0,(r.drop _).take _,zxH _ rfl⟩
def Vk:Yq X (.builtin "len") (λxs H Q=>∃p ys,xs=[.ref p]/\(Xo X.K H p ys\/Vd X.K H p ys)/\Q (.int ys.length) H):=by
 intro pins s σ H xs us Q I r h;obtain⟨p,ys,rfl,hq,q⟩:=h;obtain⟨u,rfl,rx⟩:=vals1 r;cases rx;have hn:=Qh
 rcases hq with hq|hq
 . obtain⟨its,r',pl,hz⟩:=I.list hq;have hlen:=r'.length;exact Calls.call_len_list pl.isList (by simp only[zzH]<;>omega) ⟨.int ys.length,H,I.tok _,⟨s.toks+1,by rw[zzH,hlen]⟩,q⟩
 . obtain⟨its,r',pl,hz⟩:=I.tuple hq;have hlen:=r'.length;exact len_tuple pl (by simp only[zzH]<;>omega) ⟨.int ys.length,H,I.tok _,⟨s.toks+1,by rw[zzH,hlen]⟩,q⟩
def G9:Yq X (.builtin "len") (λxs H Q=>∃z,xs=[.str z]/\z.length<=sizeLine/\Q (.int z.length) H):=by
 intro pins s σ H xs us Q I r h;obtain⟨z,rfl,hz,q⟩:=h;obtain⟨u,rfl,t,rfl⟩:=vals1 r;have hn:=Qh;exact len_str (by omega) ⟨.int z.length,H,I.tok _,⟨_,rfl⟩,q⟩
def VO:Yq X (.type "list") (λxs H Q=>∃p ys,xs=[.ref p]/\(Xo X.K H p ys\/Vd X.K H p ys)/\∀l,H l=none->Q (.ref l) (upd H l<|.lst ys)):=by
 intro pins s σ H xs us Q I r h;obtain⟨p,ys,rfl,hq,q⟩:=h;obtain⟨u,rfl,rx⟩:=vals1 r;cases rx;have fin:∀its,zQ ys its->ys.length<=sizeLine->∀h' c',_->
  h'.get? s.heap.objs.size=some {cls:=.type "list",dict:=none,data:=.seq its.toArray c',slots:=#[]}->EP X pins σ Q _ {s with heap:=h'}:=λits r' hz h' c' kp e=>
  ⟨.ref s.heap.objs.size,_,I.laid (t':=s.toks) kp (zzN _) (show vM X.prog X.w _ h' _ (.lst ys)from⟨hz,its,c',r',e⟩),rfl,q _<|I.hok.fresh<|zzN _⟩
 rcases hq with hq|hq
 . obtain⟨its,r',pl,hz⟩:=I.list hq;have hlen:=r'.length;obtain⟨o,ho,hc,n,hd⟩:=pl.isList;exact call_list_seq p (.inl rfl) ho hc hd (λh' c' kp e=>fin its r' hz h' c' kp e) (by simp only[zzH]<;>omega)
 . obtain⟨its,r',pl,hz⟩:=I.tuple hq;have hlen:=r'.length;obtain⟨o,ho,hc,n,hd⟩:=pl;exact call_list_seq p (.inr rfl) ho hc hd (λh' c' kp e=>fin its r' hz h' c' kp e) (by simp only[zzH]<;>omega)
def WX:Yq X (.type "tuple") (λxs H Q=>∃p ys,xs=[.ref p]/\((Xo X.K H p ys/\∀l,H l=none->Q (.ref l) (upd H l<|.tup ys))\/(Vd X.K H p ys/\Q (.ref p) H))):=by
 intro pins s σ H xs us Q I r h;obtain⟨p,ys,rfl,h⟩:=h;obtain⟨u,rfl,rx⟩:=vals1 r;cases rx
 rcases h with⟨hq,q⟩|⟨hq,q⟩
 . obtain⟨its,r',pl,hz⟩:=I.list hq;have hlen:=r'.length;refine call_tuple_list pl.isList (λh' kp=>?_) (by simp only[zzH]<;>omega);have I1:=I.kept (t':=s.toks) kp;have I2:=
    I1.laid (t':=s.toks) (λb o e=>zxF _ e) (zzN _) (show vM X.prog X.w _ _ _ (.tup ys)from⟨hz,its,r',IsTup.new _ _⟩)
   exact⟨.ref h'.objs.size,_,I2,rfl,q _<|I1.hok.fresh<|zzN _⟩
 . obtain⟨its,r',pl,hz⟩:=I.tuple hq;exact call_tuple_same pl ⟨.ref p,H,I,rfl,q⟩
def iq(K:zzA)(T:String)(x:V)(H:Hp):Prop:=match x with
 | .str _=>T="str"
 | .int _=>T="int"
 | .ref p=>(T="list"/\∃xs,Xo K H p xs)\/(T="tuple"/\∃o,K.lookup p=some o/\o.cls = .type "tuple"/\o.dict=none) \/
  (T="dict"/\((∃kvs,H p=some (.dK kvs))\/∃kvs,H p=some (.dT kvs)))\/(T="set"/\∃S n,H p=some (.set S n))
 |_=>False
def tD(I:Inv X pins σ H s)(r:RelV x v)(ty:iq X.K T x H):
 s.TypeIs v T/\∀a,v = .ref a->∃ob,s.heap.get? a=some ob/\ob.dict=none:=by
 cases x with
 |str z=>
  obtain⟨t,rfl⟩:=r;cases(ty);exact⟨typeIs_str s z t,λ_ e=>nomatch e⟩
 |int i=>
  obtain⟨t,rfl⟩:=r;cases(ty);exact⟨typeIs_int s i t,λ_ e=>nomatch e⟩
 |ref p=>
  cases r
  rcases ty with⟨rfl,xs,hq⟩|⟨rfl,o,hk,hc,hd⟩|⟨rfl,hk⟩|⟨rfl,S,n,hk⟩
  . obtain⟨its,_,pl,_⟩:=I.list hq;refine⟨pl.isList.typeIs,λa e=>?_⟩;cases e;obtain⟨o,n,e,c,hd,_⟩:=pl;exact⟨o,e,hd⟩
  . refine⟨⟨o,I.kIn p o hk,hc⟩,λa e=>?_⟩;cases e;exact⟨o,I.kIn _ o hk,hd⟩
  . have z:∃o,s.heap.get? p=some o/\o.ExactDict:=by
     rcases hk with⟨kvs,hk⟩|⟨kvs,hk⟩
     . obtain⟨_,_,_,_,o,_,_,e,ex,_⟩:=I.hok p _ hk;exact⟨o,e,ex⟩
     . obtain⟨_,_,_,_,o,_,_,e,ex,_⟩:=I.hok p _ hk;exact⟨o,e,ex⟩
    obtain⟨o,e,ex⟩:=z;refine⟨⟨o,e,ex.1⟩,λa e2=>?_⟩;cases e2;exact⟨o,e,ex.2.1⟩
  . obtain⟨o,_,_,_,e,ex,_⟩:=I.hok p _ hk;refine⟨⟨o,e,ex.1⟩,λa e2=>?_⟩;cases e2;exact⟨o,e,ex.2.1⟩
 |_=>exact False.elim ty
def jW(K:zzA)(T:String)(r:V->List V->Hp->VK->Prop)(to:TE)(t:TA):TE:=λσ H Q=>to σ H λx H1=>iq K T x H1/\t σ H1 λxs H2=>r x xs H2 Q
variable{o e:Expr}{es:List Expr}{to:TE}{t:TA}{name:Str}{apos cpos:Pos}{T id:String}{r:V->List V->Hp->VK->Prop}
def Aq(pa:PlainAttrs T)(slot:Slot T name id)(hty:typeOf (.builtin id)=pure (.type "method_descriptor"))(hm:kH X id r)(ho:PE X o to)(ha:PA X (e::es) t)
 (hbase:attributeBase o name X.env (eval o X.env)=eval o X.env:=by rfl)
 (hfew:((backTo cpos<|starEach (e::es) X.env).all (λx=>!x.1)&&(backToKw cpos<|keywordEach [] X.env).all (λx=>x.1.isSome)
  && decide ((e::es).length+([]:List Keyword).length+(if([]:List Keyword).isEmpty then 0 else 1)<30))=true:=by rfl)
 (hline:(apos.endLine==cpos.line)=true:=by rfl) (hs:starEach (e::es) X.env=(false,eval e X.env)::starEach es X.env:=by rfl) (hplain:(backTo cpos<|starEach es X.env).any (·.1)=false:=by rfl):
 PE X (.Call (.Attribute o name apos) (e::es) [] cpos) (jW X.K T r to t):=by
 intro pins s σ H Q I h;refine wpAny_Call_method_late hbase hfew hline rfl<|wA (ho pins s σ H _ I h) λv s1 ⟨x,H1,I1,r1,ty,q1⟩=>?_;obtain⟨h1,h2⟩:=tD I1 r1 ty;refine⟨T,id,pa,slot,hty,h1,h2, ?_⟩;have hA:=ha cpos pins s1 σ H1 _ I1 q1;rw[hs]at hA ⊢;refine Calls.callWith_builtin (by show(false||(backTo cpos _).any (·.1))=false;rw[hplain]<;>rfl)<|Calls.evalArgs_plain ?_;exact wA hA λus s2 ⟨vs,H2,I2,r2,q2⟩=>hm pins s2 σ H2 x vs v us Q I2 r1 r2 q2
end
end L2
namespace L2
open PySem PySem.Spec PyProof.Rows
def kz(X:Cx)(id:String)(r:V->List V->Hp->VK->Prop):Prop:=
 ∀(pins:List (Addr×Obj)) (s:Shared) (σ:St) (H:Hp) (x:V) (xs:List V) (v:Value) (us:List Value) (Q:VK),Inv X pins σ H s->RelV x v->zQ xs us->r x xs H Q->
  wpAny (model X.prog X.w) X.A (call (.builtin id) (v::us)) (EP X pins σ Q) X.xe s
def zQ.one:∀{x:V}{us:List Value},zQ [x] us->∃u,us=[u]/\RelV x u:=by
 intro x us h;cases h with
 |cons r t=>cases t;exact⟨_,rfl,r⟩
def zQ.two:∀{x y:V}{us:List Value},zQ [x,y] us->∃u v,us=[u,v]/\RelV x u/\RelV y v:=by
 intro x y us h;cases h with
 |cons r t=>
  cases t with
  |cons q t=>cases t;exact⟨_,_,rfl,r,q⟩
theorem zQ.reverse(h:zQ xs us):zQ xs.reverse us.reverse:=by
 induction h with
 |nil=>exact .nil
 |cons r t ih=>rw[List.reverse_cons,List.reverse_cons];exact zQ.append ih<|.cons r .nil
theorem zQ.rep(h:zQ xs us):∀k:Nat,zQ (List.replicate k xs).flatten (List.replicate k us).flatten
 |0=>.nil
 |k+1=>by
  rw[List.replicate_succ,List.replicate_succ,List.flatten_cons,List.flatten_cons];exact zQ.append h<|zQ.rep h k
theorem foldl_rep(its):∀(k:Nat) (acc:List Value),
 List.foldl (λx1 x2=>x1++x2) acc.toArray (List.replicate k its.toArray)=(acc++(List.replicate k its).flatten).toArray
 |0,acc=>by simp
 |k+1,acc=>by
  have e:acc.toArray++its.toArray=(acc++its).toArray:=by simp
  have e2:(acc++its)++(List.replicate k its).flatten=acc++(List.replicate (k+1) its).flatten:=by
   rw[List.replicate_succ,List.flatten_cons,zxA]
  rw[<-e2,<-foldl_rep its k _,<-e,List.replicate_succ,List.foldl_cons]
section
variable{X:Cx}{pins:List (Addr×Obj)}{σ:St}{H:Hp}{s:Shared}{l b:Addr}{xs ys zs:List V}
def Inv.lset{its its':List Value}{n:Nat}{f}{t':Nat}(I:Inv X pins σ H s)(hH:H l=some (.lst xs))
 (e:s.heap.get? l=some {cls:=.type "list",data:=.seq its.toArray n}) (hf:f its.toArray=its'.toArray) (hv:zQ ys its') (hz:ys.length<=sizeLine):
 Inv X pins σ (upd H l<|.lst ys) {s with heap:=s.heap.update l<|Obj.mapSeq f,toks:=t'}:=by
 have q:=PySem.IsL.update e f;rw[hf]at q;refine I.write (by rw[hH];exact trivial) (.inl rfl) (λb' u hb hu=>(Heap.get?_update_other s.heap _<|Ne.symm hb).trans hu) ⟨_,q⟩ ?_;exact⟨hz,its',_,hv,q⟩
def Inv.lnew(I:Inv X pins σ H s)(hv:zQ ys its)(hz:ys.length<=sizeLine):
 Inv X pins σ (upd H s.heap.objs.size<|.lst ys) {s with heap:=s.heap.push {cls:=.type "list",data:=.seq its.toArray},toks:=t'}:=
 I.laid (λ_ _ q=>zxF _ q) (zzN _) ⟨hz,its,0,hv,zxH _ rfl⟩
theorem Inv.fresh(I:Inv X pins σ H s):H s.heap.objs.size=none:=I.hok.fresh<|zzN _
def Inv.lstM(I:Inv X pins σ H s)(hH:H l=some (.lst xs)):xs.length<=sizeLine/\∃(its:List Value) (n:Nat),zQ xs its/\xs.length=its.length/\s.heap.get? l=some {cls:=.type "list",data:=.seq its.toArray n}:=by
 obtain⟨z,its,n,r,e⟩:=I.hok l _ hH;exact⟨z,its,n,r,r.length,e⟩
def O1(h:n<=sizeLine):Builtin.List.listTooLong n=false:=by
 unfold Builtin.List.listTooLong;exact zyG (by omega)
end
section
variable{X:Cx}
def Fh:V->List V->Hp->VK->Prop:=λx vs H Q=>∃l xs y,x = .ref l/\vs=[y]/\H l=some (.lst xs)/\xs.length<sizeLine/\Q .non (upd H l<|.lst<|xs++[y])
def Gq:kz X "list.append" Fh:=by
 intro pins s σ H x vs v us Q I rx rv h;obtain⟨l,xs,y,rfl,rfl,hH,hz,q⟩:=h;cases rx;obtain⟨u,rfl,ru⟩:=rv.one;obtain⟨z,its,n,r,hl,e⟩:=I.lstM hH;refine call_meets F.slot_list_append ⟨_,e,rfl⟩ F.entry_list_append (F.args_list_append_2 _ _) (PySem.list_append l its.toArray n u<|by rw[zzH];exact q0I hz hl) ⟨e, ?_⟩;refine⟨.non,_,I.lset (its':=its++[u]) hH e (by simp) (r.append<|.cons ru .nil) ?_,rfl,q⟩;rw[zzJ,List.length_singleton];omega
def len_rep(xs:List α)(k:Nat):(List.replicate k xs).flatten.length=k*xs.length:=by
 induction k with
 |zero=>simp
 |succ k ih=>rw[List.replicate_succ,List.flatten_cons,zzJ,ih,Nat.succ_mul,Nat.add_comm]
end
end L2
namespace Att
open PySem PySem.W PySem.Calls PyProof.Rows
def Ut:∀(ns:List Int) (vs:List Value),WellAll P h vs (ns.map WData.int)->IntsAre vs ns:=by
 intro ns
 induction ns with
 |nil=>
  intro vs w;rw[List.map_nil]at w;cases w;exact .nil
 |cons n ns ih=>
  intro vs w;rw[zyS]at w;cases w with
  |cons a b=>
   cases a;exact .cons _ _<|ih _ b
def BZ{l:OpenLaw}{n:Nat}(hn:l.most=some n){P h args vals}
 (hpre:l.row.toRowW.claim.pre args=true) (hwl:WellAll P h vals args):
 ∃a vs ns,vals=[Value.ref a]/\args=[WData.list<|ns.map WData.int]/\h.get? a=some {cls:=.type "list",data:=.seq vs.toArray}/\IntsAre vs ns/\ns.length<=n:=by
 have hsh:=(pre_splitW hpre).1;have hc:l.pre.holds [] {args:=args}=true:=(pre_splitW hpre).2;obtain⟨d,r,rfl,h1,h2⟩:=hasAllW_cons hsh;obtain rfl:=hasAllW_nil h2;obtain⟨xs,rfl,h3⟩:=hasW_list h1;obtain⟨ns,rfl⟩:=items_int h3;have hlen:ns.length<=n:=by
  unfold OpenLaw.pre at hc;have h4:(WTm.not<|.lt (.lit<|.int (n:Int))<|.len<|.arg 0).holds [] {args:=[.list<|ns.map .int]}=true:=by
   have h4:=(holds_andW hc).1;rw[hn]at h4;exact h4
  have h5:=condW_of h4<|w_not<|w_lt w_lit<|w_len_list<|w_arg rfl;rw[zzB]at h5;refine Nat.le_of_not_lt λq=>?_;have q':n<(ns.length:Int):=q0j q
  first
   |(rw[zyO q']at h5;exact absurd h5 (by decide))
   |(simp at h5;omega)
 cases hwl with
 |cons w1 w2=>
  cases w2;cases w1 with
  |list ho hall=>exact⟨_,_,ns,rfl,rfl,ho,Ut ns _ hall,hlen⟩
def BU(l:OpenLaw)(args):l.row.toRowW.claim.post args (.bool true) args=true:=
 postW_of
  (show WShape.has [] _ .bool=true by first|rfl|decide|simp[WShape.has,WShape.arms,WShape.armsAll])
  (w_eq_bool (w_res rfl) w_lit) rfl
def Nk{l:OpenLaw}{n:Nat}{q loose XP YP d}
 (hn:l.most=some n) (hdf:d.params.defaults=[])
 (call:∀(w:World) (s₀ s₁:Shared) (mg mb:Str->Option Value) (fa:Addr) (o:Obj) (pm cd doc:Value) (a:Addr) (vs:List Value) (ns:List Int),
  Ground q loose [] XP w s₀ mg mb s₁.heap->YP w s₁.heap->
  s₁.heap.get? fa=some o->o.data = .func (docDef d.name d.params d.body d.scope pm cd doc)->s₁.heap.CodeRec cd d.name->mg d.name=some (.ref fa)->
  s₁.heap.get? a=some {cls:=.type "list",data:=.seq vs.toArray}->IntsAre vs ns->ns.length<=n->s₁.gens = #[]->
  codeAny (model l.prog w) callerA (.call (.ref fa) ⟨[.ref a],[]⟩) (λr s'=>r = .ok (.ret<|.bool true)/\OldK s₁.heap s'.heap/\s'.os=s₁.os/\AllBare s'.gens) s₁):
 WalkO q loose XP YP l.row.toRowW d [] (λf vs=>PySem.call f vs):=by
 intro w s₀ s₁ mg mb G Y fa o pm cd doc dV kV ho hd hcd hD hmg hg args vals as hpre hlay hrd hwl hlo;obtain rfl:dV = .none:=Dflts.none hD hdf;obtain rfl:kV = .none:=Dflts.noKw hD;obtain⟨a,vs,ns,rfl,rfl,hobj,hints,hlen⟩:=BZ hn hpre hwl;refine enter_call<|codeAny_mono (call w s₀ s₁ mg mb fa o pm cd doc a vs ns G Y ho (fd_plain hd) hcd hmg hobj hints hlen hg) λr s' hq=>?_;obtain⟨rfl,h2,h3,h4⟩:=hq;exact⟨.inl ⟨.bool true,.bool true,[],rfl,λ_=>rfl,.bool true,BU l _,λ_=>⟨List.Pairwise.nil,λ_ hm=>(nomatch hm)⟩⟩,h2,h3,h4⟩
end Att
namespace L2
open PySem PySem.Spec PyProof.Rows
theorem TQ:∀{vs:List Value}{ns:List Int},IntsAre vs ns->zQ (ns.map V.int) vs
 |_,_,.nil=>.nil
 |_,_,.cons n t h=>.cons ⟨t,rfl⟩<|TQ h
def uF(H:Hp):Prop:=∀b,H b=none\/∃o xs,H b=some (.frz o<|.lst xs)
def Sa{P w K mg mb CX}{k:Nat}{fa a fd x sp s₁ vs ns}
 (KX:K.In s₁.heap) (hns:s₁.heap.Ns mainGlobals mg) (hb:s₁.heap.Ns builtinsNs mb) (hbb:∀x:Str,x≠"__name__"->mb x=bootBuiltins x) (hlim:s₁.heap.NoLimit) (hg:s₁.gens = #[])
 (ha:s₁.heap.get? a=some {cls:=.type "list",data:=.seq vs.toArray}) (hi:IntsAre vs ns) (hl:ns.length<=sizeLine) (hr:Room k callerA)
 (F:∀base:Heap,K.In base->base.Ns mainGlobals mg->FnOk P w K mg base CX k fa fd [x] sp) (hbind:∀(s:Shared) (u:Value),BindsTo s fd ⟨[u],[]⟩ [(x,u)])
 (hsp:∀H:Hp,uF H->Sr K H a (ns.map V.int)->sp [.ref a] H (λv _=>v = .bl true) λ_ _ _=>False)
 (hCX:∀H e s',CX [] H s₁ (λ_ _ _=>False) e s'->False):
 codeAny (model P w) callerA (.call (.ref fa) ⟨[.ref a],[]⟩) (λr s'=>r = .ok (.ret<|.bool true)/\OldK s₁.heap s'.heap/\s'.os=s₁.os/\AllBare s'.gens) s₁:=by
 have rv:=TQ hi;have lenV:=hi.length;have core:∀H:Hp,uF H->Sr K H a (ns.map V.int)->Q9 P w H s₁.heap->(∀b,H b≠none->b=a)->(H a≠none->K.lookup a=none)->
  codeAny (model P w) callerA (.call (.ref fa) ⟨[.ref a],[]⟩) (λr s'=>r = .ok (.ret<|.bool true)/\OldK s₁.heap s'.heap/\s'.os=s₁.os/\AllBare s'.gens) s₁:=by
  intro H hO hS hok hA hK;have base_of:∀{b:Addr}{o:Obj},s₁.heap.get? b=some o->H b=none->(Bo s₁.heap H).get? b=some o:=λe n=>Hb e n;have noA:∀{b:Addr}{o:Obj}{es:Array DictEntry}{ep:Nat},s₁.heap.get? b=some o->o.data = .dict es ep->H b=none:=λ{b o es ep} e d=>by
   cases q:H b with
   |none=>rfl
   |some u=>
    have e':b=a:=hA b (by rw[q];simp);subst e';rw[ha]at e;cases e;have d':Data.seq vs.toArray _=Data.dict es ep:=d;cases d'
  have nsK:∀{b:Addr}{m:Str->Option Value},s₁.heap.Ns b m->(Bo s₁.heap H).Ns b m:=λ{b m} ⟨o,es,ep,e,d,r⟩=>⟨o,es,ep,base_of e<|noA e d,d,r⟩;have hKb:=λb o e=>base_of (KX b o e) (by
   cases q:H b with
   |none=>rfl
   |some u=>
    have e':b=a:=hA b (by rw[q];simp);subst e';rw[hK<|by rw[q];simp]at e;cases e)
  have hM:Mod K mg _:=⟨hKb,nsK hns,⟨mb,nsK hb,hbb⟩,let⟨mc,h1,h2⟩:=hlim;⟨mc,nsK h1,h2⟩⟩;have e0:Env0 P w K mg _ callerA [] s₁ H:=⟨rfl,hM,λb o e=>C6 e,Nat.le_of_eq<|FQ _ _,trivial,λb hb=>absurd (show b ∈ ([]:List Addr)from hb) (by simp),hok,.of_eq hg⟩;refine codeAny_mono ((F _ hKb<|nsK hns).run callerA [] s₁ H ⟨_,[]⟩ [.ref a] [.ref a] _ _ hr e0 (hbind s₁<|.ref a) (.cons rfl .nil)<|hsp H hO hS) λr s' h=>?_;cases r with
  |error e=>exact(hCX H e s' h).elim
  |ok fl=>
   cases fl with
   |next=>exact False.elim h
   |brk=>exact False.elim h
   |cont=>exact False.elim h
   |ret u=>
    obtain⟨v,H',os,bare,un,hok',r',q⟩:=h;have q':v = .bl true:=q;subst q';obtain rfl:u=Value.bool true:=r';refine⟨rfl,OldK.of_keep λb o e=>?_,os,bare⟩;cases q:H b with
    |none=>exact un.keep b o e q (by intro z;exact absurd (show b ∈ ([]:List Addr)from z)<|by simp) (by simp)
    |some u=>
     rcases hO b with z|⟨ob,xs,z⟩
     . rw[q]at z;cases z
     . have z2:=un.frzs b ob _ z;obtain⟨e1,_⟩:=hok b _ z;obtain⟨e2,_⟩:=hok' b _ z2;rw[e]at e1;cases e1;exact e2
 cases hk:K.lookup a with
 |some o=>
  have e:=KX a o hk;rw[ha]at e;cases e;refine core (λ_=>none) (λ_=>.inl rfl) (.inr ⟨vs.toArray,_,hk,by rw[zzH,lenV];exact hl,by simpa using rv⟩) (λb u z=>by have z':none=some u:=z;cases z') (λb z=>absurd rfl z) λz=>absurd rfl z
 |none=>
  refine core (λb=>if b=a then some _ else none) (λb=>?_) (.inl<|.inr ⟨{cls:=.type "list",data:=.seq vs.toArray},if_pos rfl⟩) (λb u z=>?_) (λb z=>?_) λ_=>hk
  . by_cases hb:b=a
    . exact .inr ⟨_,_,if_pos hb⟩
    . exact .inl<|if_neg hb
  . by_cases hb:b=a
    . have z':=(if_pos hb).symm.trans z;cases z';subst hb;exact⟨ha,by rw[zzB];exact hl,vs,_,rv,ha⟩
    . have z':=(if_neg hb).symm.trans z;cases z'
  . by_cases hb:b=a
    . exact hb
    . exact absurd (if_neg hb) z
end L2
namespace L2
open PySem PySem.Spec PyProof.Rows
def walk_of{l:PySem.W.OpenLaw}{n k:Nat}{q loose XP YP d}{K:Params->zzA}{CX:World->Ap}{sp:World->Sp}{x}
 (hn:l.most=some n) (hn2:n<=sizeLine) (hdf:d.params.defaults=[]) (hr:Room k callerA)
 (hY:∀(w:World) (h:Heap),YP w h->(K w.params).In h)
 (F:∀(w:World) (mg:Str->Option Value) (fa:Addr) (h:Heap),(K w.params).In h->h.Ns mainGlobals mg->mg d.name=some (.ref fa)->
  ∃fd:FuncData,(∀(s:Shared) (u:Value),BindsTo s fd ⟨[u],[]⟩ [(x,u)])/\
   ∀base:Heap,(K w.params).In base->base.Ns mainGlobals mg->FnOk l.prog w (K w.params) mg base (CX w) k fa fd [x] (sp w))
 (hsp:∀(w:World) (H:Hp) (a:Addr) (ns:List Int),ns.length<=n->uF H->Sr (K w.params) H a (ns.map V.int)->sp w [.ref a] H (λv _=>v = .bl true) λ_ _ _=>False)
 (hCX:∀(w:World) (H:Hp) (s:Shared) (e:Value) (s':Shared),CX w [] H s (λ_ _ _=>False) e s'->False):
 PySem.W.WalkO q loose XP YP l.row.toRowW d [] (λf vs=>PySem.call f vs):=by
 refine Att.Nk hn hdf λw s₀ s₁ mg mb fa o pm cd doc a vs ns G Y ho hd hcd hmg hobj hints hlen hg=>?_;have KX:=hY w _ Y;obtain⟨fd,hb,hF⟩:=F w mg fa _ KX G.T.g hmg;exact Sa KX G.T.g G.T.b G.T.builtins G.T.nolimit hg hobj hints (zzO hlen hn2) hr hF hb (λH hO hS=>hsp w H a ns hlen hO hS) λH e s'=>hCX w H s₁ e s'
end L2
namespace L2
open PySem PySem.Spec PyProof.Rows
noncomputable def inClass(s:Stmt)(j:Nat):Stmt:=match s with
 | .ClassDef _ _ _ body _ _ _ _ _ _ _=>body.getD j (.Pass ⟨0,0,0,0⟩)
 |_=>.Pass ⟨0,0,0,0⟩
noncomputable def UZ(s:Stmt):Arguments:=match s with
 | .FunctionDef _ a _ _ _ _ _ _ _ _=>a
 |_=>{posonlyargs:=[],args:=[],vararg:=none,kwonlyargs:=[],kw_defaults:=[],kwarg:=none,defaults:=[]}
noncomputable def wH(s:Stmt):List Stmt:=match s with
 | .FunctionDef _ _ b _ _ _ _ _ _ _=>b
 |_=>[]
noncomputable def zH(s:Stmt):Scope:=match s with
 | .FunctionDef _ _ _ _ _ _ sc _ _ _=>sc
 |_=>{kind:=.function,names:=[],isGenerator:=false,isCoroutine:=false}
abbrev ZP:Ap:=λ_ _ _ _ _ _=>False
abbrev E0:XK:=λ_ _ _=>False
def Uj:vV ZP X E0:=λ_ _ _ _ _ _ _ h=>h.elim
structure Fun(K:zzA)(x qual:Str)(st:Stmt)(f:Addr)(fd:FuncData):Prop where
 ex:∃(oc:Value) (od:Option Addr) (kV doc pm:Value) (an:Option Addr) (cdv ct:Value) (osl:Array (Option Value)),
  fd=W.fnOf x qual (UZ st) (wH st) (zH st) .none kV doc pm an cdv ct/\K.lookup f=some ⟨oc,od,.func fd,osl⟩/\W.codeIn K cdv qual=true
 kp:W.keepIn K (.ref f)=true
section
variable{P:Program}{w:World}{K:zzA}{mg:Str->Option Value}{base:Heap}
def Fun.ok{x qual st f fd N ps}{k:Nat}{sp}(F:Fun K x qual st f fd)(S:FnScope N ps (zH st))(len:∀vs H Q E,sp vs H Q E->vs.length=ps.length)
 (hbody:∀(cdv:Value) (A:Around) (outer:List Env) (s:Shared) (H:Hp) (vs:List V) (Q:VK) (E:XK),Room k (A.deeper<|envOfC qual (zH st) s.heap.objs.size f cdv)->sp vs H Q E->
  ∃t,Kt (QL ZP P w K mg base N qual (zH st) f cdv A outer s H E).nox (wH st) t/\t {nx:=λ_ H'=>Q .non H',rt:=Q} (start N vs) H):FnOk P w K mg base ZP (k+1) f fd ps sp:=by
 obtain⟨oc,od,kV,doc,pm,an,cdv,ct,osl,rfl,lk,hcd⟩:=F.ex;refine qT lk hcd S len λA outer s H vs Q E hr hsp=>?_;obtain⟨t,h,q⟩:=hbody cdv A outer s H vs Q E hr hsp;exact⟨t,h.nox,q⟩
def Fun.binds{x qual st f fd ps}(F:Fun K x qual st f fd)
 (h:∀(kV doc pm:Value) (an:Option Addr) (cdv ct:Value) (us:List Value),us.length=ps.length->bindArgs (W.fnOf x qual (UZ st) (wH st) (zH st) .none kV doc pm an cdv ct) ⟨us,[]⟩=pure (ps.zip us)):Binds K fd ps []:=by
 obtain⟨oc,od,kV,doc,pm,an,cdv,ct,osl,rfl,lk,hcd⟩:=F.ex;exact .all<|h kV doc pm an cdv ct
end
def Qm(h:n<=1000):n<sizeLine:=Nat.lt_of_le_of_lt h (by decide)
section
variable{X:Cx}
def pv(i:Nat)(hN:X.N[i]? = some x:=by rfl)(hv:n3 X.env.scope x:=by first|exact Or.inl rfl|exact Or.inr (Or.inl rfl)|exact Or.inr (Or.inr rfl))(hd:(x==("__debug__":Str))=false:=by decide)
 (hcd:(x==("__classdict__":Str))=false:=by decide):PE X (.Name x pos) (W5 i):=OC hN hv hd hcd
end
end L2
end
section
namespace G42
open PySem PySem.W PyProof.Rows L2
noncomputable def top(i:Nat):Stmt:=PySem.Challenge.pw_stretchdeeds_k42_turned_cut_and_put_in.main.body.getD i<|.Pass ⟨0,0,0,0⟩
abbrev Rg:Stmt:=top 9
abbrev QV:Stmt:=top 11
abbrev Y0:Stmt:=top 12
abbrev Y2:Stmt:=top 13
abbrev WV:Stmt:=top 14
abbrev VL:Stmt:=top 15
abbrev Vo:Stmt:=top 16
abbrev XU:Stmt:=top 17
abbrev Xb:Stmt:=inClass (top 19) 0
abbrev TC:Stmt:=top 20
abbrev QR:Stmt:=inClass (top 42) 5
abbrev T9:Stmt:=top 21
abbrev GH:Stmt:=top 22
abbrev GJ:Stmt:=top 23
abbrev WN:Stmt:=inClass (top 42) 9
abbrev Vl:Stmt:=top 24
abbrev Ul:Stmt:=inClass (top 42) 10
abbrev Rx:Stmt:=top 25
abbrev Vv:Stmt:=top 26
abbrev Rc:Stmt:=top 27
abbrev Nr:Stmt:=top 28
abbrev Nt:Stmt:=top 29
abbrev Wz:Stmt:=top 30
abbrev XO:Stmt:=top 31
abbrev NJ:Stmt:=top 32
abbrev XQ:Stmt:=top 33
abbrev QX:Stmt:=top 34
abbrev WR:Stmt:=top 37
abbrev Vp:Stmt:=top 38
abbrev OM:Stmt:=top 41
abbrev Ra:Stmt:=top 44
abbrev VE:Stmt:=top 45
abbrev Ue:Stmt:=top 46
abbrev Y3:Stmt:=top 47
abbrev Xi:Stmt:=top 48
abbrev QU:Stmt:=top 49
abbrev Q6:Stmt:=top 50
abbrev PM:Stmt:=top 51
abbrev QT:Stmt:=top 52
abbrev WG:Stmt:=top 53
abbrev Xh:Stmt:=top 54
abbrev PJ:Stmt:=top 56
abbrev WU:Stmt:=top 55
abbrev Gr:Stmt:=top 57
abbrev RA:Stmt:=top 58
abbrev Gn:Stmt:=top 59
abbrev WJ:Stmt:=top 60
abbrev Xf:Stmt:=top 61
abbrev VC:Stmt:=top 62
abbrev Y7:Stmt:=inClass (top 39) 2
abbrev Zn:Stmt:=inClass (top 39) 4
abbrev V2:Stmt:=inClass (top 39) 1
abbrev Q5:Stmt:=inClass (top 39) 11
abbrev Xv:Stmt:=inClass (top 39) 13
abbrev T7:Stmt:=top 63
abbrev vE:Stmt:=inClass (top 39) 5
abbrev X7:Stmt:=inClass (top 39) 8
abbrev X6:Stmt:=inClass (top 39) 10
abbrev Xl:Stmt:=inClass (top 42) 1
abbrev Zm:Stmt:=inClass (top 39) 3
abbrev Xm:Stmt:=inClass (top 39) 9
abbrev Pe:Stmt:=top 64
abbrev Yk:Stmt:=inClass (top 39) 0
abbrev YX:Stmt:=inClass (top 42) 0
abbrev V4:Stmt:=inClass (top 39) 6
abbrev Vt:Stmt:=inClass (top 39) 12
abbrev EC:Stmt:=top 65
noncomputable abbrev hpg:=PySem.Challenge.pw_stretchdeeds_k42_turned_cut_and_put_in
noncomputable abbrev hva:Value:=.str "__main__" 164
noncomputable abbrev hvb:Value:=.str "stretchdeeds.errors" 194
noncomputable abbrev hvc:Value:=.str "stretchdeeds.terms" 303
noncomputable abbrev hvd:Value:=.str "stretchdeeds.algebras" 312
noncomputable abbrev hve:Value:=.str "stretchdeeds.trees" 388
noncomputable abbrev hvf:Value:=.str "stretchdeeds.makes" 578
noncomputable abbrev hvg:Value:=.str "stretchdeeds.ways" 787
noncomputable abbrev hvh:Value:=.str "law_stretchdeeds_k42_turned_cut_and_put_in" 907
noncomputable abbrev hem:List Value:=[(.type "ValueError"), (.type "Exception"), (.type "BaseException"), (.type "object")]
abbrev kF(n q:Str)(s:Stmt)(pm hcd:Value):Obj:=⟨.type "function",none,.func<|fnOf n q (UZ s) (wH s) (zH s) .none .none .none pm none hcd .none,#[]⟩
noncomputable abbrev kD(es:List DictEntry)(n:Nat):Obj:=⟨.type "dict",none,.dict es.toArray n,#[]⟩
noncomputable abbrev kE(P:Params)(x:Str)(t:Nat)(v:Value):DictEntry:=⟨PyData.keyHash P x,.str x t,v⟩
abbrev kR(P:Params)(x:Str)(t:Nat)(a:Addr):DictEntry:=kE P x t<|.ref a
noncomputable abbrev hfl(c:Value)(l:List Value):Obj:=⟨c,none,.fields l.toArray,#[]⟩
abbrev hco(n q:Str)(t u:Nat)(l k g:Int)(b:Bool)(a:Nat)(r s v:Value):Obj:=hfl (.type "code") [.str n t,.str q<|t+1,.str "/claim/cut.py" (t+2),.int l 0,.int k 0,.int 0 0,.int 0 0,.int g 0,.ref a,.bool b,.int 181 0,.ref<|a+1,.none,r,s,v,.int u 0,.int l 0,.str "/claim/cut.py" (u+1)]
abbrev hc7(n q:Str)(t u:Nat)(l k:Int)(a:Nat):=hco n q t u l k 3 true a (.ref<|a+2) (.ref<|a+3)<|.ref<|a+4
abbrev hc5(n q:Str)(t:Nat)(l k:Int)(a:Nat):=hco n q t (t+3) l k 3 true a .none .none<|.ref<|a+2
noncomputable abbrev hen(P:Params):List DictEntry:=[kE P "__doc__" 166 .none,kE P "__package__" 167 .none,kE P "__loader__" 168<|.builtin "__main__.__loader__#opaque",kE P "__spec__" 169 .none,kR P "__annotations__" 170 6,kR P "__builtins__" 171 4,kE P "__file__" 173<|.str "/claim/cut.py" 172,kE P "__cached__" 174 .none,kR P "_wall" 193 21,kR P "StretchError" 213 31,kR P "NotLetBy" 238 51,kR P "NoMake" 254 63,kR P "NoStretch" 270 75,kR P "NoValue" 286 87,kR P "TooGreat" 302 99,kR P "is_whole" 311 108,kR P "is_within" 322 115,kR P "nothing_fails" 332 122,kR P "parting_fails" 344 129,kR P "doing_fails" 360 136,kR P "deeds_fail" 371 143,kR P "what_fails" 379 150,kR P "check_let_by" 387 157,kR P "Knot" 430 174,kR P "leaf_of" 437 185,kR P "knot_of" 446 192,kR P "tree_of" 455 199,kR P "size_of" 462 206,kR P "both_waits" 471 213,kR P "done_all" 482 220,kR P "turned_all" 490 227,kR P "parts_of" 500 234,kR P "gather" 515 241,kR P "row_of" 524 248,kR P "leaned_left" 535 255,kR P "leaned_right" 546 262,kR P "evened" 555 269,kR P "put_together" 565 276,kR P "parted_at" 577 283,kE P "MOST_IN_ROW" 581<|.int (300) 580,kR P "check_place" 590 290,kR P "check_size" 597 297,kR P "Makes" 786 426,kR P "firm" 794 435,kR P "Ways" 906 518,kR P "_law_draw" 920 529,kR P "_law_digits" 930 536,kR P "_law_names" 947 543,kR P "_law_part_join" 958 550,kR P "_law_part_done" 964 555,kR P "_law_parts" 972 562,kR P "_law_split" 983 569,kR P "_law_laid" 994 576,kR P "_law_order" 1004 583,kR P "_law_algebra" 1010 588,kR P "_law_by_digits" 1016 593,kR P "_law_is_good" 1022 598,kR P "_law_does" 1037 605,kR P "_law_any" 1045 612,kR P "_law_copy" 1051 617,kR P "_law_row" 1061 624,kR P "_law_is_list" 1067 629,kR P "_law_is_number" 1075 636,kR P "_law_places" 1086 643,kR P "_law_cut" 1098 650,kR P "_law_step" 1114 657,kR P "law" 1125 664]
def K(P:Params):Frag:=
 (nat_lit 3,kD (kE P "__name__" 165 hvh::hen P) 68)::
 (nat_lit 107,hc7 "is_whole" "is_whole" 305 309 21 1 102)::
 (nat_lit 108,kF "is_whole" "is_whole" Rg hvc<|.ref 107)::
 (nat_lit 114,hc7 "is_within" "is_within" 314 320 24 3 109)::
 (nat_lit 115,kF "is_within" "is_within" QV hvd<|.ref 114)::
 (nat_lit 121,hc7 "nothing_fails" "nothing_fails" 323 330 26 1 116)::
 (nat_lit 122,kF "nothing_fails" "nothing_fails" Y0 hvd<|.ref 121)::
 (nat_lit 128,hc7 "parting_fails" "parting_fails" 333 342 33 1 123)::
 (nat_lit 129,kF "parting_fails" "parting_fails" Y2 hvd<|.ref 128)::
 (nat_lit 135,hc7 "doing_fails" "doing_fails" 345 358 42 3 130)::
 (nat_lit 136,kF "doing_fails" "doing_fails" WV hvd<|.ref 135)::
 (nat_lit 142,hc7 "deeds_fail" "deeds_fail" 361 369 53 1 137)::
 (nat_lit 143,kF "deeds_fail" "deeds_fail" VL hvd<|.ref 142)::
 (nat_lit 149,hc7 "what_fails" "what_fails" 372 377 62 1 144)::
 (nat_lit 150,kF "what_fails" "what_fails" Vo hvd<|.ref 149)::
 (nat_lit 156,hc7 "check_let_by" "check_let_by" 380 385 69 1 151)::
 (nat_lit 157,kF "check_let_by" "check_let_by" XU hvd<|.ref 156)::
 (nat_lit 170,hc7 "__init__" "Knot.__init__" 402 412 76 7 165)::
 (nat_lit 171,kF "__init__" "Knot.__init__" Xb hve<|.ref 170)::
 (nat_lit 173,kD [kE P "__module__" 397 hve,kE P "__firstlineno__" 401<|.int (74) 400,kR P "__init__" 414 171,kR P "__static_attributes__" 423 172,kR P "__dict__" 425 175,kR P "__weakref__" 427 176,kE P "__doc__" 428 .none] 4)::
 (nat_lit 174,⟨(.type "type"),none,.cls {name:="Knot",bases:=[(.type "object")],mro:=[(.ref 174),(.type "object")],ns:=173,qualname:="Knot",hasDict:=true,slotNames:=[],subclasses:=[],abstract:=false,collection:=none,hasDel:=false},#[none,none,some<|.str "Knot" 390,some<|.str "Knot" 398,some<|.builtin "object.__new__",some<|.bool true]⟩)::
 (nat_lit 184,hc7 "leaf_of" "leaf_of" 431 435 85 1 179)::
 (nat_lit 185,kF "leaf_of" "leaf_of" TC hve<|.ref 184)::
 (nat_lit 191,hc7 "knot_of" "knot_of" 438 444 87 3 186)::
 (nat_lit 192,kF "knot_of" "knot_of" T9 hve<|.ref 191)::
 (nat_lit 198,hc7 "tree_of" "tree_of" 447 453 89 2 193)::
 (nat_lit 199,kF "tree_of" "tree_of" GH hve<|.ref 198)::
 (nat_lit 205,hc7 "size_of" "size_of" 456 460 96 1 200)::
 (nat_lit 206,kF "size_of" "size_of" GJ hve<|.ref 205)::
 (nat_lit 212,hc7 "both_waits" "both_waits" 463 469 98 3 207)::
 (nat_lit 213,kF "both_waits" "both_waits" Vl hve<|.ref 212)::
 (nat_lit 219,hc7 "done_all" "done_all" 472 480 104 3 214)::
 (nat_lit 220,kF "done_all" "done_all" Rx hve<|.ref 219)::
 (nat_lit 226,hc7 "turned_all" "turned_all" 483 488 112 2 221)::
 (nat_lit 227,kF "turned_all" "turned_all" Vv hve<|.ref 226)::
 (nat_lit 233,hc7 "parts_of" "parts_of" 491 498 116 2 228)::
 (nat_lit 234,kF "parts_of" "parts_of" Rc hve<|.ref 233)::
 (nat_lit 240,hc7 "gather" "gather" 501 513 125 5 235)::
 (nat_lit 241,kF "gather" "gather" Nr hve<|.ref 240)::
 (nat_lit 247,hc7 "row_of" "row_of" 516 522 134 2 242)::
 (nat_lit 248,kF "row_of" "row_of" Nt hve<|.ref 247)::
 (nat_lit 254,hc7 "leaned_left" "leaned_left" 525 533 139 3 249)::
 (nat_lit 255,kF "leaned_left" "leaned_left" Wz hve<|.ref 254)::
 (nat_lit 261,hc7 "leaned_right" "leaned_right" 536 544 145 3 256)::
 (nat_lit 262,kF "leaned_right" "leaned_right" XO hve<|.ref 261)::
 (nat_lit 268,hc7 "evened" "evened" 547 553 151 3 263)::
 (nat_lit 269,kF "evened" "evened" NJ hve<|.ref 268)::
 (nat_lit 275,hc7 "put_together" "put_together" 556 563 157 3 270)::
 (nat_lit 276,kF "put_together" "put_together" XQ hve<|.ref 275)::
 (nat_lit 282,hc7 "parted_at" "parted_at" 566 575 169 3 277)::
 (nat_lit 283,kF "parted_at" "parted_at" QX hve<|.ref 282)::
 (nat_lit 289,hc7 "check_place" "check_place" 582 588 183 3 284)::
 (nat_lit 290,kF "check_place" "check_place" WR hvf<|.ref 289)::
 (nat_lit 296,hc7 "check_size" "check_size" 591 595 186 1 291)::
 (nat_lit 297,kF "check_size" "check_size" Vp hvf<|.ref 296)::
 (nat_lit 310,hc7 "__init__" "Makes.__init__" 610 615 191 2 305)::
 (nat_lit 311,kF "__init__" "Makes.__init__" Yk hvf<|.ref 310)::
 (nat_lit 317,hc7 "keep" "Makes.keep" 618 623 195 2 312)::
 (nat_lit 318,kF "keep" "Makes.keep" V2 hvf<|.ref 317)::
 (nat_lit 324,hc7 "tree_at" "Makes.tree_at" 626 631 199 2 319)::
 (nat_lit 325,kF "tree_at" "Makes.tree_at" Y7 hvf<|.ref 324)::
 (nat_lit 331,hc7 "check_value" "Makes.check_value" 634 639 204 2 326)::
 (nat_lit 332,kF "check_value" "Makes.check_value" Zm hvf<|.ref 331)::
 (nat_lit 338,hc7 "three_parts" "Makes.three_parts" 642 652 208 4 333)::
 (nat_lit 339,kF "three_parts" "Makes.three_parts" Zn hvf<|.ref 338)::
 (nat_lit 345,hc7 "three_together" "Makes.three_together" 655 662 216 4 340)::
 (nat_lit 346,kF "three_together" "Makes.three_together" vE hvf<|.ref 345)::
 (nat_lit 352,hc7 "made" "Makes.made" 665 671 219 2 347)::
 (nat_lit 353,kF "made" "Makes.made" V4 hvf<|.ref 352)::
 (nat_lit 366,hc7 "turned" "Makes.turned" 685 693 230 4 361)::
 (nat_lit 367,kF "turned" "Makes.turned" X7 hvf<|.ref 366)::
 (nat_lit 373,hc7 "changed" "Makes.changed" 696 705 234 4 368)::
 (nat_lit 374,kF "changed" "Makes.changed" Xm hvf<|.ref 373)::
 (nat_lit 380,hc7 "put_in" "Makes.put_in" 708 718 241 4 375)::
 (nat_lit 381,kF "put_in" "Makes.put_in" X6 hvf<|.ref 380)::
 (nat_lit 387,hc7 "cut" "Makes.cut" 721 730 249 4 382)::
 (nat_lit 388,kF "cut" "Makes.cut" Q5 hvf<|.ref 387)::
 (nat_lit 394,hc7 "many" "Makes.many" 733 738 254 2 389)::
 (nat_lit 395,kF "many" "Makes.many" Vt hvf<|.ref 394)::
 (nat_lit 401,hc7 "listed" "Makes.listed" 741 746 257 2 396)::
 (nat_lit 402,kF "listed" "Makes.listed" Xv hvf<|.ref 401)::
 (nat_lit 425,kD [kE P "__module__" 605 hvf,kE P "__firstlineno__" 609<|.int (189) 608,kR P "__init__" 617 311,kR P "keep" 625 318,kR P "tree_at" 633 325,kR P "check_value" 641 332,kR P "three_parts" 654 339,kR P "three_together" 664 346,kR P "made" 673 353,kR P "done" 684 360,kR P "turned" 695 367,kR P "changed" 707 374,kR P "put_in" 720 381,kR P "cut" 732 388,kR P "many" 740 395,kR P "listed" 748 402,kR P "asked" 758 409,kR P "walk" 766 416,kR P "first" 776 423,kR P "__static_attributes__" 779 424,kR P "__dict__" 781 427,kR P "__weakref__" 783 428,kE P "__doc__" 784 .none] 4)::
 (nat_lit 426,⟨(.type "type"),none,.cls {name:="Makes",bases:=[(.type "object")],mro:=[(.ref 426),(.type "object")],ns:=425,qualname:="Makes",hasDict:=true,slotNames:=[],subclasses:=[],abstract:=false,collection:=none,hasDel:=false},#[none,none,some<|.str "Makes" 598,some<|.str "Makes" 606,some<|.builtin "object.__new__",some<|.bool true]⟩)::
 (nat_lit 434,hc5 "firm" "firm" 789 269 1 431)::
 (nat_lit 435,kF "firm" "firm" OM hvg<|.ref 434)::
 (nat_lit 446,hc5 "__init__" "Ways.__init__" 807 273 2 443)::
 (nat_lit 447,kF "__init__" "Ways.__init__" YX hvg<|.ref 446)::
 (nat_lit 453,hc7 "is_value" "Ways.is_value" 813 818 282 2 448)::
 (nat_lit 454,kF "is_value" "Ways.is_value" Xl hvg<|.ref 453)::
 (nat_lit 481,hc7 "join" "Ways.join" 844 850 294 3 476)::
 (nat_lit 482,kF "join" "Ways.join" QR hvg<|.ref 481)::
 (nat_lit 507,hc5 "behind" "Ways.behind" 877 306 3 504)::
 (nat_lit 508,kF "behind" "Ways.behind" WN hvg<|.ref 507)::
 (nat_lit 514,hc7 "made" "Ways.made" 883 890 309 4 509)::
 (nat_lit 515,kF "made" "Ways.made" Ul hvg<|.ref 514)::
 (nat_lit 517,kD [kE P "__module__" 802 hvg,kE P "__firstlineno__" 806<|.int (271) 805,kR P "__init__" 812 447,kR P "is_value" 820 454,kR P "is_deed" 828 461,kR P "is_sign" 836 468,kR P "nothing" 843 475,kR P "join" 852 482,kR P "has_sign" 861 489,kR P "idle" 868 496,kR P "wait_of" 876 503,kR P "behind" 882 508,kR P "made" 892 515,kR P "__static_attributes__" 899 516,kR P "__dict__" 901 519,kR P "__weakref__" 903 520,kE P "__doc__" 904 .none] 4)::
 (nat_lit 518,⟨(.type "type"),none,.cls {name:="Ways",bases:=[(.type "object")],mro:=[(.ref 518),(.type "object")],ns:=517,qualname:="Ways",hasDict:=true,slotNames:=[],subclasses:=[],abstract:=false,collection:=none,hasDel:=false},#[none,none,some<|.str "Ways" 795,some<|.str "Ways" 803,some<|.builtin "object.__new__",some<|.bool true]⟩)::
 (nat_lit 528,hc7 "_law_draw" "_law_draw" 909 918 312 2 523)::
 (nat_lit 529,kF "_law_draw" "_law_draw" Ra hvh<|.ref 528)::
 (nat_lit 535,hc7 "_law_digits" "_law_digits" 921 928 324 2 530)::
 (nat_lit 536,kF "_law_digits" "_law_digits" VE hvh<|.ref 535)::
 (nat_lit 542,hc7 "_law_names" "_law_names" 931 945 330 2 537)::
 (nat_lit 543,kF "_law_names" "_law_names" Ue hvh<|.ref 542)::
 (nat_lit 549,hc7 "_law_part_join" "_law_part_join" 948 956 345 3 544)::
 (nat_lit 550,kF "_law_part_join" "_law_part_join" Y3 hvh<|.ref 549)::
 (nat_lit 554,hc5 "_law_part_done" "_law_part_done" 959 354 4 551)::
 (nat_lit 555,kF "_law_part_done" "_law_part_done" Xi hvh<|.ref 554)::
 (nat_lit 561,hc7 "_law_parts" "_law_parts" 965 970 365 1 556)::
 (nat_lit 562,kF "_law_parts" "_law_parts" QU hvh<|.ref 561)::
 (nat_lit 568,hc7 "_law_split" "_law_split" 973 981 370 2 563)::
 (nat_lit 569,kF "_law_split" "_law_split" Q6 hvh<|.ref 568)::
 (nat_lit 575,hc7 "_law_laid" "_law_laid" 984 992 376 2 570)::
 (nat_lit 576,kF "_law_laid" "_law_laid" PM hvh<|.ref 575)::
 (nat_lit 582,hc7 "_law_order" "_law_order" 995 1002 381 2 577)::
 (nat_lit 583,kF "_law_order" "_law_order" QT hvh<|.ref 582)::
 (nat_lit 587,hc5 "_law_algebra" "_law_algebra" 1005 387 2 584)::
 (nat_lit 588,kF "_law_algebra" "_law_algebra" WG hvh<|.ref 587)::
 (nat_lit 592,hc5 "_law_by_digits" "_law_by_digits" 1011 413 1 589)::
 (nat_lit 593,kF "_law_by_digits" "_law_by_digits" Xh hvh<|.ref 592)::
 (nat_lit 597,hc5 "_law_is_good" "_law_is_good" 1017 430 1 594)::
 (nat_lit 598,kF "_law_is_good" "_law_is_good" WU hvh<|.ref 597)::
 (nat_lit 604,hc7 "_law_does" "_law_does" 1023 1035 443 5 599)::
 (nat_lit 605,kF "_law_does" "_law_does" PJ hvh<|.ref 604)::
 (nat_lit 611,hc7 "_law_any" "_law_any" 1038 1043 451 1 606)::
 (nat_lit 612,kF "_law_any" "_law_any" Gr hvh<|.ref 611)::
 (nat_lit 616,hc5 "_law_copy" "_law_copy" 1046 457 1 613)::
 (nat_lit 617,kF "_law_copy" "_law_copy" RA hvh<|.ref 616)::
 (nat_lit 623,hc7 "_law_row" "_law_row" 1052 1059 461 3 618)::
 (nat_lit 624,kF "_law_row" "_law_row" Gn hvh<|.ref 623)::
 (nat_lit 628,hc5 "_law_is_list" "_law_is_list" 1062 466 2 625)::
 (nat_lit 629,kF "_law_is_list" "_law_is_list" WJ hvh<|.ref 628)::
 (nat_lit 635,hc7 "_law_is_number" "_law_is_number" 1068 1073 470 2 630)::
 (nat_lit 636,kF "_law_is_number" "_law_is_number" Xf hvh<|.ref 635)::
 (nat_lit 642,hc7 "_law_places" "_law_places" 1076 1084 472 2 637)::
 (nat_lit 643,kF "_law_places" "_law_places" VC hvh<|.ref 642)::
 (nat_lit 649,hc7 "_law_cut" "_law_cut" 1087 1096 481 5 644)::
 (nat_lit 650,kF "_law_cut" "_law_cut" T7 hvh<|.ref 649)::
 (nat_lit 656,hc7 "_law_step" "_law_step" 1099 1112 488 4 651)::
 (nat_lit 657,kF "_law_step" "_law_step" Pe hvh<|.ref 656)::
 (nat_lit 663,hc7 "law" "law" 1115 1123 504 1 658)::
 (nat_lit 664,kF "law" "law" EC hvh<|.ref 663)::
 []
noncomputable def kA:List Addr:=[3,107,108,114,115,121,122,128,129,135,136,142,143,149,150,156,157,170,171,173,174,184,185,191,192,198,199,205,206,212,213,219,220,226,227,233,234,240,241,247,248,254,255,261,262,268,269,275,276,282,283,289,290,296,297,310,311,317,318,324,325,331,332,338,339,345,346,352,353,366,367,373,374,380,381,387,388,394,395,401,402,425,426,434,435,446,447,453,454,481,482,507,508,514,515,517,518,528,529,535,536,542,543,549,550,554,555,561,562,568,569,575,576,582,583,587,588,592,593,597,598,604,605,611,612,616,617,623,624,628,629,635,636,642,643,649,650,656,657,663,664]
def qv:Program:={hpg with main:={hpg.main with body:=[0,2,3,4,5,6,7,9,11,12,13,14,15,16,17,19,20,21,22,23,24,25,26,27,28,29,30,31,32,33,34,36,37,38,39,41,42,44,45,46,47,48,49,50,51,52,53,54,55,56,57,58,59,60,61,62,63,64,65].map top}}
theorem kAe(P:Params):kA=(K P).map (·.1):=by kernel_rfl
set_option maxRecDepth 100000
theorem ws:PySem.Challenge.rw_stretchdeeds_k42_turned_cut_and_put_in.wellSaid=true:=by kernel_rfl
abbrev Xt(s:Shared):Bool:=xlAt qv [] s&&recOk (RowW.records<|OpenRow.toRowW PySem.Challenge.rw_stretchdeeds_k42_turned_cut_and_put_in.row) s
abbrev hk:Hook:=kHook K kA kAe
noncomputable def htp(l:List Value):Obj:=⟨.type "tuple",none,.seq l.toArray 0,#[]⟩
noncomputable def htx:Nat->List Str->List Value
 |_,[]=>[]
 |t,x::l=>.str x t::htx (t+1) l
noncomputable def hfO(a t:Nat)(r:Str)(v:Value)(s:Stmt):List Obj:=match s with
 | .FunctionDef n p b _ _ _ c _ _ o=>
  let q:=r++n;let S:Obj:=⟨.none,none,.func {name:=n,qualname:=q,params:=p,body:=.stmts b,scope:=c,globals:=0,closure:=[],defaults:=.none,kwdefaults:=.none},#[]⟩
  match localNames p c (.stmts b) with
  |some (x,_)=>[htp [],hfl .none [],htp<|htx (t+3) x,htp [],S,hc7 n q t (t+3+x.length) o.line p.args.length a,kF n q s v<|.ref<|a+5]
  |none=>[htp [],hfl .none [],S,hc5 n q t o.line p.args.length a,kF n q s v<|.ref<|a+3]
 |_=>[]
noncomputable def htk(s:Stmt):Nat:=match s with
 | .FunctionDef _ p b _ _ _ c _ _ _=>match localNames p c (.stmts b) with
  |some (x,_)=>6+x.length
  |none=>6
 |_=>0
noncomputable def hms(P:Params)(c:Str)(v:Value):Nat->Nat->List Stmt->List Obj×List DictEntry×List Value×Nat
 |_,t,[]=>([],[],[],t)
 |a,t,s::r=>match s with
  | .FunctionDef n _ _ _ _ _ _ _ _ o=>let f:=hfO a t (c++".") v s;let l:=a+f.length;let u:=t+htk s;let z:=hms P c v l u r;(f++z.1,kR P n (u-1) (l-1)::z.2.1,.int o.line 0:: .int 4 0:: .ref (l-2)::z.2.2.1,z.2.2.2)
  |_=>hms P c v a t r
noncomputable def hfm(a b:Addr)(v:Value):Obj:=⟨.type "frame",none,.plain,#[some<|.ref a,some<|.ref 3,some<|.ref b,none,some v,none,some<|.ref 0]⟩
def hbf(x:String)(v:Value):Obj:=hfl (.type "builtin_function_or_method") [.builtin x,v]
def hgd(x:Str)(t:Nat)(c:Addr)(g s:Value):Obj:=hfl (.type "getset_descriptor") [.str x t,.ref c,g,s]
noncomputable def hcO(P:Params)(a t:Nat)(v:Value)(bv mr sb:List Value)(nw:String)(d:Nat)(s:Stmt):List Obj:=match s with
 | .ClassDef n _ _ b _ _ _ _ _ sa o=>
  let m:=hms P n v (a+7) (t+12) b;let e:=a+7+m.1.length;let k:=m.2.2.2+sa.length;let z:=k+1;let C:=e+2
  let x:=kE P "__module__" (t+7) v;let f:=kE P "__firstlineno__" (t+11)<|.int o.line<|t+10;let y:=kR P "__static_attributes__" k e
  let W:=λt:Nat=>hgd "__weakref__" t C (.builtin "ExceptionGroup.__weakref__") .none
  let D:List DictEntry×List Obj:=match d with
   |0=>([],[])
   |1=>([kR P "__weakref__" (z+1)<|C+1],[W z])
   |_=>([kR P "__dict__" (z+1)<|C+1,kR P "__weakref__" (z+3)<|C+2],[hgd "__dict__" z C (.builtin "function.__dict__")<|.builtin "function.__dict__#set",W<|z+2])
  [htp bv,hbf "type.__prepare__" (.type "type"),kD (x::kE P "__qualname__" (t+9) (.str n<|t+8)::f::m.2.1++[y])<|4+m.2.1.length,htp [],hfl .none m.2.2.1,hco n n (t+2) (t+5) o.line 0 0 false (a+3) .none .none .none,hfm (a+5) (a+2) v]++m.1++[htp<|htx m.2.2.2 sa,kD (x::f::m.2.1++y::D.1++[kE P "__doc__" (z+2*d) .none])<|2+d,⟨.type "type",none,.cls {name:=n,bases:=if bv.isEmpty then [.type "object"] else bv,mro:=.ref C::mr,ns:=e+1,qualname:=n,hasDict:=true,slotNames:=[],subclasses:=sb},#[if bv.isEmpty then none else some<|.ref a,none,some<|.str n t,some<|.str n<|t+8,some<|.builtin nw,some<|.bool true]⟩]++D.2++[hfl (.type "super") [.ref C,.ref C,.ref C],hbf "object.__init_subclass__" (.ref C)]
 |_=>[]
noncomputable def hcs:List (Int×Addr):=[(1,20),(5,27),(7,40),(12,59),(14,71),(16,83),(18,95),(21,107),(24,114),(26,121),(33,128),(42,135),(53,142),(62,149),(69,156),(74,163),(85,184),(87,191),(89,198),(96,205),(98,212),(104,219),(112,226),(116,233),(125,240),(134,247),(139,254),(145,261),(151,268),(157,275),(169,282),(183,289),(186,296),(189,303),(269,434),(271,441),(312,528),(324,535),(330,542),(345,549),(354,554),(365,561),(370,568),(376,575),(381,582),(387,587),(413,592),(430,597),(443,604),(451,611),(457,616),(461,623),(466,628),(470,635),(472,642),(481,649),(488,656),(504,663)]
noncomputable def hhp(P:Params)(v:Value)(g c:Nat)(l:List Obj):Heap:=⟨⟨boot_o_0 P::boot_o_1 P::boot_o_2 P::kD (kE P "__name__" 165 v::(hen P).take g) (g+1)::boot_o_4 P::boot_o_5 P::boot_o_6 P::boot_o_7 P::boot_o_8 P::boot_o_9 P::boot_o_10 P::htp []::hfl .none ((hcs.take c).flatMap λp=>[.int p.1 0,.int 0 0,.ref p.2])::hco "<module>" "<module>" 182 185 1 0 0 false 11 .none .none .none::hfm 13 3 (.str "__main__" 164)::l⟩,(boot_heap P).life⟩
abbrev hbd:=behindTheImports hpg
abbrev hev:Env:={scope:=hpg.main.scope,locals:=mainNs,globals:=mainNs,cells:=[],code:=.ref 13,frame:=some 14}
abbrev hcd:Code:=.body hbd hev
noncomputable abbrev hSh(t:Nat)(h:Heap)(o:OsState):Shared:=⟨h,⟨[]⟩,boot_drawn,t,o⟩
def hl0(P:Params):List Obj:=hfO 15 187 "" hva (top 0)++hcO P 22 196 hvb [(.type "ValueError")] hem [(.ref 51),(.ref 63),(.ref 75),(.ref 87),(.ref 99)] "ValueError.__new__" 1 (top 2)++hcO P 35 214 hvb [(.ref 31)] ((.ref 31)::hem) [] "ValueError.__new__" 0 (top 3)++hcO P 54 239 hvb [(.ref 31)] ((.ref 31)::hem) [] "ValueError.__new__" 0 (top 4)++hcO P 66 255 hvb [(.ref 31)] ((.ref 31)::hem) [] "ValueError.__new__" 0 (top 5)++hcO P 78 271 hvb [(.ref 31)] ((.ref 31)::hem) [] "ValueError.__new__" 0 (top 6)++hcO P 90 287 hvb [(.ref 31)] ((.ref 31)::hem) [] "ValueError.__new__" 0 (top 7)
def hl1(P:Params):List Obj:=hl0 P++hfO 102 305 "" hvc (top 9)++hfO 109 314 "" hvd (top 11)++hfO 116 323 "" hvd (top 12)++hfO 123 333 "" hvd (top 13)++hfO 130 345 "" hvd (top 14)++hfO 137 361 "" hvd (top 15)++hfO 144 372 "" hvd (top 16)++hfO 151 380 "" hvd (top 17)++hcO P 158 390 hve [] [(.type "object")] [] "object.__new__" 2 (top 19)++hfO 179 431 "" hve (top 20)++hfO 186 438 "" hve (top 21)++hfO 193 447 "" hve (top 22)++hfO 200 456 "" hve (top 23)++hfO 207 463 "" hve (top 24)++hfO 214 472 "" hve (top 25)++hfO 221 483 "" hve (top 26)++hfO 228 491 "" hve (top 27)++hfO 235 501 "" hve (top 28)++hfO 242 516 "" hve (top 29)++hfO 249 525 "" hve (top 30)++hfO 256 536 "" hve (top 31)++hfO 263 547 "" hve (top 32)++hfO 270 556 "" hve (top 33)++hfO 277 566 "" hve (top 34)
def hl2(P:Params):List Obj:=hl1 P++hfO 284 582 "" hvf (top 37)++hfO 291 591 "" hvf (top 38)++hcO P 298 598 hvf [] [(.type "object")] [] "object.__new__" 2 (top 39)++hfO 431 789 "" hvg (top 41)
def hl3(P:Params):List Obj:=hl2 P++hcO P 436 795 hvg [] [(.type "object")] [] "object.__new__" 2 (top 42)++hfO 523 909 "" hvh (top 44)++hfO 530 921 "" hvh (top 45)++hfO 537 931 "" hvh (top 46)++hfO 544 948 "" hvh (top 47)++hfO 551 959 "" hvh (top 48)++hfO 556 965 "" hvh (top 49)++hfO 563 973 "" hvh (top 50)++hfO 570 984 "" hvh (top 51)++hfO 577 995 "" hvh (top 52)++hfO 584 1005 "" hvh (top 53)++hfO 589 1011 "" hvh (top 54)++hfO 594 1017 "" hvh (top 55)++hfO 599 1023 "" hvh (top 56)++hfO 606 1038 "" hvh (top 57)
def hl4(P:Params):List Obj:=hl3 P++hfO 613 1046 "" hvh (top 58)++hfO 618 1052 "" hvh (top 59)++hfO 625 1062 "" hvh (top 60)++hfO 630 1068 "" hvh (top 61)++hfO 637 1076 "" hvh (top 62)++hfO 644 1087 "" hvh (top 63)++hfO 651 1099 "" hvh (top 64)++hfO 658 1115 "" hvh (top 65)
theorem hr0(w:World)(o:OsState):topGo treeTable hpg w 11 (some<|.ref 6) 12 (hSh boot_toks (boot_heap w.params) o) (topStub hpg)=some (hSh 187 (hhp w.params (.str "__main__" 164) 8 0 []) o,⟨denote treeTable hcd,hcd,⟨0,0,0,0⟩,[topFrame ⟨0,0,0,0⟩]⟩):=by kernel_rfl
theorem hr1(w:World)(o:OsState):segRun treeTable hpg w 11 (some<|.ref 6) 1 1 (hSh 187 (hhp w.params (.str "__main__" 164) 8 0 []) o) (blockOf hbd hev hcd ⟨0,0,0,0⟩ [topFrame ⟨0,0,0,0⟩])=some (.next,hSh 187 (hhp w.params (.str "__main__" 164) 8 0 []) o,hcd,⟨0,0,0,0⟩):=by kernel_rfl
theorem hs0(w:World)(o:OsState):segRun treeTable hpg w 11 (some<|.ref 6) 1 1322 (hSh 187 (hhp w.params (.str "__main__" 164) 8 0 []) o) (piecesOf (hbd.take 8) hev hcd ⟨0,0,0,0⟩ [topFrame ⟨0,0,0,0⟩])=some (.next,hSh 303 (hhp w.params hvb 15 7<|hl0 w.params) o,hcd,⟨18,0,19,8⟩):=by kernel_rfl
abbrev hb0:=hbd.drop 8
theorem hs1(w:World)(o:OsState):segRun treeTable hpg w 11 (some<|.ref 6) 1 996 (hSh 303 (hhp w.params hvb 15 7<|hl0 w.params) o) (piecesOf (hb0.take 27) hev hcd ⟨18,0,19,8⟩ [topFrame ⟨0,0,0,0⟩])=some (.next,hSh 578 (hhp w.params hve 39 31<|hl1 w.params) o,hcd,⟨169,0,180,58⟩):=by kernel_rfl
abbrev hb1:=hb0.drop 27
theorem hs2(w:World)(o:OsState):segRun treeTable hpg w 11 (some<|.ref 6) 1 880 (hSh 578 (hhp w.params hve 39 31<|hl1 w.params) o) (piecesOf (hb1.take 7) hev hcd ⟨169,0,180,58⟩ [topFrame ⟨0,0,0,0⟩])=some (.next,hSh 795 (hhp w.params hvg 44 35<|hl2 w.params) o,hcd,⟨269,0,270,46⟩):=by kernel_rfl
abbrev hb2:=hb1.drop 7
theorem hs3(w:World)(o:OsState):segRun treeTable hpg w 11 (some<|.ref 6) 1 988 (hSh 795 (hhp w.params hvg 44 35<|hl2 w.params) o) (piecesOf (hb2.take 16) hev hcd ⟨269,0,270,46⟩ [topFrame ⟨0,0,0,0⟩])=some (.next,hSh 1046 (hhp w.params hvh 59 50<|hl3 w.params) o,hcd,⟨451,0,456,39⟩):=by kernel_rfl
abbrev hb3:=hb2.drop 16
theorem hs4(w:World)(o:OsState):topRun treeTable hpg w 11 (some<|.ref 6) 255 (hSh 1046 (hhp w.params hvh 59 50<|hl3 w.params) o) (restOf hb3 hev hcd ⟨451,0,456,39⟩ [topFrame ⟨0,0,0,0⟩])=some (hSh 1126 (hhp w.params hvh 67 58<|hl4 w.params) o):=by kernel_rfl
theorem hpa{w:World}{n N t t':Nat}{h h':Heap}{o:OsState}{r:Shared}{b:List Stmt}(m:Nat){p p':Pos}(x:segRun treeTable hpg w 11 (some<|.ref 6) 1 n (hSh t h o) (piecesOf (b.take m) hev hcd p [topFrame ⟨0,0,0,0⟩])=some (.next,hSh t' h' o,hcd,p'))(y:topRun treeTable hpg w 11 (some<|.ref 6) N (hSh t' h' o) (restOf (b.drop m) hev hcd p' [topFrame ⟨0,0,0,0⟩])=some r):topRun treeTable hpg w 11 (some<|.ref 6) (n+N) (hSh t h o) (restOf b hev hcd p [topFrame ⟨0,0,0,0⟩])=some r:=by
 have z:=piece_app x y;rwa[List.take_append_drop] at z
theorem hhr(w:World)(o:OsState):topRun treeTable hpg w 11 (some<|.ref 6) (12+(1+(1322+(996+(880+(988+255)))))) (hSh boot_toks (boot_heap w.params) o) (topStub hpg)=some (hSh 1126 (hhp w.params hvh 67 58<|hl4 w.params) o):=go_top (hr0 w o)<|piece_block (hr1 w o)<|hpa _ (hs0 w o)<|hpa _ (hs1 w o)<|hpa _ (hs2 w o)<|hpa _ (hs3 w o)<|hs4 w o
def hhf(P:Params):Heap:=hhp P hvh 67 58<|hl4 P
theorem hbz:PySem.Challenge.pw_stretchdeeds_k42_turned_cut_and_put_in.bare:=⟨rfl,rfl,rfl,rfl,rfl,by decide +kernel⟩
theorem hhq(w:World):(λo=>((staticsOk (importedModules hpg.main.body) (boot_heap w.params) (hhf w.params)&&namesBound hpg (hhf w.params)&&gensDone (hSh 1126 (hhf w.params) o)&&laidKept (boot_heap w.params) (hhf w.params)),openSeen qv [] (importedModules hpg.main.body) Xt true<|hSh 1126 (hhf w.params) o,hk.obs<|hSh 1126 (hhf w.params) o))=λ_=>(true,openGood qv [],hk.val w):=by kernel_rfl
theorem hl:LeftO PySem.Challenge.pw_stretchdeeds_k42_turned_cut_and_put_in qv [] Xt hk.obs hk.val 6000:=LeftO.of_pieces (H₀:=boot_heap) (H₁:=hhf) (boot_open (by kernel_rfl) rfl λ_=>by kernel_rfl) (λ_=>by kernel_rfl) hhr rfl hhq
end G42
end
section
namespace PF
open PySem PySem.Spec PyProof.Rows L2
abbrev St:=L2.St
structure KD where
 d:Addr->List (Key×V)->Prop
 c:Str->Addr
instance:CoeFun KD (λ_=>Addr->List (Key×V)->Prop):=⟨KD.d⟩
inductive D where
 |non|bl (b:Bool)|int (i:Int)|str (x:Str)|tup (ds:List D)|lst (ds:List D)|dct (kvs:List (Key×D))|cl (c:Str)|ob (c:Str) (ns:List Str) (ds:List D)
mutual
inductive Rp(K:zzA)(kd:KD)(O:Addr->Prop)(H:Hp):V->D->Prop
 |non:Rp K kd O H .non .non
 |bl (b:Bool):Rp K kd O H (.bl b) (.bl b)
 |int (i:Int):Rp K kd O H (.int i) (.int i)
 |str (x:Str):Rp K kd O H (.str x) (.str x)
 |tup {a:Addr}{vs:List V}{ds:List D}:¬O a->Rd H a (.tup vs)->RpL K kd O H vs ds->Rp K kd O H (.ref a) (.tup ds)
 |tupK {a:Addr}{o:Obj}{its:Array Value}{n:Nat}{vs:List V}{ds:List D}:K.lookup a=some o->o.cls = .type "tuple"->o.data = .seq its n->its.size<=sizeLine->zQ vs its.toList->RpL K kd O H vs ds->Rp K kd O H (.ref a) (.tup ds)
 |lst {a:Addr}{vs:List V}{ds:List D}:¬O a->Rd H a (.lst vs)->RpL K kd O H vs ds->Rp K kd O H (.ref a) (.lst ds)
 |lstK {a:Addr}{its:Array Value}{n:Nat}{vs:List V}{ds:List D}:K.lookup a=some {cls:=.type "list",data:=.seq its n}->its.size<=sizeLine->zQ vs its.toList->RpL K kd O H vs ds->Rp K kd O H (.ref a) (.lst ds)
 |dct {a:Addr}{kvs:List (Key×V)}{ds:List (Key×D)}:¬O a->Rd H a (.dK kvs)->RpM K kd O H kvs ds->Rp K kd O H (.ref a) (.dct ds)
 |dctK {a:Addr}{kvs:List (Key×V)}{ds:List (Key×D)}:kd a kvs->RpM K kd O H kvs ds->Rp K kd O H (.ref a) (.dct ds)
 |cl (c:Str):Rp K kd O H (.ref (kd.c c)) (.cl c)
 |ob {a dx:Addr}{c:Str}{ns:List Str}{vs:List V}{ds:List D}:¬O a->H a=some (.ins (kd.c c) dx (ns.zip vs))->ns.length=vs.length->RpL K kd O H vs ds->Rp K kd O H (.ref a) (.ob c ns ds)
inductive RpL(K:zzA)(kd:KD)(O:Addr->Prop)(H:Hp):List V->List D->Prop
 |nil:RpL K kd O H [] []
 |cons {v:V}{d:D}{vs:List V}{ds:List D}:Rp K kd O H v d->RpL K kd O H vs ds->RpL K kd O H (v::vs) (d::ds)
inductive RpM(K:zzA)(kd:KD)(O:Addr->Prop)(H:Hp):List (Key×V)->List (Key×D)->Prop
 |nil:RpM K kd O H [] []
 |cons {k:Key}{v:V}{d:D}{vs:List (Key×V)}{ds:List (Key×D)}:Rp K kd O H v d->RpM K kd O H vs ds->RpM K kd O H ((k,v)::vs) ((k,d)::ds)
end
structure Grow(W:Addr->Prop)(H:Hp)(W':Addr->Prop)(H':Hp):Prop where
 keep:∀b o,H b=some o->¬W b->H' b=some o
 own:∀b,W' b->W b\/H b=none
def Grow.refl:Grow W H W H:=⟨λ_ _ h _=>h,λ_ h=>.inl h⟩
def Grow.trans(a:Grow W H W1 H1)(b:Grow W1 H1 W2 H2):Grow W H W2 H2 where
 keep:=λx o h n=>b.keep x o (a.keep x o h n) λq=>(a.own x q).elim n λz=>by rw[z]at h;cases h
 own:=λx q=>by
  rcases b.own x q with h|h
  . exact a.own x h
  . cases e:H x with
    |none=>exact .inr rfl
    |some o=>
     refine .inl<|Classical.byContradiction λn=>?_;rw[a.keep x o e n]at h;cases h
def Grow.less(h:∀a,W' a->W a):Grow W H W' H:=⟨λ_ _ q _=>q,λb q=>.inl<|h b q⟩
abbrev XE(F W:Addr->Prop):Addr->Prop:=λa=>F a\/W a
section
variable{K:zzA}{kd:KD}{F W W':Addr->Prop}{H H':Hp}
def Vz(g:Grow W H W' H')(n:¬W a)(h:Rd H a u):Rd H' a u:=by
 rcases h with h|⟨o,h⟩
 . exact .inl<|g.keep _ _ h n
 . exact .inr ⟨o,g.keep _ _ h n⟩
def C0(h:Rd H a u):H a≠none:=by
 rcases h with h|⟨o,h⟩<;>(rw[h];simp)
def VX(g:Grow W H W' H')(n:¬XE F W a)(h:Rd H a u):¬XE F W' a:=λq=>
 q.elim (λz=>n<|.inl z) λz=>(g.own a z).elim (λy=>n<|.inr y) λy=>C0 h y
def Rp.grow(g:Grow W H W' H')(h:Rp K kd (XE F W) H v d):Rp K kd (XE F W') H' v d:=
 Rp.rec .non .bl .int .str (λn h _ r=>.tup (VX g n h) (Vz g (λz=>n<|.inr z) h) r) (λa b c e f _ r=>.tupK a b c e f r) (λn h _ r=>.lst (VX g n h) (Vz g (λz=>n<|.inr z) h) r) (λa e f _ r=>.lstK a e f r) (λn h _ r=>.dct (VX g n h) (Vz g (λz=>n<|.inr z) h) r) (λh _ r=>.dctK h r) .cl (λn h l _ r=>.ob (VX g n<|.inl h) (g.keep _ _ h λz=>n<|.inr z) l r) .nil (λ_ _ h r=>.cons h r) .nil (λ_ _ h r=>.cons h r) h
def RpL.ind{P:List V->List D->Prop}(h0:P [] [])(h1:∀{v d vs ds},Rp K kd O H v d->RpL K kd O H vs ds->P vs ds->P (v::vs) (d::ds))(h:RpL K kd O H vs ds):P vs ds:=
 RpL.rec (motive_1:=λ_ _ _=>True) (motive_3:=λ_ _ _=>True) ⋯ ⋯ ⋯ ⋯ (λ_ _ _ _=>⋯) (λ_ _ _ _ _ _ _=>⋯) (λ_ _ _ _=>⋯) (λ_ _ _ _ _=>⋯) (λ_ _ _ _=>⋯) (λ_ _ _=>⋯) ⋯ (λ_ _ _ _ _=>⋯) h0 (λa r _ ih=>h1 a r ih) ⋯ (λ_ _ _ _=>⋯) h
def RpM.ind{P:List (Key×V)->List (Key×D)->Prop}(h0:P [] [])(h1:∀{k v d vs ds},Rp K kd O H v d->RpM K kd O H vs ds->P vs ds->P ((k,v)::vs) ((k,d)::ds))(h:RpM K kd O H vs ds):P vs ds:=
 RpM.rec (motive_1:=λ_ _ _=>True) (motive_2:=λ_ _ _=>True) ⋯ ⋯ ⋯ ⋯ (λ_ _ _ _=>⋯) (λ_ _ _ _ _ _ _=>⋯) (λ_ _ _ _=>⋯) (λ_ _ _ _ _=>⋯) (λ_ _ _ _=>⋯) (λ_ _ _=>⋯) ⋯ (λ_ _ _ _ _=>⋯) ⋯ (λ_ _ _ _=>⋯) h0 (λa r _ ih=>h1 a r ih) h
theorem RpL.grow(g:Grow W H W' H'){vs:List V}(h:RpL K kd (XE F W) H vs ds):RpL K kd (XE F W') H' vs ds:=RpL.ind .nil (λa _ r=>.cons (Rp.grow g a) r) h
theorem RpM.grow(g:Grow W H W' H'){vs:List (Key×V)}(h:RpM K kd (XE F W) H vs ds):RpM K kd (XE F W') H' vs ds:=RpM.ind .nil (λa _ r=>.cons (Rp.grow g a) r) h
def Rp.less(g:∀a,O' a->O a)(h:Rp K kd O H v d):Rp K kd O' H v d:=
 Rp.rec .non .bl .int .str (λn h _ r=>.tup (λz=>n<|g _ z) h r) (λa b c e f _ r=>.tupK a b c e f r) (λn h _ r=>.lst (λz=>n<|g _ z) h r) (λa e f _ r=>.lstK a e f r) (λn h _ r=>.dct (λz=>n<|g _ z) h r) (λh _ r=>.dctK h r) .cl (λn h l _ r=>.ob (λz=>n<|g _ z) h l r) .nil (λ_ _ h r=>.cons h r) .nil (λ_ _ h r=>.cons h r) h
theorem RpL.less{O O':Addr->Prop}(g:∀a,O' a->O a)(h:RpL K kd O H vs ds):RpL K kd O' H vs ds:=RpL.ind .nil (λa _ r=>.cons (Rp.less g a) r) h
theorem RpM.less{O O':Addr->Prop}(g:∀a,O' a->O a)(h:RpM K kd O H vs ds):RpM K kd O' H vs ds:=RpM.ind .nil (λa _ r=>.cons (Rp.less g a) r) h
theorem RpL.length{O:Addr->Prop}(h:RpL K kd O H vs ds):vs.length=ds.length:=RpL.ind (P:=λa b=>a.length=b.length) rfl (λ_ _ r=>congrArg _ r) h
theorem RpM.length{O:Addr->Prop}(h:RpM K kd O H vs ds):vs.length=ds.length:=RpM.ind (P:=λa b=>a.length=b.length) rfl (λ_ _ r=>congrArg _ r) h
def RpL.get{vs:List V}{i:Nat}(h:RpL K kd O H vs ds)(e:ds[i]? = some d):∃v,vs[i]? = some v/\Rp K kd O H v d:=
 RpL.ind (P:=λb c=>∀i,c[i]? = some d->∃v,b[i]? = some v/\Rp K kd O H v d) (λi e=>by cases e) (λa _ f i e=>by
  cases i with
  |zero=>cases e;exact⟨_,rfl,a⟩
  |succ i=>exact f i e) h i e
def RpL.append{O:Addr->Prop}(h:RpL K kd O H vs ds)(r:RpL K kd O H ws es):RpL K kd O H (vs++ws) (ds++es):=RpL.ind (P:=λb c=>RpL K kd O H (b++ws)<|c++es) r (λa _ t=>.cons a t) h
theorem RpL.take{O:Addr->Prop}(n:Nat)(h:RpL K kd O H vs ds):RpL K kd O H (vs.take n) (ds.take n):=
 RpL.ind (P:=λb c=>∀n,RpL K kd O H (b.take n)<|c.take n) (λn=>by rw[List.take_nil,List.take_nil];exact .nil) (λa _ d n=>by
  cases n with
  |zero=>exact .nil
  |succ n=>exact .cons a (d n)) h n
theorem RpL.drop{O:Addr->Prop}(n:Nat)(h:RpL K kd O H vs ds):RpL K kd O H (vs.drop n) (ds.drop n):=
 RpL.ind (P:=λc d=>∀n,RpL K kd O H (c.drop n)<|d.drop n) (λn=>by rw[List.drop_nil,List.drop_nil];exact .nil) (λa b e n=>by
  cases n with
  |zero=>exact .cons a b
  |succ n=>exact e n) h n
theorem RpL.rep(h:RpL K kd O H vs ds):∀k:Nat,RpL K kd O H (List.replicate k vs).flatten (List.replicate k ds).flatten
 |0=>.nil
 |k+1=>h.append<|RpL.rep h k
end
inductive Vw(K:zzA)(kd:KD)(O:Addr->Prop)(H:Hp):V->D->Prop
 |non:Vw K kd O H .non .non
 |bl (b:Bool):Vw K kd O H (.bl b) (.bl b)
 |int (i:Int):Vw K kd O H (.int i) (.int i)
 |str (x:Str):Vw K kd O H (.str x) (.str x)
 |tup {a:Addr}{vs:List V}{ds:List D}:Rp K kd O H (.ref a) (.tup ds)->Vd K H a vs->RpL K kd O H vs ds->Vw K kd O H (.ref a) (.tup ds)
 |lst {a:Addr}{vs:List V}{ds:List D}:Sr K H a vs->RpL K kd O H vs ds->Vw K kd O H (.ref a) (.lst ds)
 |dct {a:Addr}{kvs:List (Key×V)}{ds:List (Key×D)}:(Rd H a (.dK kvs)\/kd a kvs)->RpM K kd O H kvs ds->Vw K kd O H (.ref a) (.dct ds)
 |cl (c:Str):Vw K kd O H (.ref (kd.c c)) (.cl c)
 |ob {a dx:Addr}{c:Str}{ns:List Str}{vs:List V}{ds:List D}:H a=some (.ins (kd.c c) dx (ns.zip vs))->ns.length=vs.length->RpL K kd O H vs ds->Vw K kd O H (.ref a) (.ob c ns ds)
def Rp.vw{K}(h:Rp K kd O H v d):Vw K kd O H v d:=by
 cases h with
 |non=>exact .non
 |bl b=>exact .bl b
 |int i=>exact .int i
 |str x=>exact .str x
 |tup n h r=>exact .tup (.tup n h r) (.inl h) r
 |tupK a b c e f r=>exact .tup (.tupK a b c e f r) (.inr ⟨_,_,_,a,b,c,e,f⟩) r
 |lst n h r=>exact .lst (.inl h) r
 |lstK a e f r=>exact .lst (.inr ⟨_,_,a,e,f⟩) r
 |dct n h r=>exact .dct (.inl h) r
 |dctK h r=>exact .dct (.inr h) r
 |cl c=>exact .cl c
 |ob n h l r=>exact .ob h l r
def _root_.L2.Sr.sq{K}(h:Sr K H a xs):Xo K H a xs:=by
 rcases h with h|⟨b,n,k,z,r⟩
 . exact .inl h
 . exact .inr ⟨_,b,n,k,rfl,rfl,rfl,z,r⟩
def Em(I:Inv X pins σ H s)(h:Sr X.K H a xs):
 xs.length<=sizeLine/\∃(its:List Value) (n:Nat),zQ xs its/\s.heap.get? a=some {cls:=.type "list",data:=.seq its.toArray n}:=by
 rcases h with h|⟨b,n,k,z,r⟩
 . exact h.ok I.hok
 . refine⟨by rw[r.length];simpa using z,b.toList,n,r,by simpa using I.kIn _ _ k⟩
def Rp.cl_eq{K}(h:Rp K kd O H (.ref C) (.cl c)):C=kd.c c:=by
 cases h;rfl
noncomputable def zB:D->Bool
 | .non=>true | .bl _=>true | .int _=>true | .str _=>true|_=>false
def Rp.flat{K}(h:Rp K kd O H v d)(e:zB d=true):Rp K kd O' H' v d:=by
 cases h with
 |non=>exact .non
 |bl b=>exact .bl b
 |int i=>exact .int i
 |str x=>exact .str x
 |_=>cases e
inductive Kind where
 |ls|tp|dc (ks:List Key)|ob (c:Str) (ns:List Str)
inductive O where
 |lf (st:Bool) (d:D)|nd (k:Kind) (os:List O)
abbrev B4(st:Bool)(d:D):O:=.lf (zB d||st) d
mutual
inductive Ro(L:Bool->V->D->Prop)(N:Addr->Prop)(H:Hp):V->O->List Addr->Prop
 |lf {st:Bool}{v:V}{d:D}:L st v d->Ro L N H v (.lf st d) []
 |ls {a:Addr}{vs:List V}{os:List O}{fp:List Addr}:H a=some (.lst vs)->RoL L N H vs os fp->Ro L N H (.ref a) (.nd .ls os) (a::fp)
 |dc {a:Addr}{ks:List Key}{vs:List V}{os:List O}{fp:List Addr}:H a=some (.dK (ks.zip vs))->ks.length=vs.length->RoL L N H vs os fp->Ro L N H (.ref a) (.nd (.dc ks) os) (a::fp)
 |ob {a dx C:Addr}{c:Str}{ns:List Str}{vs:List V}{os:List O}{fp:List Addr}:L true (.ref C) (.cl c)->H a=some (.ins C dx (ns.zip vs))->ns.length=vs.length->RoL L N H vs os fp->Ro L N H (.ref a) (.nd (.ob c ns) os) (a::fp)
 |tp {a:Addr}{vs:List V}{os:List O}{fp:List Addr}:N a->H a=some (.tup vs)->RoL L N H vs os fp->Ro L N H (.ref a) (.nd .tp os) fp
inductive RoL(L:Bool->V->D->Prop)(N:Addr->Prop)(H:Hp):List V->List O->List Addr->Prop
 |nil:RoL L N H [] [] []
 |cons {v:V}{o:O}{vs:List V}{os:List O}{fp fq:List Addr}:Ro L N H v o fp->RoL L N H vs os fq->RoL L N H (v::vs) (o::os) (fp++fq)
end
mutual
def O.toD:O->D
 | .lf _ d=>d
 | .nd .ls os=>.lst<|O.toDs os
 | .nd .tp os=>.tup<|O.toDs os
 | .nd (.dc ks) os=>.dct<|ks.zip<|O.toDs os
 | .nd (.ob c ns) os=>.ob c ns<|O.toDs os
def O.toDs:List O->List D
 | []=>[]
 |o::r=>o.toD::O.toDs r
end
mutual
def O.str:O->Bool
 | .lf st _=>st
 | .nd _ os=>O.strs os
def O.strs:List O->Bool
 | []=>true
 |o::r=>o.str&&O.strs r
end
section
variable{L L':Bool->V->D->Prop}{N N':Addr->Prop}{H H':Hp}{K:zzA}{kd:KD}{Ob:Addr->Prop}
def Ro.mono(hL:∀st v d,L st v d->L' st v d)(hN:∀a vs,N a->H a=some (.tup vs)->N' a/\H' a=some (.tup vs))(k:∀a ∈ fp,∀u,H a=some u->H' a=some u)(h:Ro L N H v o fp):Ro L' N' H' v o fp:=
 Ro.rec (motive_2:=λvs os fp _=>_->RoL L' N' H' vs os fp)
  (λh _=>.lf<|hL _ _ _ h) (λh _ r k=>.ls (k _ zzF _ h)<|r λa m=>k a<|zzD _ m) (λh l _ r k=>.dc (k _ zzF _ h) l<|r λa m=>k a<|zzD _ m) (λc h l _ r k=>.ob (hL _ _ _ c) (k _ zzF _ h) l<|r λa m=>k a<|zzD _ m) (λn h _ r k=>.tp (hN _ _ n h).1 (hN _ _ n h).2<|r k)
  (λ_=>.nil) (λ_ _ h r k=>.cons (h λa m=>k a<|zzP _ m)<|r λa m=>k a<|zzL _ m) h k
def RoL.ind{P:List V->List O->List Addr->Prop}(h0:P [] [] [])(h1:∀{v o vs os fp fq},Ro L N H v o fp->RoL L N H vs os fq->P vs os fq->P (v::vs) (o::os) (fp++fq)){os}(h:RoL L N H vs os fp):P vs os fp:=
 RoL.rec (motive_1:=λ_ _ _ _=>True) (λ_=>⋯) (λ_ _ _=>⋯) (λ_ _ _ _=>⋯) (λ_ _ _ _ _=>⋯) (λ_ _ _ _=>⋯) h0 (λa r _ ih=>h1 a r ih) h
theorem RoL.mono(hL:∀st v d,L st v d->L' st v d)(hN:∀a vs,N a->H a=some (.tup vs)->N' a/\H' a=some (.tup vs)){vs:List V}{os}(k:∀a ∈ fp,∀u,H a=some u->H' a=some u)(h:RoL L N H vs os fp):RoL L' N' H' vs os fp:=
 RoL.ind (P:=λc e b=>(∀a ∈ b,∀u,H a=some u->H' a=some u)->RoL L' N' H' c e b) (λ_=>.nil) (λh _ r k=>.cons (Ro.mono hL hN (λa m=>k a<|zzP _ m) h)<|r λa m=>k a<|zzL _ m) h k
theorem UY:∀{ks:List Key}{vs:List V}{ds:List D},RpL K kd Ob H vs ds->ks.length=vs.length->RpM K kd Ob H (ks.zip vs) (ks.zip ds)
 | [],_,_,_,_=>.nil
 |_::_,_,_,.nil,e=>by simp at e
 |_::_,_,_,.cons h r,e=>.cons h (UY r<|by simpa using e)
def Ro.rp(b)(hL:∀st v d,(b=true->st=true)->L st v d->Rp K kd Ob H v d)(hN:∀a,N a->¬Ob a){v}(s:b=true->o.str=true)(k:∀a ∈ fp,¬Ob a)(h:Ro L N H v o fp):Rp K kd Ob H v o.toD:=
 Ro.rec (motive_2:=λi g f _=>_->_->RpL K kd Ob H i _)
  (λh s _=>hL _ _ _ s h) (λh _ r s k=>.lst (k _ zzF) (.inl h)<|r s λa m=>k a<|zzD _ m) (λh l _ r s k=>.dct (k _ zzF) (.inl h)<|UY (r s λa m=>k a<|zzD _ m) l) (λc h l _ r s k=>by
   have e:=(hL _ _ _ (λ_=>rfl) c).cl_eq;subst e;exact .ob (k _ zzF) h l<|r s λa m=>k a<|zzD _ m) (λn h _ r s k=>.tup (hN _ n) (.inl h)<|r s k)
  (λ_ _=>.nil) (λ_ _ h r s k=>.cons (h (λz=>((zyC _ _).mp<|s z).1) λa m=>k a<|zzP _ m)<|r (λz=>((zyC _ _).mp<|s z).2) λa m=>k a<|zzL _ m) h s k
theorem RoL.rp(b:Bool)(hL:∀st v d,(b=true->st=true)->L st v d->Rp K kd Ob H v d)(hN:∀a,N a->¬Ob a){os}(s:b=true->O.strs os=true)(k:∀a ∈ fp,¬Ob a)(h:RoL L N H vs os fp):RpL K kd Ob H vs (O.toDs os):=
 RoL.ind (P:=λe c f=>(b=true->O.strs c=true)->(∀a ∈ f,¬Ob a)->RpL K kd Ob H e (O.toDs c)) (λ_ _=>.nil) (λh _ r s k=>.cons (Ro.rp b hL hN (λz=>((zyC _ _).mp<|s z).1) (λa m=>k a<|zzP _ m) h)<|r (λz=>((zyC _ _).mp<|s z).2) λa m=>k a<|zzL _ m) h s k
theorem RoL.length{vs:List V}{os}(h:RoL L N H vs os fp):vs.length=os.length:=RoL.ind (P:=λa b _=>a.length=b.length) rfl (λ_ _ r=>congrArg _ r) h
theorem ZU:∀os:List O,(O.toDs os).length=os.length
 | []=>rfl
 |_::r=>congrArg _<|ZU r
def RoL.append{vs ws:List V}{os ps}(h:RoL L N H vs os f)(r:RoL L N H ws ps g):RoL L N H (vs++ws) (os++ps) (f++g):=RoL.ind (P:=λa b f=>RoL L N H (a++ws) (b++ps)<|f++g) r (λh _ t=>by rw[zxA];exact .cons h t) h
def RoL.one(h:Ro L N H v o f):RoL L N H [v] [o] f:=by
 have:=RoL.cons h<|RoL.nil
 rwa [zyE]at this
def RoL.part(k:Nat):∀{vs:List V}{os:List O}{fp:List Addr},RoL L N H vs os fp->∃f g,fp=f++g/\RoL L N H (vs.take k) (os.take k) f/\RoL L N H (vs.drop k) (os.drop k) g:=by
 induction k with
 |zero=>intro b c a h;exact⟨[],a,rfl,.nil,h⟩
 |succ k d=>
  intro b c a h;cases h with
  |nil=>exact⟨[],[],rfl,.nil,.nil⟩
  |cons h r=>
   obtain⟨f,g,rfl,e,i⟩:=d r;exact⟨_,g,(zxA _ _ _).symm,.cons h e,i⟩
end
abbrev AS:=List<|Option O
abbrev Ad:=Nat->List Addr
def Gw(T:List Addr)(ad:Ad):Addr->Prop:=λa=>a ∈ T\/∃i,a ∈ ad i
abbrev Lv(F B G:Addr->Prop)(st:Bool):Addr->Prop:=XE (λa=>(st=true/\F a)\/B a) G
abbrev Lf(K:zzA)(kd:KD)(F B G:Addr->Prop)(H:Hp):Bool->V->D->Prop:=λst v d=>Rp K kd (Lv F B G st) H v d
abbrev Nf(F B G:Addr->Prop):Addr->Prop:=λa=>¬Lv F B G true a
abbrev wC(K:zzA)(kd:KD)(F B G:Addr->Prop)(H:Hp):V->O->List Addr->Prop:=Ro (Lf K kd F B G H) (Nf F B G) H
abbrev vB(K:zzA)(kd:KD)(F B G:Addr->Prop)(H:Hp):List V->List O->List Addr->Prop:=RoL (Lf K kd F B G H) (Nf F B G) H
def Re(K:zzA)(kd:KD)(F B G:Addr->Prop)(H:Hp):Option O->Option (Option V)->List Addr->Prop
 |none,_,fp=>fp=[]
 |some o,s,fp=>∃v,s=some (some v)/\wC K kd F B G H v o fp
structure Rel(K:zzA)(kd:KD)(F B:Addr->Prop)(T:List Addr)(ad:Ad)(as:AS)(σ:St)(H:Hp):Prop where
 len:as.length=σ.length
 out:∀i,as.length<=i->ad i=[]
 nd:∀i,(ad i).Nodup
 inj:∀i j a,a ∈ ad i->a ∈ ad j->i=j
 tnd:T.Nodup
 dis:∀i a,a ∈ ad i->a ∉ T
 ftr:∀a,F a->H a≠none
 btr:∀a,B a->H a≠none/\¬F a/\¬Gw T ad a
 gtr:∀a,Gw T ad a->H a≠none/\¬F a
 sl:∀i s,as[i]? = some s->Re K kd F B (Gw T ad) H s σ[i]? (ad i)
inductive RV where
 |ow (o:O)|bo (i:Nat)
def xj(K:zzA)(kd:KD)(F B:Addr->Prop)(T:List Addr)(ad:Ad)(σ:St)(H:Hp)(v:V):RV->Prop
 | .ow o=>wC K kd F B (Gw T ad) H v o T
 | .bo i=>T=[]/\σ[i]? = some (some v)
noncomputable def O.frz(o:O):O:=.lf o.str o.toD
noncomputable def RV.frz:RV->RV
 | .ow o=>.ow o.frz
 | .bo i=>.bo i
noncomputable def O.isLf:O->Bool
 | .lf _ _=>true
 |_=>false
def O.kl:O->Option Bool
 | .lf st _=>some st
 | .nd _ os=>if os.all O.isLf=true then some (O.strs os)else none
noncomputable def RV.view(as:AS):RV->Option (D×Option Bool)
 | .ow o=>some (o.toD,some o.str)
 | .bo i=>match as[i]? with
  |some (some o)=>some (o.toD,o.kl)
  |_=>none
def Q1(F B G:Addr->Prop):Option Bool->Addr->Prop
 |some st=>Lv F B G st
 |none=>λ_=>False
section
variable{K:zzA}{kd:KD}{F B F' B':Addr->Prop}{G G':Addr->Prop}{T T':List Addr}{ad ad1:Ad}{as as1:AS}{σ:St}{H H1 H':Hp}{v:V}{r:RV}{o:O}{fp:List Addr}{vs:List V}{os:List O}
theorem wC.grow(g:Grow G H G' H')(k:∀a ∈ fp,∀u,H a=some u->H' a=some u)(h:wC K kd F B G H v o fp):wC K kd F B G' H' v o fp:=
 Ro.mono (λst v d r=>Rp.grow g r) (λa vs n e=>⟨λz=>z.elim (λy=>n<|.inl y) λy=>(g.own a y).elim (λw=>n<|.inr w) λw=>(by rw[w]at e;cases e),g.keep a _ e λw=>n<|.inr w⟩) k h
theorem vB.grow(g:Grow G H G' H')(k:∀a ∈ fp,∀u,H a=some u->H' a=some u)(h:vB K kd F B G H vs os fp):vB K kd F B G' H' vs os fp:=
 RoL.mono (λst v d r=>Rp.grow g r) (λa vs n e=>⟨λz=>z.elim (λy=>n<|.inl y) λy=>(g.own a y).elim (λw=>n<|.inr w) λw=>(by rw[w]at e;cases e),g.keep a _ e λw=>n<|.inr w⟩) k h
def wC.lv(g:∀st a,Lv F' B' G' st a->Lv F B G st a)(h:wC K kd F B G H v o fp):wC K kd F' B' G' H v o fp:=
 Ro.mono (λst v d r=>r.less<|g st) (λa vs n e=>⟨λz=>n<|g true a z,e⟩) (λ_ _ _ e=>e) h
def vB.lv(g:∀st a,Lv F' B' G' st a->Lv F B G st a)(h:vB K kd F B G H vs os fp):vB K kd F' B' G' H vs os fp:=
 RoL.mono (λst v d r=>r.less<|g st) (λa vs n e=>⟨λz=>n<|g true a z,e⟩) (λ_ _ _ e=>e) h
def wC.less(g:∀a,G' a->G a)(h:wC K kd F B G H v o fp):wC K kd F B G' H v o fp:=wC.lv (λ_ a z=>z.elim .inl λy=>.inr<|g a y) h
def Gw.drop:∀a,Gw [] ad a->Gw T ad a:=λ_ h=>h.elim ⋯ .inr
def Rel.trk(R:Rel K kd F B T ad as σ H)(st):∀a,Lv F B (Gw T ad) st a->H a≠none:=λa h=>by
 rcases h with(h|h)|h
 . exact R.ftr a h.2
 . exact(R.btr a h).1
 . exact(R.gtr a h).1
def Rel.tr(R:Rel K kd F B T ad as σ H)(lv):∀a,Q1 F B (Gw T ad) lv a->H a≠none:=λa h=>by
 cases lv with
 |none=>exact h.elim
 |some st=>exact R.trk st a h
theorem Re.lv(g:∀st a,Lv F' B' G' st a->Lv F B G st a)(h:Re K kd F B G H s x fp):Re K kd F' B' G' H s x fp:=by
 cases s with
 |none=>exact h
 |some o=>obtain⟨v,e,r⟩:=h;exact⟨v,e,wC.lv g r⟩
def Re.less(g:∀a,G' a->G a)(h:Re K kd F B G H s x fp):Re K kd F B G' H s x fp:=h.lv λ_ a z=>z.elim .inl λy=>.inr<|g a y
theorem Re.grow(g:Grow G H G' H')(k:∀a ∈ fp,∀u,H a=some u->H' a=some u)(h:Re K kd F B G H s x fp):Re K kd F B G' H' s x fp:=by
 cases s with
 |none=>exact h
 |some o=>obtain⟨v,e,r⟩:=h;exact⟨v,e,wC.grow g k r⟩
theorem Rel.drop(R:Rel K kd F B T ad as σ H):Rel K kd F B [] ad as σ H where
 len:=R.len
 out:=R.out
 nd:=R.nd
 inj:=R.inj
 tnd:=zyJ
 dis:=λ_ _ _ z=>nomatch z
 ftr:=R.ftr
 btr:=λa h=>let⟨h1,h2,h3⟩:=R.btr a h;⟨h1,h2,λz=>h3<|Gw.drop a z⟩
 gtr:=λa h=>R.gtr a (Gw.drop a h)
 sl:=λi s e=>(R.sl i s e).less Gw.drop
def MB(R:Rel K kd F B T ad as σ H)(h:wC K kd F B (Gw T ad) H v o T):Rp K kd (Lv F B (Gw [] ad) o.str) H v o.toD:=
 Ro.rp o.str (λst v d hs r=>r.less λa z=>z.elim (λy=>.inl<|y.elim (λx=>.inl ⟨hs x.1,x.2⟩) .inr) λy=>.inr<|Gw.drop a y)
  (λa n z=>n<|z.elim (λy=>.inl<|y.elim (λx=>.inl ⟨rfl,x.2⟩) .inr) λy=>.inr<|Gw.drop a y) id
  (λa m z=>by
   rcases z with(z|z)|z|⟨i,z⟩
   . exact(R.gtr a<|.inl m).2 z.2
   . exact(R.btr a z).2.2<|.inl m
   . cases z
   . exact R.dis i a z m) h
def xj.drop(R:Rel K kd F B T ad as σ H)(h:xj K kd F B T ad σ H v r):xj K kd F B [] ad σ H v r.frz:=by
 cases r with
 |ow o=>exact .lf (MB R h)
 |bo i=>exact⟨rfl,h.2⟩
theorem xj.grow(g:Grow (Gw [] ad) H (Gw [] ad1) H1)(h:xj K kd F B [] ad σ H v r):xj K kd F B [] ad1 σ H1 v r:=by
 cases r with
 |ow o=>exact wC.grow g ⋯ h
 |bo i=>exact h
def Ha(h:vB K kd F B G H vs os fp):os.all O.isLf=true->fp=[]:=
 RoL.ind (P:=λ_ os fp=>os.all O.isLf=true->fp=[]) ⋯ (λh _ ih e=>by
  rw[List.all_cons,zyC]at e;rw[ih e.2];cases h with
  |lf=>rfl
  |ls=>cases e.1
  |dc=>cases e.1
  |ob=>cases e.1
  |tp=>cases e.1) h
def VB{st}(hs:b=true->st=true):∀a,Lv F B G b a->Lv F B G st a:=λa z=>z.elim (λy=>.inl<|y.elim (λx=>.inl ⟨hs x.1,x.2⟩) .inr) .inr
def Qq(h:vB K kd F B G H vs os fp)(e:os.all O.isLf=true):RpL K kd (Lv F B G<|O.strs os) H vs (O.toDs os):=by
 have:=Ha h e;subst this;exact RoL.rp _ (λst v d hs r=>r.less<|VB hs) (λa n z=>n<|VB ⋯ a z) id ⋯ h
def V7(h:vB K kd F B G H vs os fp):RpL K kd (λ_=>False) H vs (O.toDs os):=RoL.rp false (λst v d _ r=>r.less λ_ z=>z.elim) (λ_ _ z=>z) ⋯ (λ_ _ z=>z) h
def Qr(h:wC K kd F B G H v o fp):Rp K kd (λ_=>False) H v o.toD:=Ro.rp false (λst v d _ r=>r.less λ_ z=>z.elim) (λ_ _ z=>z) ⋯ (λ_ _ z=>z) h
def Qg(h:wC K kd F B G H v o []):Rp K kd (Lv F B G o.str) H v o.toD:=
 Ro.rp o.str (λst v d hs r=>r.less<|VB hs) (λa n z=>n<|VB ⋯ a z) id ⋯ h
theorem wC.vw(h:wC K kd F B G H v o fp):Vw K kd (Q1 F B G o.kl) H v o.toD:=by
 cases h with
 |lf h=>exact h.vw
 |ls hH r=>
  rename_i a vs' os' fp';show Vw K kd (Q1 F B G (if os'.all O.isLf=true then some _ else none)) H _ _
  by_cases e:os'.all O.isLf=true
  . rw[if_pos e];exact .lst (.inl<|.inl hH)<|Qq r e
  . rw[if_neg e];exact .lst (.inl<|.inl hH) (V7 r)
 |dc hH l r=>
  rename_i a ks vs' os' fp';show Vw K kd (Q1 F B G (if os'.all O.isLf=true then some _ else none)) H _ _
  by_cases e:os'.all O.isLf=true
  . rw[if_pos e];exact .dct (.inl<|.inl hH)<|UY (Qq r e) l
  . rw[if_neg e];exact .dct (.inl<|.inl hH) (UY (V7 r) l)
 |ob hc hH l r=>
  rename_i a dx C c ns vs' os' fp';have ec:=hc.cl_eq;subst ec;show Vw K kd (Q1 F B G (if os'.all O.isLf=true then some _ else none)) H _ _
  by_cases e:os'.all O.isLf=true
  . rw[if_pos e];exact .ob hH l<|Qq r e
  . rw[if_neg e];exact .ob hH l (V7 r)
 |tp n hH r=>
  rename_i a vs' os';show Vw K kd (Q1 F B G (if os'.all O.isLf=true then some _ else none)) H _ _
  by_cases e:os'.all O.isLf=true
  . rw[if_pos e];have rl:=Qq r e;exact .tup (.tup (λz=>n<|VB (λ_=>rfl) _ z) (.inl hH) rl) (.inl<|.inl hH) rl
  . rw[if_neg e];exact .tup (.tup (λz=>z) (.inl hH)<|V7 r) (.inl<|.inl hH)<|V7 r
theorem xj.vw(R:Rel K kd F B [] ad as σ H)(h:xj K kd F B [] ad σ H v r)(e:r.view as=some (d,lv)):Vw K kd (Q1 F B (Gw [] ad) lv) H v d:=by
 cases r with
 |ow o=>
  cases e;exact(Qg h).vw
 |bo i=>
  have e:(match as[i]? with|some (some o)=>some _|_=>none)=some _:=e;cases k:as[i]? with
  |none=>rw[k]at e;cases e
  |some s=>
   cases s with
   |none=>rw[k]at e;cases e
   |some o=>
    rw[k]at e;cases e;obtain⟨w,hw,ro⟩:=R.sl i _ k;rw[h.2]at hw;cases hw;exact ro.vw
def Rel.add(R:Rel K kd F B T ad as σ H)(hn:N.Nodup)(hl:∀a ∈ N,H a=none)(k:∀b u,H b=some u->H' b=some u)(h1:∀a ∈ N,H' a≠none):Rel K kd F B (N++T) ad as σ H'/\Grow (Gw T ad) H (Gw (N++T) ad) H':=by
 have g:Grow (Gw T ad) H (Gw _ ad) H':=⟨λb u h _=>k b u h,λb h=>by
  rcases h with h|h
  . rcases zzM.mp h with h|h
    . exact .inr<|hl b h
    . exact .inl<|.inl h
  . exact .inl<|.inr h⟩
 have kn:∀a,H a≠none->H' a≠none:=λa z=>by
  cases e:H a with
  |none=>exact absurd e z
  |some u=>rw[k a u e];simp
 refine⟨⟨R.len,R.out,R.nd,R.inj, ?_,λi a m z=>?_,λa z=>kn a<|R.ftr a z,λa z=>?_,λa z=>?_,λi s e=>(R.sl i s e).grow g λa _ u h=>k a u h⟩,g⟩
 . refine zxC.mpr ⟨hn,R.tnd,λa m b m' e=>?_⟩;subst e;exact(R.gtr a<|.inl m').1<|hl a m
 . rcases zzM.mp z with z|z
   . exact(R.gtr a<|.inr ⟨i,m⟩).1<|hl a z
   . exact R.dis i a m z
 . obtain⟨b1,b2,b3⟩:=R.btr a z;refine⟨kn a b1,b2,λy=>?_⟩
   rcases y with y|y
   . rcases zzM.mp y with y|y
     . exact b1<|hl a y
     . exact b3<|.inl y
   . exact b3<|.inr y
 . rcases z with z|z
   . rcases zzM.mp z with z|z
     . exact⟨h1 a z,λf=>R.ftr a f<|hl a z⟩
     . exact⟨kn a (R.gtr a<|.inl z).1,(R.gtr a<|.inl z).2⟩
   . exact⟨kn a (R.gtr a<|.inr z).1,(R.gtr a<|.inr z).2⟩
def Rel.more(R:Rel K kd F B T ad as σ H)(k:∀b u,H b=some u->H' b=some u):Rel K kd F B T ad as σ H'/\Grow (Gw T ad) H (Gw T ad) H':=
 R.add zyJ ⋯ k ⋯
def Rel.news(R:Rel K kd F B [] ad as σ H)(hn:T'.Nodup)(hl:∀a ∈ T',H a=none)(k:∀b u,H b=some u->H' b=some u)(h1:∀a ∈ T',H' a≠none):Rel K kd F B T' ad as σ H'/\Grow (Gw [] ad) H (Gw T' ad) H':=by
 have:=R.add hn hl k h1
 rwa [zyE]at this
end
inductive R0 where
 |im (d:D)|fl (ds:List D)|fd (kvs:List (Key×D))
def RQ(K:zzA)(kd:KD)(O:Addr->Prop)(H:Hp)(Q:VK):R0->Prop
 | .im d=>∀v H',(∀b o,H b=some o->H' b=some o)->Rp K kd O H' v d->Q v H'
 | .fl ds=>∀l vs H',H l=none->(∀b o,H b=some o->H' b=some o)->H' l=some (.lst vs)->RpL K kd (XE O (· = l)) H' vs ds->Q (.ref l) H'
 | .fd ds=>∀l vs H',H l=none->(∀b o,H b=some o->H' b=some o)->H' l=some (.dK vs)->RpM K kd (XE O (· = l)) H' vs ds->Q (.ref l) H'
def wrap(lv:Option Bool):R0->Option RV
 | .im d=>if(zB d||lv.isSome)=true then some (.ow<|B4 (lv.getD false) d)else none
 | .fl ds=>if(ds.all zB||lv.isSome)=true then some (.ow<|.nd .ls<|ds.map<|B4<|lv.getD false)else none
 | .fd kvs=>if((kvs.map (·.2)).all zB||lv.isSome)=true then some (.ow (.nd (.dc (kvs.map (·.1))) ((kvs.map (·.2)).map<|B4<|lv.getD false)))else none
def bS_{α β:Type}{o}{f:α->Option β}{b}(h:o.bind f=some b):∃a,o=some a/\f a=some b:=by
 cases o with
 |none=>cases h
 |some a=>exact⟨a,rfl,h⟩
def ite_some'{α:Type}{c:Prop}[Decidable c]{a}{b:α}(h:(if c then a else none)=some b):c/\a=some b:=by
 by_cases hc:c
 . rw[if_pos hc]at h;exact⟨hc,h⟩
 . rw[if_neg hc]at h;cases h
def zr{α:Type}{c:Prop}[Decidable c]{a b:α}(h:(if c then some a else none)=some b):c/\a=b:=by
 by_cases hc:c
 . rw[if_pos hc]at h;cases h;exact⟨hc,rfl⟩
 . rw[if_neg hc]at h;cases h
section
variable{K:zzA}{kd:KD}{F B:Addr->Prop}{G:Addr->Prop}{ad:Ad}{as:AS}{σ:St}{H H':Hp}{v:V}{r:R0}{rv:RV}{Q:VK}{lv:Option Bool}
def AY(h:zB d=true\/lv.isSome=true)(hO:∀st,lv=some st->∀a,Lv F B G st a->Ob a)(rp:Rp K kd Ob H v d):Lf K kd F B G H (zB d||lv.getD false) v d:=by
 cases e:zB d with
 |true=>exact rp.flat e
 |false=>
  rw[e]at h;cases lv with
  |none=>rcases h with h|h<;>cases h
  |some st=>exact rp.less (hO st rfl)
def HZ(hO:∀st,lv=some st->∀a,Lv F B G st a->Ob a)(e:(ds.all zB||lv.isSome)=true)(h:RpL K kd Ob H vs ds):RoL (Lf K kd F B G H) N H vs (ds.map<|B4<|lv.getD false) []:=
 RpL.ind (P:=λvs ds=>(ds.all zB||lv.isSome)=true->RoL _ N H vs (ds.map _) []) (λ_=>.nil) (λ{v d vs ds} h _ ih e=>by
  rw[List.all_cons]at e;have e1:zB d=true\/lv.isSome=true:=by
   cases h1:lv.isSome<;>cases h2:zB d<;>simp[h1,h2]at e ⊢
  have e2:(ds.all zB||lv.isSome)=true:=by
   cases h1:lv.isSome with
   |true=>simp
   |false=>
    rw[h1,Bool.or_false,zyC]at e;rw[Bool.or_false];exact e.2
  exact RoL.cons (.lf<|AY e1 hO h)<|ih e2) h e
def By{O}(h:RpM K kd O H vs ds):vs=(ds.map (·.1)).zip (vs.map (·.2))/\RpL K kd O H (vs.map (·.2)) (ds.map (·.2)):=
 RpM.ind (P:=λvs ds=>vs=(ds.map _).zip (vs.map _)/\RpL K kd O H (vs.map _) (ds.map _)) ⟨rfl,.nil⟩ (λh _ ih=>by
  obtain⟨h1,h2⟩:=ih;refine⟨?_,.cons h h2⟩
  conv=>lhs;rw[h1]
  rfl) h
def ZT(R:Rel K kd F B [] ad as σ H)(e:wrap lv r=some rv)(q:∀v T' H',Rel K kd F B T' ad as σ H'->xj K kd F B T' ad σ H' v rv->Grow (Gw [] ad) H (Gw T' ad) H'->Q v H'):RQ K kd (Q1 F B (Gw [] ad) lv) H Q r:=by
 have hO:∀l st,lv=some st->∀a,Lv F B (Gw l ad) st a->XE (Q1 F B (Gw [] ad) lv) (· ∈ l) a:=by
  intro l st e a z;subst e
  rcases z with z|z|z
  . exact .inl<|.inl z
  . exact .inr z
  . exact .inl<|.inr<|.inr z
 cases r with
 |im d=>
  obtain⟨c,rfl⟩:=zr e;intro v H' k rp;obtain⟨R',g⟩:=R.more k;refine q v [] H' R' (.lf<|AY ((Bool.or_eq_true _ _).mp c) (λst e a z=>?_) rp) g;exact(hO [] st e a z).elim id λm=>nomatch m
 |fl ds=>
  obtain⟨c,rfl⟩:=zr e;intro l vs H' hl k hl' rp;obtain⟨R',g⟩:=R.news (T':=[l]) ⋯ (λa m=>by rwa [zzR.mp m]) k (λa m=>by rw[zzR.mp m,hl'];simp);exact q _ [l] H' R' (.ls hl'<|HZ (λst e a z=>(hO [l] st e a z).elim .inl λm=>.inr<|zzR.mp m) c rp) g
 |fd ds=>
  obtain⟨c,rfl⟩:=zr e;intro l vs H' hl k hl' rp;obtain⟨R',g⟩:=R.news (T':=[l]) ⋯ (λa m=>by rwa [zzR.mp m]) k (λa m=>by rw[zzR.mp m,hl'];simp);obtain⟨e1,r1⟩:=By rp;refine q _ [l] H' R' (.dc (by rw[hl',<-e1]) (by rw[zzB,zzB,rp.length])<|HZ (λst e a z=>(hO [l] st e a z).elim .inl λm=>.inr<|zzR.mp m) c r1) g
end
abbrev EF:=AS->Option (RV×AS)
def al(K:zzA)(kd:KD)(f:EF):TE:=λσ H Q=>∃F B ad as r as',Rel K kd F B [] ad as σ H/\f as=some (r,as')/\
 ∀v T' ad' H',Rel K kd F B T' ad' as' σ H'->xj K kd F B T' ad' σ H' v r->Grow (Gw [] ad) H (Gw T' ad') H'->Q v H'
@[irreducible] def AE(X:Cx)(kd:KD)(e:Expr)(f:EF):Prop:=PE X e<|al X.K kd f
def yk(h:PE X e t)(k:∀σ H Q,t' σ H Q->t σ H Q):PE X e t':=λpins s σ H Q I q=>h pins s σ H Q I<|k σ H Q q
section
variable{K:zzA}{kd:KD}{F B:Addr->Prop}{ad:Ad}{as as1:AS}{σ:St}{H:Hp}{r:RV}{f:EF}{P:VK}
def wZ(R:Rel K kd F B [] ad as σ H)(e:f as=some (r,as1))(k:∀v ad1 H1,Rel K kd F B [] ad1 as1 σ H1->xj K kd F B [] ad1 σ H1 v r.frz->Grow (Gw [] ad) H (Gw [] ad1) H1->P v H1):al K kd f σ H P:=
 ⟨F,B,ad,as,r,as1,R,e,λv T' ad' H' R' rv g=>k v ad' H' R'.drop (xj.drop R' rv)<|g.trans<|Grow.less Gw.drop⟩
end
def sy(X:Cx)(kd:KD)(f:Value->Value->Sem Value)(g:D->D->Option R0):Prop:=
 Qe X f (λx y H Q=>∃O d e r,(∀a,O a->H a≠none)/\Vw X.K kd O H x d/\Vw X.K kd O H y e/\g d e=some r/\RQ X.K kd O H Q r)
def jr(X:Cx)(kd:KD)(f:Value->Sem Value)(g:D->Option R0):Prop:=
 mf X f (λx H Q=>∃O d r,(∀a,O a->H a≠none)/\Vw X.K kd O H x d/\g d=some r/\RQ X.K kd O H Q r)
inductive VwL(K:zzA)(kd:KD)(O:Addr->Prop)(H:Hp):List V->List D->Prop
 |nil:VwL K kd O H [] []
 |cons {v:V}{d:D}{vs:List V}{ds:List D}:Vw K kd O H v d->VwL K kd O H vs ds->VwL K kd O H (v::vs) (d::ds)
def ZW(X:Cx)(kd:KD)(f:Value)(g:List D->Option R0):Prop:=
 Yq X f (λxs H Q=>∃O ds r,(∀a,O a->H a≠none)/\VwL X.K kd O H xs ds/\g ds=some r/\RQ X.K kd O H Q r)
def ig(X:Cx)(kd:KD)(g:D->D->Option R0):Prop:=
 rH X (λx y H Q=>∃O d e r,(∀a,O a->H a≠none)/\Vw X.K kd O H x d/\Vw X.K kd O H y e/\g d e=some r/\RQ X.K kd O H Q r)
noncomputable def meet:Option Bool->Option Bool->Option Bool
 |some a,some b=>some (a&&b)
 |_,_=>none
def Q1.meet1:∀x,Q1 F B G (meet a b) x->Q1 F B G a x:=λx h=>by
 cases a with
 |none=>cases b<;>exact h.elim
 |some p=>
  cases b with
  |none=>exact h.elim
  |some q=>exact VB (λz=>((zyC _ _).mp z).1) x h
def Q1.meet2:∀x,Q1 F B G (meet a b) x->Q1 F B G b x:=λx h=>by
 cases a with
 |none=>cases b<;>exact h.elim
 |some p=>
  cases b with
  |none=>exact h.elim
  |some q=>exact VB ⋯ x h
theorem Vw.less{K O O'}(g:∀a,O' a->O a)(h:Vw K kd O H v d):Vw K kd O' H v d:=by
 cases h with
 |non=>exact .non
 |bl b=>exact .bl b
 |int i=>exact .int i
 |str x=>exact .str x
 |tup r s l=>exact .tup (r.less g) s (l.less g)
 |lst h l=>exact .lst h (l.less g)
 |dct h l=>exact .dct h (l.less g)
 |cl c=>exact .cl c
 |ob h k l=>exact .ob h k (l.less g)
def f2(fa fb:EF)(g:D->D->Option R0):EF:=λas=>(fa as).bind λp=>(fb p.2).bind λq=>(p.1.frz.view q.2).bind λx=>(q.1.frz.view q.2).bind λy=>(g x.1 y.1).bind λr=>(wrap (meet x.2 y.2) r).bind λz=>some (z,q.2)
def E3{fa fb}{as as':AS}(h:f2 fa fb g as=some (rv,as')):
 ∃p as1 q x y lx ly r,fa as=some (p,as1)/\fb as1=some (q,as')/\p.frz.view as'=some (x,lx)/\q.frz.view as'=some (y,ly)/\g x y=some r/\wrap (meet lx ly) r=some rv:=by
 obtain⟨⟨p,as1⟩,h1,h⟩:=bS_ h;obtain⟨⟨q,as2⟩,h2,h⟩:=bS_ h;obtain⟨⟨x,lx⟩,h3,h⟩:=bS_ h;obtain⟨⟨y,ly⟩,h4,h⟩:=bS_ h;obtain⟨r,h5,h⟩:=bS_ h;obtain⟨z,h6,h⟩:=bS_ h;cases h;exact⟨p,as1,q,x,y,lx,ly,r,h1,h2,h3,h4,h5,h6⟩
section
variable{X:Cx}{kd:KD}{a b c:Expr}{fa fb fc:EF}{pos:Pos}
def ml(hr:∀x y H Q,(∃O d e r,(∀a,O a->H a≠none)/\Vw X.K kd O H x d/\Vw X.K kd O H y e/\g d e=some r/\RQ X.K kd O H Q r)->R2' x y H Q)
 (h:al X.K kd (f2 fa fb g) σ H Q):nU R2' (al X.K kd fa) (al X.K kd fb) σ H Q:=by
 obtain⟨F,B,ad,as,r,as',R,e,q⟩:=h;obtain⟨p,as1,z,x,y,lx,ly,r0,h1,h2,h3,h4,h5,h6⟩:=E3 e;refine wZ R h1 λv ad1 H1 R1 rv1 g1=>wZ R1 h2 λu ad2 H2 R2 rv2 g2=>hr _ _ _ _ ?_;exact⟨_,x,y,r0,R2.tr _,(xj.vw R2 (rv1.grow g2) h3).less Q1.meet1,(xj.vw R2 rv2 h4).less Q1.meet2,h5,ZT R2 h6 λw T' H' R' rv' g'=>q w T' ad2 H' R' rv'<|(g1.trans g2).trans g'⟩
def DG(ho:sy X kd (binaryOp op) g)(ha:AE X kd a fa)(hb':AE X kd b fb):AE X kd (.BinOp a op b pos) (f2 fa fb g):=by with_unfolding_all exact(yk (oY ho ha hb') λσ H Q h=>ml (λ_ _ _ _ z=>z) h)
def DA(ho:sy X kd (compareOp op) g)(ha:AE X kd a fa)(hb':AE X kd b fb)(hm:behindInMarks op b=false):AE X kd (.Compare a [op] [b] pos) (f2 fa fb g):=by with_unfolding_all exact(yk (CC ho ha hb' hm) λσ H Q h=>ml (λ_ _ _ _ z=>z) h)
def rN(ho:ig X kd g)(ha:AE X kd a fa)(hb':AE X kd b fb)(hm:KJ b):AE X kd (.Subscript a b pos) (f2 fa fb g):=by with_unfolding_all exact(yk (rL ho ha hb' hm) λσ H Q h=>ml (λ_ _ _ _ z=>z) h)
noncomputable def fC(d:D):EF:=λas=>some (.ow<|.lf true d,as)
noncomputable def fV(i:Nat):EF:=λas=>match as[i]? with
 |some (some (.lf st d))=>some (.ow<|.lf st d,as)
 |some (some (.nd _ _))=>some (.bo i,as)
 |_=>none
def Rn(h:PE X a (tC v))(hr:∀O H,Rp X.K kd O H v d):AE X kd a (fC d):=by with_unfolding_all exact(yk h λσ H Q h=>by
 obtain⟨F,B,ad,as,r,as',R,e,q⟩:=h;cases e;exact q v [] ad H R (.lf<|hr _ _) Grow.refl)
def D1{i:Nat}(h:PE X a (W5 i)):AE X kd a (fV i):=by with_unfolding_all exact(yk h λσ H Q h=>by
 obtain⟨F,B,ad,as,r,as',R,e,q⟩:=h;unfold fV at e;cases k:as[i]? with
 |none=>rw[k]at e;cases e
 |some s=>
  rw[k]at e;cases s with
  |none=>cases e
  |some o=>
   obtain⟨v,h1,h2⟩:=R.sl i _ k;cases o with
   |lf st d=>
    cases e;have e0:ad i=[]:=by
     generalize hfp:ad i=fp at h2;cases h2;rfl
    rw[e0]at h2;exact⟨v,h1,q v [] ad H R h2 Grow.refl⟩
   |nd kk os=>
    cases e;exact⟨_,h1,q _ [] ad H R ⟨rfl,h1⟩ Grow.refl⟩)
end
noncomputable def yP(ad:Ad)(i:Nat)(x:List Addr):Ad:=λj=>if j=i then x else ad j
section
variable{K:zzA}{kd:KD}{F B:Addr->Prop}{T T1 T2:List Addr}{ad ad1:Ad}{as as1:AS}{σ:St}{H H1:Hp}{v:V}{r:RV}{o:O}{i:Nat}
def zL:yP ad i x i=x:=if_pos rfl
def zO{j:Nat}(h:j≠i):yP ad i x j=ad j:=if_neg h
def Zx:∀a,Gw T (yP ad i []) a->Gw T ad a:=λa h=>by
 rcases h with h|⟨j,h⟩
 . exact .inl h
 . by_cases e:j=i
   . subst e;rw[zL]at h;cases h
   . rw[zO e]at h;exact .inr ⟨j,h⟩
def Yy:∀a,Gw [] (yP ad i T) a->Gw T ad a:=λa h=>by
 rcases h with h|⟨j,h⟩
 . cases h
 . by_cases e:j=i
   . subst e;rw[zL]at h;exact .inl h
   . rw[zO e]at h;exact .inr ⟨j,h⟩
def Fc:∀st a,Lv F (λa=>B a\/a ∈ T) (Gw [] ad) st a->Lv F B (Gw T ad) st a:=λst a z=>by
 rcases z with(z|z|z)|z
 . exact .inl<|.inl z
 . exact .inl<|.inr z
 . exact .inr<|.inl z
 . exact .inr<|Gw.drop a z
def Qf:∀st a,Lv F B (Gw (T1++T2) ad) st a->Lv F (λa=>B a\/a ∈ T1) (Gw T2 ad) st a:=λst a z=>by
 rcases z with(z|z)|z|z
 . exact .inl<|.inl z
 . exact .inl<|.inr<|.inl z
 . rcases zzM.mp z with z|z
   . exact .inl<|.inr<|.inr z
   . exact .inr<|.inl z
 . exact .inr<|.inr z
def Rel.hide(R:Rel K kd F B T ad as σ H):Rel K kd F (λa=>B a\/a ∈ T) [] ad as σ H where
 len:=R.len
 out:=R.out
 nd:=R.nd
 inj:=R.inj
 tnd:=zyJ
 dis:=λ_ _ _ z=>nomatch z
 ftr:=R.ftr
 btr:=λa h=>by
  rcases h with h|h
  . obtain⟨h1,h2,h3⟩:=R.btr a h;exact⟨h1,h2,λz=>h3<|Gw.drop a z⟩
  . exact⟨(R.gtr a<|.inl h).1,(R.gtr a<|.inl h).2,λz=>z.elim ⋯ λ⟨j,y⟩=>R.dis j a y h⟩
 gtr:=λa h=>R.gtr a (Gw.drop a h)
 sl:=λi s e=>(R.sl i s e).lv Fc
def Rel.unhide(hn:T1.Nodup)(hb:∀a ∈ T1,¬B a)(R:Rel K kd F (λa=>B a\/a ∈ T1) T2 ad as σ H):Rel K kd F B (T1++T2) ad as σ H where
 len:=R.len
 out:=R.out
 nd:=R.nd
 inj:=R.inj
 tnd:=zxC.mpr ⟨hn,R.tnd,λa m b m' e=>by subst e;exact(R.btr a<|.inr m).2.2<|.inl m'⟩
 dis:=λi a m z=>by
  rcases zzM.mp z with z|z
  . exact(R.btr a<|.inr z).2.2<|.inr ⟨i,m⟩
  . exact R.dis i a m z
 ftr:=R.ftr
 btr:=λa h=>by
  obtain⟨h1,h2,h3⟩:=R.btr a<|.inl h;refine⟨h1,h2,λz=>?_⟩
  rcases z with z|z
  . rcases zzM.mp z with z|z
    . exact hb a z h
    . exact h3<|.inl z
  . exact h3 (.inr z)
 gtr:=λa h=>by
  rcases h with h|h
  . rcases zzM.mp h with h|h
    . exact⟨(R.btr a<|.inr h).1,(R.btr a<|.inr h).2.1⟩
    . exact R.gtr a<|.inl h
  . exact R.gtr a (.inr h)
 sl:=λi s e=>(R.sl i s e).lv Qf
theorem Rel.frz(R:Rel K kd F B T ad as σ H)(h:as[i]? = some (some o)):
 Rel K kd F B T (yP ad i []) (as.set i<|some o.frz) σ H/\∃v,σ[i]? = some (some v)/\Rp K kd (Lv F B (Gw T<|yP ad i []) o.str) H v o.toD:=by
 obtain⟨v,hv,ro⟩:=R.sl i _ h;have rp:Rp K kd (Lv F B (Gw T<|yP ad i []) o.str) H v o.toD:=
  Ro.rp o.str (λst v d hs r=>r.less λa z=>z.elim (λy=>.inl<|y.elim (λx=>.inl ⟨hs x.1,x.2⟩) .inr) λy=>.inr<|Zx a y)
   (λa n z=>n<|z.elim (λy=>.inl<|y.elim (λx=>.inl ⟨rfl,x.2⟩) .inr) λy=>.inr<|Zx a y) id
   (λa m z=>by
    rcases z with(z|z)|z|⟨j,z⟩
    . exact(R.gtr a<|.inr ⟨i,m⟩).2 z.2
    . exact(R.btr a z).2.2<|.inr ⟨i,m⟩
    . exact R.dis i a m z
    . by_cases e:j=i
      . subst e;rw[zL]at z;cases z
      . rw[zO e]at z;exact e<|R.inj j i a z m) ro
 have hi:=(zzG.mp h).1;refine⟨⟨by rw[zzU];exact R.len,λj hj=>?_,λj=>?_,λj k a h1 h2=>?_,R.tnd,λj a h1=>?_,R.ftr,λa h1=>?_,λa h1=>R.gtr a<|Zx a h1,λj s e=>?_⟩,v,hv,rp⟩
 . rw[zzU]at hj;rw[zO ⋯];exact R.out j hj
 . by_cases e:j=i
   . subst e;rw[zL];exact zyJ
   . rw[zO e];exact R.nd j
 . by_cases e:j=i
   . subst e;rw[zL]at h1;cases h1
   . by_cases e':k=i
     . subst e';rw[zL]at h2;cases h2
     . rw[zO e]at h1;rw[zO e']at h2;exact R.inj j k a h1 h2
 . by_cases e:j=i
   . subst e;rw[zL]at h1;cases h1
   . rw[zO e]at h1;exact R.dis j a h1
 . obtain⟨b1,b2,b3⟩:=R.btr a h1;exact⟨b1,b2,λz=>b3<|Zx a z⟩
 . by_cases q:j=i
   . subst q;rw[zyK hi]at e;cases e;rw[zL];exact⟨v,hv,.lf rp⟩
   . rw[zzY<|Ne.symm q]at e;rw[zO q];exact(R.sl j s e).less Zx
def Rel.put(R:Rel K kd F B T ad as σ H)(hi:i<as.length)(h:wC K kd F B (Gw T ad) H v o T):Rel K kd F B [] (yP ad i T) (as.set i<|some o) (σ.set i<|some v) H:=by
 have hi':i<σ.length:=by rwa [<-R.len]
 refine⟨by rw[zzU,zzU];exact R.len,λj hj=>?_,λj=>?_,λj k a h1 h2=>?_,zyJ,(λ_ _ _ z=>nomatch z),R.ftr,λa h1=>?_,λa h1=>R.gtr a<|Yy a h1,λj s e=>?_⟩
 . rw[zzU]at hj;rw[zO ⋯];exact R.out j hj
 . by_cases e:j=i
   . subst e;rw[zL];exact R.tnd
   . rw[zO e];exact R.nd j
 . by_cases e:j=i
   . subst e;rw[zL]at h1
     by_cases e':k=j
     . exact e'.symm
     . rw[zO e']at h2;exact(R.dis k a h2 h1).elim
   . rw[zO e]at h1
     by_cases e':k=i
     . subst e';rw[zL]at h2;exact(R.dis j a h1 h2).elim
     . rw[zO e']at h2;exact R.inj j k a h1 h2
 . obtain⟨b1,b2,b3⟩:=R.btr a h1;exact⟨b1,b2,λz=>b3<|Yy a z⟩
 . by_cases q:j=i
   . subst q;rw[zyK hi]at e;cases e;rw[zL,zyK hi'];exact⟨v,rfl,h.less Yy⟩
   . rw[zzY<|Ne.symm q]at e;rw[zO q,zzY<|Ne.symm q];exact(R.sl j s e).less Yy
noncomputable def C4(as:AS):RV->Option (O×AS)
 | .ow o=>some (o,as)
 | .bo i=>match as[i]? with
  |some (some o)=>some (o.frz,as.set i<|some o.frz)
  |_=>none
def Rk(R:Rel K kd F B T ad as σ H)(h:xj K kd F B T ad σ H v r)(e:C4 as r=some (o,as')):∃ad',Rel K kd F B T ad' as' σ H/\wC K kd F B (Gw T ad') H v o T/\∀a,Gw T ad' a->Gw T ad a:=by
 cases r with
 |ow o'=>cases e;exact⟨ad,R,h,λ_ z=>z⟩
 |bo i=>
  have e:(match as[i]? with|some (some o)=>some _|_=>none)=some _:=e;cases k:as[i]? with
  |none=>rw[k]at e;cases e
  |some s=>
   cases s with
   |none=>rw[k]at e;cases e
   |some o1=>
    rw[k]at e;cases e;obtain⟨hT,hs⟩:=h;subst hT;obtain⟨R',w,hw,rp⟩:=R.frz k;rw[hs]at hw;cases hw;exact⟨_,R',.lf rp,Zx⟩
end
abbrev TF:=AS->Option (Bool×AS)
def Jq(K:zzA)(kd:KD)(f:TF):TT:=λσ H Q=>∃F B ad as b as',Rel K kd F B [] ad as σ H/\f as=some (b,as')/\
 ∀ad' H',Rel K kd F B [] ad' as' σ H'->Grow (Gw [] ad) H (Gw [] ad') H'->Q b H'
@[irreducible] def AT(X:Cx)(kd:KD)(e:Expr)(f:TF):Prop:=PT X e<|Jq X.K kd f
@[irreducible] def AW(X:Cx)(kd:KD)(e:Expr)(f:TF):Prop:=PW X e<|Jq X.K kd f
noncomputable def truth:D->Option Bool
 | .non=>some false
 | .bl b=>some b
 | .int i=>some<|i != 0
 | .str x=>if x.length<=sizeLine then some ((x.length:Int) != 0)else none
 | .tup ds=>some<|!ds.isEmpty
 | .lst ds=>some (!ds.isEmpty)
 |_=>none
def fT(f:EF):TF:=λas=>(f as).bind λp=>(p.1.frz.view p.2).bind λx=>(truth x.1).bind λb=>some (b,p.2)
noncomputable def T5(f g:TF):TF:=λas=>(f as).bind λp=>if p.1=true then g p.2 else some (false,p.2)
noncomputable def UP(f g:TF):TF:=λas=>(f as).bind λp=>if p.1=true then some (true,p.2)else g p.2
noncomputable def wF(f:TF):TF:=λas=>(f as).bind λp=>some (!p.1,p.2)
noncomputable def FD(c:TF)(f g:EF):EF:=λas=>(c as).bind λp=>if p.1=true then f p.2 else g p.2
noncomputable def FA:D->Option Int
 | .int i=>some i
 |_=>none
noncomputable def ik:D->Option Str
 | .str i=>some i
 |_=>none
noncomputable def sr:D->Option (List D)
 | .lst i=>some i
 |_=>none
noncomputable def ku:D->Option (List D)
 | .tup i=>some i
 |_=>none
def Qs(e:sr d=some i):d = .lst i:=by
 cases d with
 |lst j=>cases e;rfl
 |_=>cases e
def Hw(e:ku d=some i):d = .tup i:=by
 cases d with
 |tup j=>cases e;rfl
 |_=>cases e
def He(h:FA d=some c):d = .int c:=by
 cases d with
 |int i=>cases h;rfl
 |_=>cases h
noncomputable def iu:D->Option Bool
 | .bl i=>some i
 |_=>none
def DV(h:iu d=some c):d = .bl c:=by
 cases d with
 |bl i=>cases h;rfl
 |_=>cases h
noncomputable def kO:RV->Option D
 | .ow (.lf _ d)=>some d
 |_=>none
def Hl(h:kO r=some d):∃st,r = .ow (.lf st d):=by
 cases r with
 |bo i=>cases h
 |ow o=>
  cases o with
  |nd k os=>cases h
  |lf st d=>cases h;exact⟨st,rfl⟩
def kq(r:RV):Option Bool:=(kO r).bind iu
def Hn(h:kq r=some c):∃st,r = .ow (.lf st<|.bl c):=by
 obtain⟨d,h1,h⟩:=bS_ h;cases DV h;exact Hl h1
def jD(r:RV):Option Int:=(kO r).bind FA
def tR(h:jD r=some c):∃st,r = .ow (.lf st<|.int c):=by
 obtain⟨d,h1,h⟩:=bS_ h;cases He h;exact Hl h1
noncomputable def DY{α:Type}:List α->Option (α×α)
 | [a,b]=>some (a,b)
 |_=>none
def KU{α:Type}{os}{p:α×α}(h:DY os=some p):os=[p.1,p.2]:=by
 cases os with
 |nil=>cases h
 |cons x r=>
  cases r with
  |nil=>cases h
  |cons y r=>
   cases r with
   |nil=>cases h;rfl
   |cons _ _=>cases h
def nX(r:RV):Option (Bool×List D):=match r with
 | .ow (.lf s d)=>(sr d).bind λl=>some (s,l)
 |_=>none
def Ee(h:nX r=some p):r = .ow (.lf p.1<|.lst p.2):=by
 cases r with
 |bo i=>cases h
 |ow o=>
  cases o with
  |nd k os=>cases h
  |lf st d=>
   obtain⟨l,h1,h⟩:=bS_<|h;cases h;cases Qs h1;rfl
def Tg(f g:EF):EF:=λas=>(f as).bind λp=>(kq p.1).bind λc=>if c=true then g p.2 else some (.ow<|.lf true<|.bl false,p.2)
def BN(f:EF):EF:=λas=>(f as).bind λp=>(kq p.1).bind λc=>some (.ow<|.lf true<|.bl<|!c,p.2)
def f1(fa:EF)(g:D->Option R0):EF:=λas=>(fa as).bind λp=>(p.1.frz.view p.2).bind λx=>(g x.1).bind λr=>(wrap x.2 r).bind λz=>some (z,p.2)
section
variable{X:Cx}{kd:KD}{a b c:Expr}{fa fb:EF}{ta tb:TF}{pos:Pos}{es rest:List Expr}
def Ey(h:PT X e t)(k:∀σ H Q,t' σ H Q->t σ H Q):PT X e t':=λpins s σ H Q I q=>h pins s σ H Q I<|k σ H Q q
def HS(h:PW X e t)(k:∀σ H Q,t' σ H Q->t σ H Q):PW X e t':=λw pins s σ H Q I q=>h w pins s σ H Q I<|k σ H Q q
def DX{O}(h:Vw X.K kd O H v d)(e:truth d=some k):uy X.K v H k:=by
 cases h with
 |non=>cases e;rfl
 |bl b=>cases e;rfl
 |int i=>cases e;rfl
 |str x=>
  have e:(if x.length<=sizeLine then some _ else none)=some k:=e
  by_cases hl:x.length<=sizeLine
  . rw[if_pos hl]at e;cases e;exact⟨hl,rfl⟩
  . rw[if_neg hl]at e;cases e
 |tup r hs hr=>
  cases e;refine .inr<|.inl ⟨_,hs, ?_⟩;cases hr<;>rfl
 |lst hs hr=>
  cases e;refine .inl ⟨_,hs.sq, ?_⟩;cases hr<;>rfl
 |dct=>cases e
 |cl=>cases e
 |ob=>cases e
def uK(ha:AE X kd a fa)(he:∀whole,isTrue a X.env whole=(do let v <-whole;standAt a.pos;holding [v] (truthy v))):AT X kd a (fT fa):=by with_unfolding_all exact(Ey (HH ha he) λσ H Q h=>by
 obtain⟨F,B,ad,as,bb,as',R,e,q⟩:=h;obtain⟨_,h1,e⟩:=bS_<|e;obtain⟨_,h2,e⟩:=bS_ e;obtain⟨k,h3,e⟩:=bS_ e;cases e;exact wZ R h1 λv ad1 H1 R1 rv1 g1=>⟨_,DX (xj.vw R1 rv1 h2) h3,q ad1 H1 R1 g1⟩)
def uV(ho:sy X kd (compareOp op) g)(hg:∀x y r,g x y=some r->∃k,r = .im (.bl k))(ha:AE X kd a fa)(hb:AE X kd b fb)(hm:behindInMarks op b=false):
 AT X kd (.Compare a [op] [b] pos) (fT<|f2 fa fb g):=by with_unfolding_all exact(Ey (Cy ho ha hb hm) λσ H Q h=>by
 obtain⟨F,B,ad,as,bb,as',R,e,q⟩:=h;obtain⟨⟨p,as1⟩,h1,e⟩:=bS_<|e;obtain⟨_,h2,e⟩:=bS_ e;obtain⟨k,h3,e⟩:=bS_ e;cases e;obtain⟨_,_,_,x,y,_,_,r0,_,_,_,_,hp,hw⟩:=E3 h1;obtain⟨k',rfl⟩:=hg _ _ _ hp;cases hw;cases h2;cases h3;refine ml (λ_ _ _ _ z=>z) ⟨F,B,ad,as,_,_,R,h1,λv T' ad' H' R' rv g'=>?_⟩;cases rv with
 |lf rp=>
  cases rp;exact⟨_,rfl,q ad' H' R' g'⟩)
def D8(ha:AT X kd a ta):AT X kd (.UnaryOp .Not a pos) (wF ta):=by with_unfolding_all exact(Ey (D2 ha) λσ H Q h=>by
 obtain⟨F,B,ad,as,bb,as',R,e,q⟩:=h;obtain⟨⟨p,as1⟩,h1,e⟩:=bS_<|e;cases e;exact⟨F,B,ad,as,p,_,R,h1,λad' H' R' g=>q ad' H' R' g⟩)
def MO(ha:AT X kd a ta):AW X kd (.BoolOp .And [a] pos) ta:=by with_unfolding_all exact(IP ha)
def BY(ha:AT X kd a ta):AW X kd (.BoolOp .Or [a] pos) ta:=by with_unfolding_all exact(Do ha)
def DS(ha:AT X kd a ta)(hb:AW X kd (.BoolOp .And (b::rest) pos) tb):AW X kd (.BoolOp .And (a::b::rest) pos) (T5 ta tb):=by with_unfolding_all exact(HS (D_ ha hb) λσ H Q h=>by
 obtain⟨F,B,ad,as,bb,as',R,e,q⟩:=h;obtain⟨⟨p,as1⟩,h1,e⟩:=bS_<|e;refine⟨F,B,ad,as,p,as1,R,h1,λad' H' R' g=>?_⟩;cases p with
 |true=>exact⟨F,B,ad',as1,bb,as',R',e,λad2 H2 R2 g2=>q ad2 H2 R2<|g.trans g2⟩
 |false=>cases e;exact q ad' H' R' g)
def pC(ha:AT X kd a ta)(hb:AW X kd (.BoolOp .Or (b::rest) pos) tb):AW X kd (.BoolOp .Or (a::b::rest) pos) (UP ta tb):=by with_unfolding_all exact(HS (qi ha hb) λσ H Q h=>by
 obtain⟨F,B,ad,as,bb,as',R,e,q⟩:=h;obtain⟨⟨p,as1⟩,h1,e⟩:=bS_<|e;refine⟨F,B,ad,as,p,as1,R,h1,λad' H' R' g=>?_⟩;cases p with
 |false=>exact⟨F,B,ad',as1,bb,as',R',e,λad2 H2 R2 g2=>q ad2 H2 R2<|g.trans g2⟩
 |true=>cases e;exact q ad' H' R' g)
def AW.at_(h:AW X kd e ta):AT X kd e ta:=by with_unfolding_all exact(PW.pt h)
def nK(hc:AT X kd c ta)(ha:AE X kd a fa)(hb:AE X kd b fb):AE X kd (.IfExp c a b pos) (FD ta fa fb):=by with_unfolding_all exact(yk (B9 hc ha hb) λσ H Q h=>by
 obtain⟨F,B,ad,as,r,as',R,e,q⟩:=h;obtain⟨⟨p,as1⟩,h1,e⟩:=bS_<|e;refine⟨F,B,ad,as,p,as1,R,h1,λad' H' R' g=>?_⟩;cases p with
 |true=>exact⟨F,B,ad',as1,r,as',R',e,λv T2 ad2 H2 R2 rv g2=>q v T2 ad2 H2 R2 rv<|g.trans g2⟩
 |false=>exact⟨F,B,ad',as1,r,as',R',e,λv T2 ad2 H2 R2 rv g2=>q v T2 ad2 H2 R2 rv<|g.trans g2⟩)
def Aa{K ad st c}(h:xj K kd F B T ad σ H v (.ow<|.lf st<|.bl c)):T=[]/\v = .bl c:=by
 cases h with
 |lf rp=>cases rp;exact ⋯
def DR(ha:AE X kd a fa):AE X kd (.BoolOp op [a] pos) fa:=by with_unfolding_all exact ⋯
def DI(ha:AE X kd a fa)(hb:AE X kd (.BoolOp .And (b::rest) pos) fb):AE X kd (.BoolOp .And (a::b::rest) pos) (Tg fa fb):=by with_unfolding_all exact(yk (uq ha hb) λσ H Q h=>by
 obtain⟨F,B,ad,as,r,as',R,e,q⟩:=h;obtain⟨⟨p,as1⟩,h1,e⟩:=bS_<|e;refine⟨F,B,ad,as,p,as1,R,h1,λv T' ad' H' R' rv g=>?_⟩;obtain⟨k,e1,e⟩:=bS_ e;obtain⟨st,rfl⟩:=Hn e1;obtain⟨rfl,rfl⟩:=Aa rv;cases k with
 |true=>exact⟨true,rfl,⟨F,B,ad',as1,r,as',R',e,λv T2 ad2 H2 R2 rv g2=>q v T2 ad2 H2 R2 rv<|g.trans g2⟩⟩
 |false=>
  cases e;exact⟨false,rfl,q _ [] ad' H' R' (.lf<|.bl false) g⟩)
def sG(ha:AE X kd a fa):AE X kd (.UnaryOp .Not a pos) (BN fa):=by with_unfolding_all exact(yk (si ha) λσ H Q h=>by
 obtain⟨F,B,ad,as,r,as',R,e,q⟩:=h;obtain⟨⟨p,as1⟩,h1,e⟩:=bS_<|e;refine⟨F,B,ad,as,p,as1,R,h1,λv T' ad' H' R' rv g=>?_⟩;obtain⟨k,e1,e⟩:=bS_ e;obtain⟨st,rfl⟩:=Hn e1;obtain⟨rfl,rfl⟩:=Aa rv;cases e;exact⟨k,rfl,q _ [] ad' H' R' (.lf<|.bl _) g⟩)
def oA(ho:jr X kd (unaryOp op) g)(ha:AE X kd a fa):AE X kd (.UnaryOp op a pos) (f1 fa g):=by with_unfolding_all exact(yk (pK ho ha) λσ H Q h=>by
 obtain⟨F,B,ad,as,r,as',R,e,q⟩:=h;obtain⟨_,h1,e⟩:=bS_<|e;obtain⟨⟨x,lv⟩,h2,e⟩:=bS_ e;obtain⟨z,h3,e⟩:=bS_ e;obtain⟨y,h4,e⟩:=bS_ e;cases e;refine wZ R h1 λv ad1 H1 R1 rv1 g1=>⟨_,x,z,R1.tr _,xj.vw R1 rv1 h2,h3,ZT R1 h4 λw T' H' R' rv' g'=>q w T' ad1 H' R' rv'<|g1.trans g'⟩)
end
abbrev AF:=AS->Option (List RV×AS)
inductive RVs(K:zzA)(kd:KD)(F B:Addr->Prop)(ad:Ad)(σ:St)(H:Hp):List V->List RV->Prop
 |nil:RVs K kd F B ad σ H [] []
 |cons {v:V}{r:RV}{vs:List V}{rs:List RV}:xj K kd F B [] ad σ H v r->RVs K kd F B ad σ H vs rs->RVs K kd F B ad σ H (v::vs) (r::rs)
def Iq(K:zzA)(kd:KD)(f:AF):TA:=λσ H Q=>∃F B ad as rs as',Rel K kd F B [] ad as σ H/\f as=some (rs,as')/\
 ∀vs ad' H',Rel K kd F B [] ad' as' σ H'->RVs K kd F B ad' σ H' vs rs->Grow (Gw [] ad) H (Gw [] ad') H'->Q vs H'
@[irreducible] def AA(X:Cx)(kd:KD)(es:List Expr)(f:AF):Prop:=PA X es<|Iq X.K kd f
noncomputable def aN:AF:=λas=>some ([],as)
noncomputable def aC(fa:EF)(fr:AF):AF:=λas=>(fa as).bind λp=>(fr p.2).bind λq=>some (p.1.frz::q.1,q.2)
def GO(h:PA X e t)(k:∀σ H Q,t' σ H Q->t σ H Q):PA X e t':=λpos pins s σ H Q I q=>h pos pins s σ H Q I<|k σ H Q q
abbrev DF:=AS->Option (List O×AS)
def jG(K:zzA)(kd:KD)(f:DF):TA:=λσ H Q=>∃F B ad as os as',Rel K kd F B [] ad as σ H/\f as=some (os,as')/\
 ∀vs T' ad' H',Rel K kd F B T' ad' as' σ H'->vB K kd F B (Gw T' ad') H' vs os T'->Grow (Gw [] ad) H (Gw T' ad') H'->Q vs H'
@[irreducible] def AD(X:Cx)(kd:KD)(es:List Expr)(f:DF):Prop:=PA X es<|jG X.K kd f
noncomputable def dN:DF:=λas=>some ([],as)
def dC(fa:EF)(fr:DF):DF:=λas=>(fa as).bind λp=>(C4 p.2 p.1).bind λx=>(fr x.2).bind λq=>some (x.1::q.1,q.2)
def views(as:AS):List RV->Option (List D×Option Bool)
 | []=>some ([],some true)
 |r::rs=>(r.view as).bind λx=>(views as rs).bind λy=>some (x.1::y.1,meet x.2 y.2)
def fP(fr:AF)(g:List D->Option R0):EF:=λas=>(fr as).bind λp=>(views p.2 p.1).bind λx=>(g x.1).bind λr=>(wrap x.2 r).bind λz=>some (z,p.2)
def qr(as:AS):RV->Option (Bool×D)
 | .ow o=>some (zB o.toD||o.str,o.toD)
 | .bo i=>match as[i]? with
  |some (some o)=>some (false,o.toD)
  |_=>none
def Z7(as:AS):List RV->Option (List<|Bool×D)
 | []=>some []
 |r::rs=>(qr as r).bind λx=>(Z7 as rs).bind λy=>some (x::y)
def zd(fr:AF)(g:List (Bool×D)->Option O):EF:=λas=>(fr as).bind λp=>(Z7 p.2 p.1).bind λx=>(g x).bind λo=>some (.ow o,p.2)
def kP(K:zzA)(kd:KD)(F:Addr->Prop)(H:Hp)(Q:VK)(o:O):Prop:=
 ∀v T H',T.Nodup->(∀a ∈ T,H a=none)->(∀b u,H b=some u->H' b=some u)->(∀a ∈ T,H' a≠none)->Ro (λ_ v d=>Rp K kd (XE F (· ∈ T)) H' v d) (λa=>¬XE F (· ∈ T) a) H' v o T->Q v H'
inductive RpA(K:zzA)(kd:KD)(F:Addr->Prop)(H:Hp):List V->List (Bool×D)->Prop
 |nil:RpA K kd F H [] []
 |cons {v:V}{st:Bool}{d:D}{vs:List V}{ds:List (Bool×D)}:Rp K kd (λa=>st=true/\F a) H v d->RpA K kd F H vs ds->RpA K kd F H (v::vs) ((st,d)::ds)
def Qc(K:zzA)(kd:KD)(g:List (Bool×D)->Option O):Sp:=λvs H Q _=>∃F ds o,(∀a,F a->H a≠none)/\RpA K kd F H vs ds/\g ds=some o/\kP K kd F H Q o
def Wy(os:List O):O:=if os.all O.isLf=true then .lf (O.strs os) (.tup<|O.toDs os)else .nd .tp os
def yf(fr:DF):EF:=λas=>(fr as).bind λp=>if p.1.length<=sizeLine then some (.ow<|Wy p.1,p.2)else none
noncomputable def zZ(fr:DF):EF:=λas=>(fr as).bind λp=>if p.1.length<=sizeLine then some (.ow<|.nd .ls p.1,p.2)else none
section
variable{X:Cx}{kd:KD}{a b c:Expr}{fa fb:EF}{ta tb:TF}{pos:Pos}{es rest:List Expr}{fr:AF}{fd:DF}
theorem RpA.length{K}(h:RpA K kd F H vs ds):vs.length=ds.length:=by
 induction h with
 |nil=>rfl
 |cons _ _ ih=>exact congrArg _ ih
def DO:AA X kd [] aN:=by with_unfolding_all exact(GO RZ λσ H Q h=>by
 obtain⟨F,B,ad,as,rs,as',R,e,q⟩:=h;cases e;exact q [] ad H R .nil Grow.refl)
def C_(ha:AE X kd a fa)(hr:AA X kd es fr)(hs:starEach (a::es) X.env=(false,eval a X.env)::starEach es X.env):AA X kd (a::es) (aC fa fr):=by with_unfolding_all exact(GO (Wf ha hr hs) λσ H Q h=>by
 obtain⟨F,B,ad,as,rs,as',R,e,q⟩:=h;obtain⟨⟨p,as1⟩,h1,e⟩:=bS_<|e;obtain⟨⟨z,as2⟩,h2,e⟩:=bS_ e;cases e;refine wZ R h1 λv ad1 H1 R1 rv1 g1=>⟨F,B,ad1,as1,z,_,R1,h2,λvs ad2 H2 R2 rv2 g2=>?_⟩;exact q _ ad2 H2 R2 (.cons (rv1.grow g2) rv2)<|g1.trans g2)
def u6:AD X kd [] dN:=by with_unfolding_all exact(GO RZ λσ H Q h=>by
 obtain⟨F,B,ad,as,rs,as',R,e,q⟩:=h;cases e;exact q [] [] ad H R .nil Grow.refl)
def IU(ha:AE X kd a fa)(hr:AD X kd es fd)(hs:starEach (a::es) X.env=(false,eval a X.env)::starEach es X.env):AD X kd (a::es) (dC fa fd):=by with_unfolding_all exact(GO (Wf ha hr hs) λσ H Q h=>by
 obtain⟨F,B,ad,as,rs,as',R,e,q⟩:=h;obtain⟨⟨p,as1⟩,h1,e⟩:=bS_<|e;obtain⟨⟨o,as2⟩,h2,e⟩:=bS_ e;obtain⟨⟨os,as3⟩,h3,e⟩:=bS_ e;cases e;refine⟨F,B,ad,as,p,as1,R,h1,λv T1 ad1 H1 R1 rv1 g1=>?_⟩;obtain⟨ad2,R2,ro2,le2⟩:=Rk R1 rv1 h2;refine⟨F,_,ad2,as2,os,_,R2.hide,h3,λvs T3 ad3 H3 R3 ro3 g3=>?_⟩;have kT:=λa m u e=>g3.keep a u e λz=>z.elim ⋯ λ⟨i,y⟩=>R2.dis i a y m;have r1:=wC.lv Qf<|wC.grow g3 kT<|wC.lv Fc ro2;have r3:=vB.lv Qf ro3;refine q _ _ ad3 H3 (R3.unhide R2.tnd λa m z=>(R2.btr a z).2.2<|.inl m) (.cons r1 r3)<|(g1.trans<|Grow.less le2).trans ⟨λb u e n=>g3.keep b u e λz=>n<|Gw.drop b z,λb z=>?_⟩
 rcases z with z|z
 . rcases zzM.mp z with z|z
   . exact .inl<|.inl z
   . exact(g3.own b<|.inl z).elim (λy=>.inl<|Gw.drop b y) .inr
 . exact(g3.own b<|.inr z).elim (λy=>.inl<|Gw.drop b y) .inr)
def DW(h:AD X kd es fd):AE X kd (.Tuple es x1 pos) (yf fd):=by with_unfolding_all exact(yk (Dh h) λσ H Q h=>by
 obtain⟨F,B,ad,as,r,as',R,e,q⟩:=h;obtain⟨⟨os,as1⟩,h1,e⟩:=bS_<|e;obtain⟨hz,e⟩:=zr e;cases e;refine⟨F,B,ad,as,os,_,R,h1,λvs T1 ad1 H1 R1 ro1 g1=>⟨by rw[ro1.length];exact hz,λp hp=>?_⟩⟩;have k:∀b o,H1 b=some o->upd H1 p (.tup vs) b=some o:=λb o hb=>by rwa [zJ<|zV hb hp]
 obtain⟨R2,g2⟩:=R1.more k;have ro2:=vB.grow g2 (λa _ u h=>k a u h) ro1;have np:=λst z=>R1.trk st p z hp;refine q _ T1 ad1 _ R2 ?_<|g1.trans g2;unfold Wy
 by_cases hl:os.all O.isLf=true
 . rw[if_pos hl];have:=Ha ro2 hl;subst this;exact .lf<|.tup (np _) (.inl yg)<|Qq ro2 hl
 . rw[if_neg hl];exact .tp (np _) yg ro2)
def tH(h:AD X kd es fd):AE X kd (.List es pos) (zZ fd):=by with_unfolding_all exact(yk (tY h) λσ H Q h=>by
 obtain⟨F,B,ad,as,r,as',R,e,q⟩:=h;obtain⟨⟨os,as1⟩,h1,e⟩:=bS_<|e;obtain⟨hz,e⟩:=zr e;cases e;refine⟨F,B,ad,as,os,_,R,h1,λvs T1 ad1 H1 R1 ro1 g1=>⟨by rw[ro1.length];exact hz,λp hp=>?_⟩⟩;have k:∀b o,H1 b=some o->upd H1 p (.lst vs) b=some o:=λb o hb=>by rwa [zJ<|zV hb hp]
 obtain⟨R2,g2⟩:=R1.add (N:=[p]) ⋯ (λa m=>by rwa [zzR.mp m]) k (λa m=>by rw[zzR.mp m,yg];simp);exact q _ _ ad1 _ R2 (.ls yg<|vB.grow g2 (λa _ u h=>k a u h) ro1)<|g1.trans g2)
theorem VwL.less{K O O'}(g:∀a,O' a->O a)(h:VwL K kd O H vs ds):VwL K kd O' H vs ds:=by
 induction h with
 |nil=>exact .nil
 |cons h _ ih=>exact .cons (h.less g) ih
def Vg{K ad}(R:Rel K kd F B [] ad as σ H)(h:RVs K kd F B ad σ H vs rs)(e:views as rs=some (ds,lv)):VwL K kd (Q1 F B (Gw [] ad) lv) H vs ds:=by
 induction h generalizing ds lv with
 |nil=>cases e;exact .nil
 |cons h t ih=>
  obtain⟨_,h1,e⟩:=bS_<|e;obtain⟨_,h2,e⟩:=bS_ e;cases e;exact .cons ((xj.vw R h h1).less Q1.meet1)<|(ih h2).less Q1.meet2
def j0{R':List V->Hp->VK->Prop}(hr:∀vs H Q,(∃O ds r,(∀a,O a->H a≠none)/\VwL X.K kd O H vs ds/\g ds=some r/\RQ X.K kd O H Q r)->R' vs H Q)
 (h:al X.K kd (fP fr g) σ H Q):Iq X.K kd fr σ H λvs H1=>R' vs H1 Q:=by
 obtain⟨F,B,ad,as,r,as',R,e,q⟩:=h;obtain⟨⟨p,as1⟩,h1,e⟩:=bS_<|e;obtain⟨⟨ds,lv⟩,h2,e⟩:=bS_ e;obtain⟨z,h3,e⟩:=bS_ e;obtain⟨y,h4,e⟩:=bS_ e;cases e;exact⟨F,B,ad,as,p,_,R,h1,λvs ad1 H1 R1 rv1 g1=>hr _ _ _ ⟨_,ds,z,R1.tr _,Vg R1 rv1 h2,h3,ZT R1 h4 λw T' H' R' rv' g'=>q w T' ad1 H' R' rv'<|g1.trans g'⟩⟩
def U3{K ad}(R:Rel K kd F B [] ad as σ H)(h:RVs K kd F B ad σ H vs rs)(e:Z7 as rs=some ds):RpA K kd (Lv F B (Gw [] ad) true) H vs ds:=by
 induction h generalizing ds with
 |nil=>cases e;exact .nil
 |cons h t ih=>
  rename_i v r vs rs;obtain⟨_,h1,e⟩:=bS_<|e;obtain⟨ds,h2,e⟩:=bS_ e;cases e;refine .cons ?_<|ih h2;cases r with
  |ow o=>
   cases h1;cases hf:zB o.toD with
   |true=>exact(Qr h).flat hf
   |false=>
    refine(Qg h).less λa z=>?_;have zs:o.str=true:=z.1;rw[zs];exact z.2
  |bo i=>
   have e:(match as[i]? with|some (some o)=>some _|_=>none)=some _:=h1;cases k:as[i]? with
   |none=>rw[k]at e;cases e
   |some s=>
    cases s with
    |none=>rw[k]at e;cases e
    |some o=>
     rw[k]at e;cases e;obtain⟨w,hw,ro⟩:=R.sl i _ k;rw[h.2]at hw;cases hw;exact(Qr ro).less λa z=>nomatch z.1
def Eb{K ad}(R:Rel K kd F B [] ad as σ H)(q:∀v T' H',Rel K kd F B T' ad as σ H'->xj K kd F B T' ad σ H' v (.ow o)->Grow (Gw [] ad) H (Gw T' ad) H'->Q v H'):
 kP K kd (Lv F B (Gw [] ad) true) H Q o:=λv T H' hn hl k h1 ro=>by
 obtain⟨R',g⟩:=R.news hn hl k h1;have le:∀st a,Lv F B (Gw T ad) st a->XE (Lv F B (Gw [] ad) true) _ a:=λst a z=>by
  rcases z with(z|z)|z|z
  . exact .inl<|.inl<|.inl ⟨rfl,z.2⟩
  . exact .inl<|.inl<|.inr z
  . exact .inr z
  . exact .inl<|.inr<|.inr z
 exact q v T H' R' (Ro.mono (λst v d r=>r.less<|le st) (λa vs n e=>⟨λz=>n<|le true a z,e⟩) (λ_ _ _ e=>e) ro) g
def ud(h:al X.K kd (zd fr g) σ H Q):Oh (Qc X.K kd g) [] E (Iq X.K kd fr) σ H Q:=by
 obtain⟨F,B,ad,as,r,as',R,e,q⟩:=h;obtain⟨⟨p,as1⟩,h1,e⟩:=bS_<|e;obtain⟨ds,h2,e⟩:=bS_ e;obtain⟨o,h3,e⟩:=bS_ e;cases e;refine⟨F,B,ad,as,p,_,R,h1,λvs ad1 H1 R1 rv1 g1=>?_⟩;show Qc X.K kd g _ H1 Q E;rw[zyE];exact⟨_,ds,o,R1.trk true,U3 R1 rv1 h2,h3,Eb R1 λw T' H' R' rv' g'=>q w T' ad1 H' R' rv'<|g1.trans g'⟩
end
inductive Out where
 |nx (as:AS)|rt (o:O)|bk (as:AS)|ct (as:AS)
abbrev SF:=AS->Option Out
structure RetOk(K:zzA)(kd:KD)(F:Addr->Prop)(T:List Addr)(H:Hp)(v:V)(o:O):Prop where
 nd:T.Nodup
 tr:∀a ∈ T,H a≠none
 ro:Ro (λ_ v d=>Rp K kd (XE F (· ∈ T)) H v d) (λa=>¬XE F (· ∈ T) a) H v o T
def E7(K:zzA)(kd:KD)(F B:Addr->Prop)(ad:Ad)(H:Hp)(D:Ends):Out->Prop
 | .nx as'=>∀σ' ad' H',Rel K kd F B [] ad' as' σ' H'->Grow (Gw [] ad) H (Gw [] ad') H'->D.nx σ' H'
 | .bk as'=>∀σ' ad' H',Rel K kd F B [] ad' as' σ' H'->Grow (Gw [] ad) H (Gw [] ad') H'->D.bk σ' H'
 | .ct as'=>∀σ' ad' H',Rel K kd F B [] ad' as' σ' H'->Grow (Gw [] ad) H (Gw [] ad') H'->D.ct σ' H'
 | .rt o=>∀v T H',RetOk K kd F T H' v o->Grow (Gw [] ad) H (· ∈ T) H'->D.rt v H'
def be(K:zzA)(kd:KD)(f:SF):TS:=λD σ H=>∃F B ad as o,Rel K kd F B [] ad as σ H/\f as=some o/\E7 K kd F B ad H D o
@[irreducible] def Lw(X:Cx)(kd:KD)(st:Stmt)(f:SF):Prop:=PS X st<|be X.K kd f
@[irreducible] def E5(X:Cx)(kd:KD)(st:List Stmt)(f:SF):Prop:=Kt X st<|be X.K kd f
def xy(h:PS X e t)(k:∀D σ H,t' D σ H->t D σ H):PS X e t':=λa s σ H D I q=>h a s σ H D I<|k D σ H q
def Zq(h:Kt X e t)(k:∀D σ H,t' D σ H->t D σ H):Kt X e t':=λa s σ H D I q=>h a s σ H D I<|k D σ H q
def E7.pre{K ad ad1 D}(g:Grow (Gw [] ad) H (Gw [] ad1) H1)(h:E7 K kd F B ad H D o):E7 K kd F B ad1 H1 D o:=by
 cases o with
 |nx as=>exact λσ' ad' H' R g'=>h σ' ad' H' R (g.trans g')
 |bk as=>exact λσ' ad' H' R g'=>h σ' ad' H' R (g.trans g')
 |ct as=>exact λσ' ad' H' R g'=>h σ' ad' H' R (g.trans g')
 |rt r=>exact λv T H' R g'=>h v T H' R<|g.trans g'
noncomputable def xh:SF:=λas=>some<|.nx as
noncomputable def zh(f g:SF):SF:=λas=>(f as).bind λo=>match o with | .nx as'=>g as'|o=>some o
noncomputable def xk(c:TF)(f g:SF):SF:=λas=>(c as).bind λp=>if p.1=true then f p.2 else g p.2
noncomputable def yc(f:EF):SF:=λas=>(f as).bind λp=>some<|.nx p.2
noncomputable def O4(as:AS):RV->Option O
 | .ow o=>if o.str=true then some o else none
 | .bo i=>match as[i]? with
  |some (some o)=>if o.str=true then some o else none
  |_=>none
def zy(f:EF):SF:=λas=>(f as).bind λp=>(O4 p.2 p.1).bind λo=>some<|.rt o
def zm(z:Bool)(i:Nat)(f:EF):SF:=λas=>(f as).bind λp=>(C4 p.2 (if z=true then p.1.frz else p.1)).bind λx=>if i<x.2.length then some (.nx<|x.2.set i<|some x.1)else none
def Ro.strong(h:Ro L N H v o fp)(e:o.str=true):Ro (λst v d=>st=true/\L st v d) N H v o fp:=
 Ro.rec (motive_2:=λvs os fp _=>O.strs os=true->RoL _ N H vs os fp)
  (λh e=>.lf ⟨e,h⟩) (λh _ r e=>.ls h<|r e) (λh l _ r e=>.dc h l<|r e) (λc h l _ r e=>.ob ⟨rfl,c⟩ h l<|r e) (λn h _ r e=>.tp n h<|r e) (λ_=>.nil) (λ_ _ h r e=>.cons (h ((zyC _ _).mp e).1)<|r ((zyC _ _).mp e).2) h e
section
variable{K:zzA}{kd:KD}{F B:Addr->Prop}{T:List Addr}{ad ad1:Ad}{as as1:AS}{σ:St}{H H1:Hp}{v:V}{r:RV}{o:O}
def K6(R:Rel K kd F B T ad as σ H)(hn:T'.Nodup)(hs:∀a ∈ T',Gw T ad a)(h:wC K kd F B (Gw T ad) H v o T')(e:o.str=true):RetOk K kd F T' H v o:=by
 have b:∀a,XE F _ a->Lv F B _ true a:=λa z=>z.elim (λy=>.inl<|.inl ⟨rfl,y⟩) λy=>.inr<|hs a y;exact⟨hn,λa m=>(R.gtr a<|hs a m).1,Ro.mono (λc v d r=>by obtain⟨rfl,r⟩:=r;exact r.less b) (λa f n e=>⟨λz=>n<|b a z,e⟩) (λ_ _ _ e=>e)<|Ro.strong h e⟩
def Rel.ret(R:Rel K kd F B T ad as σ H)(hr:xj K kd F B T ad σ H v r)(e:O4 as r=some o):∃T',RetOk K kd F T' H v o/\∀b ∈ T',Gw T ad b:=by
 cases r with
 |ow g=>
  obtain⟨c,rfl⟩:=zr e;exact⟨T,K6 R R.tnd (λa m=>.inl m) hr c,λa m=>.inl m⟩
 |bo i=>
  have e:(match as[i]? with|some (some o)=>if o.str=true then some o else none|_=>none)=some o:=e;cases k:as[i]? with
  |none=>rw[k]at e;cases e
  |some s=>
   cases s with
   |none=>rw[k]at e;cases e
   |some h=>
    rw[k]at e;obtain⟨c,rfl⟩:=zr e;obtain⟨w,d,f⟩:=R.sl i _ k;rw[hr.2]at d;cases d;exact⟨ad i,K6 R (R.nd i) (λa m=>.inr ⟨i,m⟩) f c,λa m=>.inr ⟨i,m⟩⟩
end
section
variable{X:Cx}{kd:KD}{st:Stmt}{sts rest:List Stmt}{a b c e:Expr}{fa fb:EF}{ta:TF}{pos:Pos}{f g:SF}
def Jt:E5 X kd [] xh:=by with_unfolding_all exact(Zq U8 λD σ H h=>by
 obtain⟨F,B,a,as,o,R,e,q⟩:=h;cases e;exact q σ a H R Grow.refl)
def Nj(h1:Lw X kd st f)(h2:E5 X kd rest g):E5 X kd (st::rest) (zh f g):=by with_unfolding_all exact(Zq (ZK h1 h2) λD σ H h=>by
 obtain⟨F,B,ad,as,o,R,e,q⟩:=h;obtain⟨o1,e1,e⟩:=bS_<|e;refine⟨F,B,ad,as,o1,R,e1, ?_⟩;cases o1 with
 |nx as1=>exact λσ' ad' H' R' g'=>⟨F,B,ad',as1,o,R',e,q.pre g'⟩
 |bk as1=>cases e;exact q
 |ct as1=>cases e;exact q
 |rt r=>cases e;exact q)
def CN(h1:Lw X kd st f):E5 X kd [st] f:=by with_unfolding_all exact(Vn h1)
noncomputable def IZ:SF:=λ_=>none
def pJ:Lw X kd st IZ:=by with_unfolding_all exact(λa s σ H D I h=>by obtain⟨F,B,b,as,o,R,e,q⟩:=h;cases e)
def qt(hc:AT X kd c ta)(ha:E5 X kd sts f)(hb:E5 X kd rest g):Lw X kd (.If c sts rest pos) (xk ta f g):=by with_unfolding_all exact(xy (EA hc ha hb) λD σ H h=>by
 obtain⟨F,B,i,as,o,R,e,q⟩:=h;obtain⟨⟨p,a⟩,j,e⟩:=bS_<|e;refine⟨F,B,i,as,p,a,R,j,λb k d g=>?_⟩;cases p with
 |true=>exact⟨F,B,b,a,o,d,e,q.pre g⟩
 |false=>exact⟨F,B,b,a,o,d,e,q.pre g⟩)
def Cp(he:AE X kd e fa)(hs:swapsWith e none pos.line X.env=pure false):Lw X kd (.Expr e pos) (yc fa):=by with_unfolding_all exact(xy (V5 he hs) λD σ H h=>by
 obtain⟨F,B,c,as,o,R,e,q⟩:=h;obtain⟨⟨p,a⟩,d,e⟩:=bS_<|e;cases e;exact⟨F,B,c,as,p,a,R,d,λv j b f i k g=>q σ b f i.drop<|g.trans<|Grow.less Gw.drop⟩)
def u_(he:AE X kd e fa):Lw X kd (.Return (some e) pos) (zy fa):=by with_unfolding_all exact(xy (Og he) λD σ H h=>by
 obtain⟨F,B,b,as,o,R,e,q⟩:=h;obtain⟨⟨p,a⟩,c,e⟩:=bS_<|e;obtain⟨r,d,e⟩:=bS_ e;cases e;refine⟨F,B,b,as,p,a,R,c,λv s f i j k g=>?_⟩;obtain⟨l,m,n⟩:=j.ret k d;exact q v l i m<|g.trans<|Grow.less n)
def Mf{K ad}{i:Nat}(R:Rel K kd F B T ad as σ H)(rv:xj K kd F B T ad σ H v r)
 (h2:C4 as (if z=true then r.frz else r)=some (o,as2)) (hl:i<as2.length):∃ad',Rel K kd F B [] ad' (as2.set i<|some o) (σ.set i<|some v) H/\∀a,Gw [] ad' a->Gw T ad a:=by
 cases z with
 |true=>
  obtain⟨b,c,d,e⟩:=Rk R.drop (xj.drop R rv) h2;exact⟨_,c.put hl d,λa y=>Gw.drop a<|e a<|Yy a y⟩
 |false=>
  obtain⟨b,c,d,e⟩:=Rk R rv h2;exact⟨_,c.put hl d,λa y=>e a<|Yy a y⟩
def HF(hN:X.N.Nodup)(hi:X.N[i]? = some x)(hx:Loc X.env.scope x)(he:AE X kd e fa)(hs:swapsWith e (some<|.Name x pos') pos.line X.env=pure false)(hf:X.fn x=true\/X.env.scope.names.lookup x=some .local):
 Lw X kd (.Assign [.Name x pos'] e pos) (zm z i fa):=by with_unfolding_all exact(xy (SY hN hi hx he hs hf) λD σ H h=>by
 obtain⟨F,B,c,as,o,R,e,q⟩:=h;obtain⟨⟨p,a⟩,d,e⟩:=bS_<|e;obtain⟨_,j,e⟩:=bS_ e;obtain⟨k,e⟩:=zr e;cases e;refine⟨F,B,c,as,p,a,R,d,λv t l m n r g=>?_⟩;obtain⟨b,R2,s⟩:=Mf n r j k;exact q _ b m R2<|g.trans<|Grow.less s)
end
noncomputable def vU(n:Nat)(ds:List (Bool×D)):AS:=ds.map (λx=>some<|.lf x.1 x.2)++List.replicate (n-ds.length) none
noncomputable def mS:Out->Option O
 | .nx _=>some<|.lf true .non
 | .rt o=>some o
 |_=>none
def xY(n m:Nat)(f:SF)(ds:List (Bool×D)):Option O:=if ds.length=m then(f<|vU n ds).bind mS else none
theorem RpA.get{K}:∀{vs:List V}{ds:List (Bool×D)}{i:Nat}{x:Bool×D},RpA K kd F H vs ds->ds[i]? = some x->∃v,vs[i]? = some v/\Rp K kd (λa=>x.1=true/\F a) H v x.2
 |_,_,_,_,.nil,e=>by simp at e
 |_,_,0,_,.cons h _,e=>by simp at e;subst e;exact⟨_,rfl,h⟩
 |_,_,i+1,_,.cons _ r,e=>by
  obtain⟨v,b,c⟩:=RpA.get r ⋯;exact⟨v,⋯,c⟩
def BG{K}(ht:∀a,F a->H a≠none)(rp:RpA K kd F H vs ds):
 Rel K kd F (λ_=>False) [] (λ_=>[]) (vU N.length ds) (L2.start N vs) H:=by
 have c:=rp.length;have f:∀a,¬Gw [] (λ_=>[]) a:=λa z=>z.elim ⋯ λ⟨_,y⟩=>nomatch y;refine⟨by unfold vU L2.start;simp[c],λ_ _=>rfl,λ_=>zyJ,(λ_ _ _ z=>nomatch z),zyJ,(λ_ _ _ z=>nomatch z),ht,⋯,λa z=>(f a z).elim,λi s e=>?_⟩;unfold vU at e;unfold L2.start
 by_cases g:i<ds.length
 . rw[zyP (by rwa [zzB]),zzI]at e;obtain⟨d,h,b⟩:=zzX.mp e;subst b;obtain⟨v,j,k⟩:=rp.get h;rw[zyP (by rwa [zzB,c]),zzI,j];refine⟨v,rfl,.lf<|k.less λa z=>?_⟩
   rcases z with(z|z)|z
   . exact z
   . exact z.elim
   . exact(f a z).elim
 . rw[zyR<|by rw[zzB];exact q0D g]at e;have:=zyA e;have b:=(List.mem_replicate.mp this).2;subst b;rfl
section
variable{P:Program}{w:World}{K:zzA}{mg:Str->Option Value}{base:Heap}
def OP(q:kP K kd F H Q o)(ro:RetOk K kd F T H' v o)(g:Grow (Gw [] λ_=>[]) H (· ∈ T) H'):Q v H':=by
 have c:∀a,¬Gw [] (λ_=>[]) a:=λa z=>z.elim ⋯ λ⟨_,y⟩=>nomatch y;exact q v T H' ro.nd (λa m=>(g.own a m).resolve_left<|c a) (λb u h=>g.keep b u h<|c b) ro.tr ro.ro
def Ht{st}{k:Nat}(Fn:Fun K x qual st f fd)(S:FnScope N ps (zH st))
 (hb:∀(cdv:Value) (A:Around) (outer:List Env) (s:Shared) (H:Hp) (E:XK),Room k (A.deeper<|envOfC qual (zH st) s.heap.objs.size f cdv)->E5 (QL ZP P w K mg base N qual (zH st) f cdv A outer s H E).nox kd (wH st) c):
 FnOk P w K mg base ZP (k+1) f fd ps (Qc K kd<|xY N.length ps.length c):=by
 with_unfolding_all (
 refine Fn.ok S (λvs H Q E h=>?_) λcdv A outer s H vs Q E hr h=>⟨_,hb cdv A outer s H E hr, ?_⟩
 . obtain⟨F,ds,r,_,rp,e,_⟩:=h;unfold xY at e
   by_cases hl:ds.length=ps.length
   . rw[rp.length,hl]
   . rw[if_neg hl]at e;cases e
 . obtain⟨F,ds,r,ht,rp,e,q⟩:=h;unfold xY at e
   by_cases hl:ds.length=ps.length
   . rw[if_pos hl]at e;obtain⟨o,e1,e⟩:=bS_ e;refine⟨F,λ_=>False,λ_=>[],vU N.length ds,o,BG ht rp,e1, ?_⟩;cases o with
     |nx as=>cases e;exact λσ' ad' H' R g=>OP q ⟨zyJ,⋯,.lf .non⟩ (g.trans<|Grow.less ⋯)
     |rt o=>cases e;exact λv T H' ro g=>OP q ro g
     |bk=>cases e
     |ct=>cases e
   . rw[if_neg hl]at e;cases e)
end
abbrev xi:=Bool×D
abbrev GF:=xi->AS->Option AS
abbrev Ao:=List xi->AS->Option AS
def kids(st:Bool)(ds:List D):List xi:=ds.map λd=>(zB d||st,d)
inductive RpI(K:zzA)(kd:KD)(F B G:Addr->Prop)(H:Hp):List V->List xi->Prop
 |nil:RpI K kd F B G H [] []
 |cons {v:V}{x:xi}{vs:List V}{ds:List xi}:Rp K kd (Lv F B G x.1) H v x.2->RpI K kd F B G H vs ds->RpI K kd F B G H (v::vs) (x::ds)
def mh(K:zzA)(kd:KD)(S:List Nat)(g:GF):TG:=λv σ H Q=>∃F B ad as x as',Rel K kd F B [] ad as σ H/\Rp K kd (Lv F B (Gw [] ad) x.1) H v x.2/\g x as=some as'/\
 ∀σ' ad' H',Rel K kd F B [] ad' as' σ' H'->Grow (Gw [] ad) H (Gw [] ad') H'->(∀j,j ∉ S->σ'[j]? = σ[j]?)->Q σ' H'
def kh(K:zzA)(kd:KD)(S:List Nat)(g:Ao):D6:=λvs σ H Q=>∃F B ad as ds as',Rel K kd F B [] ad as σ H/\RpI K kd F B (Gw [] ad) H vs ds/\g ds as=some as'/\
 ∀σ' ad' H',Rel K kd F B [] ad' as' σ' H'->Grow (Gw [] ad) H (Gw [] ad') H'->(∀j,j ∉ S->σ'[j]? = σ[j]?)->Q σ' H'
@[irreducible] def AG(X:Cx)(kd:KD)(tg:Expr)(S:List Nat)(g:GF):Prop:=PG X tg<|mh X.K kd S g
@[irreducible] def A4(X:Cx)(kd:KD)(tg:List Expr)(S:List Nat)(g:Ao):Prop:=Ai X tg<|kh X.K kd S g
def DT(h:PG X e t)(k:∀v σ H Q,t' v σ H Q->t v σ H Q):PG X e t':=λa s σ H v u Q I r q=>h a s σ H v u Q I r<|k v σ H Q q
def E_(h:Ai X e t)(k:∀v σ H Q,t' v σ H Q->t v σ H Q):Ai X e t':=λa s σ H v u Q I r q=>h a s σ H v u Q I r<|k v σ H Q q
noncomputable def gN(i:Nat):GF:=λx as=>if i<as.length then some (as.set i<|some<|.lf x.1 x.2)else none
noncomputable def Yu:Ao:=λds as=>match ds with | []=>some as|_::_=>none
noncomputable def yQ(g:GF)(gs:Ao):Ao:=λds as=>match ds with | []=>none|d::r=>(g d as).bind λas1=>gs r as1
def gT(n:Nat)(gs:Ao):GF:=λx as=>match x.2 with
 | .tup ds=>if ds.length=n then gs (kids x.1 ds) as else none
 | .lst ds=>if ds.length=n then gs (kids x.1 ds) as else none
 |_=>none
section
variable{K:zzA}{kd:KD}{F B G G':Addr->Prop}{H H':Hp}
theorem RpI.length(h:RpI K kd F B G H vs ds):vs.length=ds.length:=by
 induction h with
 |nil=>rfl
 |cons _ _ a=>exact congrArg _ a
theorem RpI.grow(g:Grow G H G' H')(h:RpI K kd F B G H vs ds):RpI K kd F B G' H' vs ds:=by
 induction h with
 |nil=>exact .nil
 |cons h _ a=>exact .cons (Rp.grow g h) a
def RpI.get{i:Nat}(h:RpI K kd F B G H vs ds)(e:ds[i]? = some x):∃v,vs[i]? = some v/\Rp K kd (Lv F B G x.1) H v x.2:=by
 induction h generalizing i with
 |nil=>simp at e
 |cons h r a=>
  cases i with
  |zero=>simp at e;subst e;exact⟨_,rfl,h⟩
  |succ i=>
   obtain⟨v,b,c⟩:=a ⋯;exact⟨v,⋯,c⟩
def Wg{st}(h:RpL K kd (Lv F B G st) H vs ds):RpI K kd F B G H vs (kids st ds):=
 RpL.ind (P:=λa b=>RpI K kd F B G H a<|kids st b) .nil (λ{v d a b} h _ c=>by
  refine .cons (x:=(zB d||st,d)) ?_ c;cases e:zB d with
  |true=>exact h.flat e
  |false=>exact h) h
end
section
variable{prog:Program}{w:World}{A:Around}{E:Value->Shared->Prop}{s:Shared}
theorem GL(hne:l≠it):∀(n i:Nat) (s:Shared) (Q:List Value->Shared->Prop),s.heap.IsListIter it l i->s.heap.IsList l items->i+n<=items.size->
 (∀h',h'.IsListIter it l (i+n)->Heap.SameBut it s.heap h'->Q ((items.toList.drop i).take n) {s with heap:=h'})->wpAny (model prog w) A (draw (.ref it) n) Q E s
 |0,i,s,Q,a,_,_,f=>zxE (by simpa using f s.heap a (Heap.SameBut.refl ..))
 |n+1,i,s,Q,a,h,j,f=>by
  have b:i<items.size:=⋯;refine zxD<|wpAny_pyNext_list_item a h (x:=items[i]) ⋯ λo c d=>?_;refine zxD<|zxI<|GL hne n _ _ _ c (h.extBut d.extBut hne) ⋯ λk e g=>zxE ?_;have m:items.toList.drop i=items[i]::items.toList.drop (i+1):=by simp[zyQ,b]
  have:=f k (by rwa [show i+_=i+1+n from q0c])<|d.trans g
  rwa [m]at this
def LW(hh:A.handled=none)(ht:s.heap.IsList l items)
 (hn:targets.length=items.size) (hstar:targets.findIdx? (·.1)=none)
 (h:∀h',Heap.ExtBut s.heap.objs.size s.heap h'->wpAny (model prog w) A (assignInOrder (targets.map (·.2)) items.toList) Q E {s with heap:=h'}):
 wpAny (model prog w) A (unpack (.ref l) targets) Q E s:=by
 unfold unpack;rw[hn,hstar];refine zxD<|zxI ?_;have a:l≠s.heap.objs.size:=by obtain⟨o,k,_⟩:=ht;exact zzQ<|zxG k
 refine zxD ?_;refine zxD<|wpAny_specialOf ht.typeIs PySem.F.slot_list_iter.lookup ?_;refine zxE ?_;refine zxD<|zxI<|wpAny_pyIter_list ht ?_;refine zxD<|zxI<|GL a items.size 0 _ _ ⟨_,zxH _ rfl,rfl,rfl⟩ (ht.push _) ⋯ λm c d=>?_;have f:List.take items.size (List.drop 0 items.toList)=items.toList:=List.take_of_length_le ⋯;rw[f];rw[if_neg ⋯];have g:=(ht.push _).extBut d.extBut a;refine zxD<|zxI<|wpAny_pyNext_list_end hh c g ⋯ λn i=>?_;exact zxE<|h n λb o j e=>i b o j<|d.extBut b o j<|zxF _ e
end
section
variable{X:Cx}{kd:KD}{a b c e tg iter:Expr}{es:List Expr}{body:List Stmt}{fa fb:EF}{pos:Pos}{g:GF}{gs:Ao}{f:SF}{ta:TF}{S S1 S2:List Nat}
def m3(K:zzA)(n:Nat)(t:D6):TG:=λv σ H Q=>∃a xs,v = .ref a/\Xo K H a xs/\xs.length=n/\t xs σ H Q
def OU(hc:X.calm=true)(h:Ai X es t)(hn:(assignEach es X.env).length=n)(hst:(assignEach es X.env).findIdx? (·.1)=none):PG X (.Tuple es k pos) (m3 X.K n t):=by
 intro c s σ H v u Q I r d;obtain⟨a,g,i,j,l,d⟩:=d;subst i;cases r;obtain⟨m,f,p,y⟩:=I.list j;refine zxD<|wpAny_standAt<|LW (I.ok.hd hc) p.isList (by simp[hn,<-l,f.length]) hst λq w=>?_;have x:=I.kept (t':=s.toks) λb o e=>w b o (zzQ<|zxG e) e;exact h c _ σ H g _ Q x ⋯ d
def FJ(hN:X.N.Nodup)(hi:X.N[i]? = some x)(hx:Loc X.env.scope x)(hf:X.fn x=true\/X.env.scope.names.lookup x=some .local):AG X kd (.Name x pos) [i] (gN i):=by with_unfolding_all exact(DT (Jg hN hi hx hf) λv σ H Q h=>by
 obtain⟨F,B,f,as,y,a,R,b,e,q⟩:=h;obtain⟨c,e⟩:=zr e;cases e;exact q _ _ H (R.put c<|.lf b) (Grow.less Yy) λj d=>zzY λz=>d<|by rw[z];simp)
def Lp:A4 X kd [] [] Yu:=by with_unfolding_all exact(E_ CT λd σ H Q h=>by
 obtain⟨F,B,a,as,f,b,R,c,e,q⟩:=h;cases c with
 |nil=>cases e;exact⟨rfl,q σ a H R Grow.refl λ_ _=>rfl⟩
 |cons=>cases e)
def VT(h1:AG X kd a S1 g)(h2:A4 X kd es S2 gs)(hs:(assignEach (a::es) X.env).map (·.2)=assign a X.env::(assignEach es X.env).map (·.2)):A4 X kd (a::es) (S1++S2) (yQ g gs):=by with_unfolding_all exact(E_ (HR h1 h2 hs) λx σ H Q h=>by
 obtain⟨F,B,l,as,y,c,R,m,e,q⟩:=h;cases m with
 |nil=>cases e
 |cons r n=>
  obtain⟨b,o,e⟩:=bS_<|e;refine⟨_,_,rfl,F,B,l,as,_,b,R,r,o,λA d C p i s=>?_⟩;exact⟨F,B,d,b,_,c,p,n.grow i,e,λt f u R2 v w=>q t f u R2 (i.trans v) λj k=>(w j λz=>k<|zzL _ z).trans<|s j λz=>k<|zzP _ z⟩)
def Mm{k n:Nat}(hc:X.calm=true)(h:A4 X kd es S gs)(hn:(assignEach es X.env).length=n)(hst:(assignEach es X.env).findIdx? (·.1)=none):AG X kd (.Tuple es k pos) S (gT n gs):=by
 with_unfolding_all (
 intro pins s σ H v u Q I r hw;obtain⟨F,B,ad,as,⟨st,d⟩,as',R,rp,e,q⟩:=hw;cases d with
 |tup ds=>
  have e:(if ds.length=n then gs _ as else none)=some as':=e
  by_cases hl:ds.length=n
  . rw[if_pos hl]at e;have go:∃a xs,v = .ref a/\Vd X.K H a xs/\RpL X.K kd (Lv F B (Gw [] ad) st) H xs ds:=by
     cases rp with
     |tup n h r=>exact⟨_,_,rfl,.inl h,r⟩
     |tupK a b c e f r=>exact⟨_,_,rfl,.inr ⟨_,_,_,a,b,c,e,f⟩,r⟩
    obtain⟨a,xs,rfl,hs,rl⟩:=go;exact DN hc h hn hst pins s σ H _ u Q I r ⟨a,xs,rfl,hs,by rw[rl.length,hl],F,B,ad,as,_,as',R,Wg rl,e,q⟩
  . rw[if_neg hl]at e;cases e
 |lst ds=>
  have e:(if ds.length=n then gs _ as else none)=some as':=e
  by_cases hl:ds.length=n
  . rw[if_pos hl]at e;cases rp with
    |lstK a b c r'=>exact OU hc h hn hst pins s σ H _ u Q I r ⟨_,_,rfl,.inr ⟨_,_,_,a,rfl,rfl,rfl,b,c⟩,by rw[r'.length,hl],F,B,ad,as,_,as',R,Wg r',e,q⟩
    |lst n h' r'=>exact OU hc h hn hst pins s σ H _ u Q I r ⟨_,_,rfl,.inl h',by rw[r'.length,hl],F,B,ad,as,_,as',R,Wg r',e,q⟩
  . rw[if_neg hl]at e;cases e
 |_=>cases e)
def W3(as:AS)(r:RV):Option (xi×AS):=(C4 as r.frz).bind λx=>match x.1 with | .lf st d=>some ((st,d),x.2)|_=>none
def Yh{K ad}(R:Rel K kd F B T ad as σ H)(h:xj K kd F B T ad σ H v r)(e:W3 as r=some (x,as')):
 ∃ad',Rel K kd F B [] ad' as' σ H/\Rp K kd (Lv F B (Gw [] ad') x.1) H v x.2/\∀a,Gw [] ad' a->Gw T ad a:=by
 obtain⟨⟨o,c⟩,f,e⟩:=bS_ e;obtain⟨b,g,i,j⟩:=Rk R.drop (xj.drop R h) f;cases o with
 |lf l d=>
  cases e;refine⟨b,g, ?_,λa y=>Gw.drop a<|j a y⟩;have:=Qg i;exact this
 |nd k m=>cases e
def YI(f:EF)(g:GF):SF:=λas=>(f as).bind λp=>(W3 p.2 p.1).bind λq=>(g q.1 q.2).bind λas'=>some<|.nx as'
def DQ(he:AE X kd e fa)(hg:AG X kd tg S g)(hs:swapsWithSole [tg] e pos.line X.env=pure false)(hw:swappedStores [tg] e X.env=pure none)(h1:(assignEach [tg] X.env).map (·.2)=[assign tg X.env]):
 Lw X kd (.Assign [tg] e pos) (YI fa g):=by with_unfolding_all exact(xy (Hx he hg hs hw h1) λD σ H h=>by
 obtain⟨F,B,ad,as,o,R,e,q⟩:=h;obtain⟨⟨p,as1⟩,h1,e⟩:=bS_<|e;obtain⟨⟨x,as2⟩,h2,e⟩:=bS_ e;obtain⟨as3,h3,e⟩:=bS_ e;cases e;refine⟨F,B,ad,as,p,as1,R,h1,λv T' ad' H' R' rv g1=>?_⟩;obtain⟨ad2,R2,rp,le⟩:=Yh R' rv h2;exact⟨F,B,ad2,as2,_,as3,R2,rp,h3,λσ' ad' H' R' g' _=>q σ' ad' H' R'<|(g1.trans<|Grow.less le).trans g'⟩)
structure ItOk(K:zzA)(kd:KD)(F B:Addr->Prop)(ad:Ad)(H:Hp)(J:It)(ds:List xi):Prop where
 all:∀(ad2:Ad) (H2:Hp),Grow (Gw [] ad) H (Gw [] ad2) H2->(∀st a,Lv F B (Gw [] ad2) st a->H2 a≠none)->∀i,(i<ds.length->J.go i H2)/\(ds.length<=i->J.stop i H2)/\
  ∀v H3,J.yld i H2 v H3->(∀b o,H2 b=some o->H3 b=some o)/\∀x,ds[i]? = some x->Rp K kd (Lv F B (Gw [] ad2) x.1) H3 v x.2
abbrev IF:=AS->Option (List xi×AS)
def gx(K:zzA)(kd:KD)(f:IF):TI:=λσ H R=>∃F B ad as ds as',Rel K kd F B [] ad as σ H/\f as=some (ds,as')/\
 ∀J ad' H',Rel K kd F B [] ad' as' σ H'->Grow (Gw [] ad) H (Gw [] ad') H'->ItOk K kd F B ad' H' J ds->R J H'
@[irreducible] def AI(X:Cx)(kd:KD)(tg iter:Expr)(f:IF):Prop:=PI X tg iter<|gx X.K kd f
noncomputable def forL(g:GF)(f:SF):List xi->AS->Option Out
 | [],as=>some (.nx as)
 |d::r,as=>(g d as).bind λas1=>(f as1).bind λo=>match o with
  | .nx as'=>forL g f r as'
  | .ct as'=>forL g f r as'
  | .bk as'=>some<|.nx as'
  | .rt r=>some<|.rt r
def yx(fi:IF)(g:GF)(f:SF):SF:=λas=>(fi as).bind λp=>forL g f p.1 p.2
def uA(hp:PassesOwn (model X.prog X.w) X.A X.env X.xe)(hc:X.calm=true)(hi:AI X kd tg iter fi)(hg:AG X kd tg S g)(hb:E5 X kd body f)(hs:∀x,foldedSetIterable iter X.env x=pure x):
 Lw X kd (.For tg iter body [] pos) (yx fi g f):=by with_unfolding_all exact(xy (HQ hp hc hi hg hb hs) λD σ H h=>by
 obtain⟨F,B,ad,as,o,R,e,q⟩:=h;obtain⟨⟨ds,as1⟩,h1,e⟩:=bS_<|e;refine⟨F,B,ad,as,ds,as1,R,h1,λJ ad1 H1 R1 g1 it=>?_⟩;refine⟨λi m σ2 H2=>m+i=ds.length/\∃ad2 as2,Rel X.K kd F B [] ad2 as2 σ2 H2/\Grow _ H1 (Gw [] ad2) H2/\forL g f (ds.drop i) as2=some o,⟨ds.length,rfl,ad1,as1,R1,Grow.refl,e⟩, ?_⟩
 rintro i m σ2 H2 ⟨hm,ad2,as2,R2,g2,e2⟩
 obtain⟨k1,k2,k3⟩:=it.all ad2 H2 g2 R2.trk i
 by_cases hi:i<ds.length
 . refine .inr ⟨k1 hi,λσ3 H3=>∃ad3 as3,Rel X.K kd F B [] ad3 as3 σ3 H3/\Grow _ H1 _ H3/\forL g f _ as3=some o,λσ3 H3 ⟨ad3,as3,R3,g3,e3⟩=>⟨m-1,⋯,⋯,ad3,as3,R3,g3,e3⟩,λv H3 hy=>?_⟩;obtain⟨kp,rp⟩:=k3 v H3 hy;rw[zyQ hi]at e2;obtain⟨as3,e3,e2⟩:=bS_<|e2;obtain⟨o3,e4,e2⟩:=bS_ e2;obtain⟨R3,g3⟩:=R2.more kp;refine⟨F,B,ad2,as2,_,as3,R3,rp _<|zzE hi,e3,λσ4 ad4 H4 R4 g4 _=>?_⟩;refine⟨F,B,ad4,as3,o3,R4,e4, ?_⟩;have gg:=(g2.trans g3).trans g4;cases o3 with
   |nx as5=>exact λσ5 ad5 H5 R5 g5=>⟨ad5,as5,R5,gg.trans g5,e2⟩
   |ct as5=>exact λσ5 ad5 H5 R5 g5=>⟨ad5,as5,R5,gg.trans g5,e2⟩
   |bk as5=>
    cases e2;exact λσ5 ad5 H5 R5 g5=>q σ5 ad5 H5 R5 (g1.trans<|gg.trans g5)
   |rt r=>
    cases e2;exact λv T H5 ro g5=>q v T H5 ro<|g1.trans<|gg.trans g5
 . refine .inl ⟨k2 ⋯, ?_⟩;rw[List.drop_eq_nil_of_le ⋯]at e2;cases e2;exact q σ2 ad2 H2 R2<|g1.trans g2)
def Q7:xi->Option (List xi)
 |(st,.lst ds)=>some (kids st ds)
 |(st,.tup ds)=>some (kids st ds)
 |_=>none
def Yi(f:EF):IF:=λas=>(f as).bind λp=>(W3 p.2 p.1).bind λq=>(Q7 q.1).bind λds=>some (ds,q.2)
def EE{K ad a}(hs:∀(ad3:Ad) (H3:Hp),Grow (Gw [] ad) H (Gw [] ad3) H3->Xo K H3 a vs)(r:RpI K kd F B (Gw [] ad) H vs ds):ItOk K kd F B ad H (mB K a) ds:=⟨λc j h _ i=>by
 have b:=hs c j h;have e:=r.grow h;refine⟨λf=>?_,λf=>⟨_,b,by rwa [r.length]⟩,λv o k=>?_⟩
 . obtain⟨u,g,_⟩:=r.get<|zzE f;exact⟨_,u,b,g⟩
 . obtain⟨rfl,l⟩:=k;refine⟨λ_ _ z=>z,λd m=>?_⟩;obtain⟨u,g,n⟩:=e.get m;have:=l _ b;rw[g]at this;cases this;exact n⟩
def DP{K ad a}(hs:∀(ad3:Ad) (H3:Hp),Grow (Gw [] ad) H (Gw [] ad3) H3->Vd K H3 a vs)(r:RpI K kd F B (Gw [] ad) H vs ds):ItOk K kd F B ad H (mF K a) ds:=⟨λc j h _ i=>by
 have b:=hs c j h;have e:=r.grow h;refine⟨λf=>?_,λf=>⟨_,b,by rwa [r.length]⟩,λv o k=>?_⟩
 . obtain⟨u,g,_⟩:=r.get<|zzE f;exact⟨_,u,b,g⟩
 . obtain⟨rfl,l⟩:=k;refine⟨λ_ _ z=>z,λd m=>?_⟩;obtain⟨u,g,n⟩:=e.get m;have:=l _ b;rw[g]at this;cases this;exact n⟩
def sf(he:AE X kd e fa):AI X kd tg e (Yi fa):=by
 with_unfolding_all (
 intro pins s σ H R I h;obtain⟨F,B,ad,as,ds,as',Rl,e,q⟩:=h;obtain⟨⟨p,as1⟩,h1,e⟩:=bS_<|e;obtain⟨⟨⟨st,x⟩,as2⟩,h2,e⟩:=bS_ e;obtain⟨ys,h3,e⟩:=bS_ e;cases e;cases x with
 |lst xs=>
  cases h3;refine Kh he pins s σ H R I ⟨F,B,ad,as,p,as1,Rl,h1,λv T1 ad1 H1 R1 rv1 g1=>?_⟩;obtain⟨ad2,R2,rp,le⟩:=Yh R1 rv1 h2;cases rp with
  |lst hn hr rl=>exact⟨_,rfl,⟨_,.inl hr⟩,q _ ad2 H1 R2 (g1.trans<|Grow.less le)<|EE (λad3 H3 g3=>.inl<|Vz g3 (λz=>hn<|.inr z) hr)<|Wg rl⟩
  |lstK a b c rl=>exact⟨_,rfl,⟨_,.inr ⟨_,_,_,a,rfl,rfl,rfl,b,c⟩⟩,q _ ad2 H1 R2 (g1.trans<|Grow.less le)<|EE (λad3 H3 g3=>.inr ⟨_,_,_,a,rfl,rfl,rfl,b,c⟩)<|Wg rl⟩
 |tup xs=>
  cases h3;refine MQ he pins s σ H R I ⟨F,B,ad,as,p,as1,Rl,h1,λv T1 ad1 H1 R1 rv1 g1=>?_⟩;obtain⟨ad2,R2,rp,le⟩:=Yh R1 rv1 h2;have go:∃a ys,v = .ref a/\(∀ad3 H3,Grow (Gw [] ad2) H1 (Gw [] ad3) H3->Vd X.K H3 a ys)/\RpL X.K kd (Lv F B (Gw [] ad2) st) H1 ys xs:=by
   cases rp with
   |tup n h r=>exact⟨_,_,rfl,λad3 H3 g3=>.inl<|Vz g3 (λz=>n<|.inr z) h,r⟩
   |tupK a b c e f r=>exact⟨_,_,rfl,λad3 H3 g3=>.inr ⟨_,_,_,a,b,c,e,f⟩,r⟩
  obtain⟨a,ys,rfl,hs,rl⟩:=go;exact⟨_,rfl,⟨_,hs ad2 H1 Grow.refl⟩,q _ ad2 H1 R2 (g1.trans<|Grow.less le)<|DP hs<|Wg rl⟩
 |_=>cases h3)
noncomputable def yR(lo:Int)(n:Nat):List xi:=(List.range n).map λ(i:Nat)=>(true,D.int<|lo+(i:Int))
def OL{K ad}(lo)(n:Nat):ItOk K kd F B ad H (sW lo n) (yR lo n):=⟨λe h g _ i=>by
 have c:(yR lo n).length=n:=by unfold yR;simp
 refine⟨λa=>by rw[c]at a;exact a,λa=>by rw[c]at a;exact a,λv j f=>?_⟩;obtain⟨rfl,rfl⟩:=f;refine⟨λ_ _ z=>z,λd b=>?_⟩;have a:i<n:=by rw[<-c];exact(zzG.mp b).1
 unfold yR at b;rw[zzI,List.getElem?_range a]at b;cases b;exact .int _⟩
noncomputable def qS:List D->Option D
 | [x]=>some x
 |_=>none
def J3(h:qS ds=some d):ds=[d]:=by
 cases ds with
 |nil=>cases h
 |cons x r=>
  cases r with
  |nil=>cases h;rfl
  |cons _ _=>cases h
def yH(ds:List D):Option (List xi):=((qS ds).bind FA).bind λj=>if -(2 ^ 62)<=j/\j<2 ^ 62 then some (yR 0 j.toNat)else none
def Fi(h:yH ds=some xs):∃j,ds=[.int j]/\(if -(2 ^ 62)<=j/\j<2 ^ 62 then some (yR 0 j.toNat)else none)=some xs:=by
 obtain⟨j,a,h⟩:=bS_ h;obtain⟨d,b,a⟩:=bS_ a;cases He a;exact⟨j,J3 b,h⟩
def IH:List D->Option (List xi)
 | [.int i,.int j]=>if -(2 ^ 62)<=i/\i<2 ^ 62 /\ -(2 ^ 62)<=j/\j<2 ^ 62 then some (yR i (j-i).toNat)else none
 |_=>none
def yu(fr:AF)(h:List D->Option (List xi)):IF:=λas=>(fr as).bind λp=>(views p.2 p.1).bind λds=>(h ds.1).bind λxs=>some (xs,p.2)
def FY(hg:Gl X "range")(hm:X.mg "range"=none)(ha:AA X kd [a] fr)(hs:starEach [a] X.env=[(false,eval a X.env)]):AI X kd tg (.Call (.Name "range" p) [a] [] pos) (yu fr yH):=by
 with_unfolding_all (
 intro b s σ H R I h;obtain⟨F,B,k,as,A,l,m,e,q⟩:=h;obtain⟨⟨n,o⟩,r,e⟩:=bS_<|e;obtain⟨⟨C,D⟩,t,e⟩:=bS_ e;obtain⟨E,c,e⟩:=bS_ e;cases e;obtain⟨j,rfl,c⟩:=Fi c
 . obtain⟨g,u⟩:=zr c;cases u;refine Ge hg hm ha hs b s σ H R I ⟨F,B,k,as,n,_,m,r,λG d v i f w=>?_⟩;have x:=Vg i f t;cases x with
   |cons y z=>
    cases z;cases y;exact⟨j,rfl,g.1,g.2,q _ d v i w<|OL 0 _⟩)
def BO(hg:Gl X "range")(hm:X.mg "range"=none)(ha:AA X kd [a,b] fr)(hs:starEach [a,b] X.env=[(false,eval a X.env),(false,eval b X.env)])(hs2:starEach [b] X.env=[(false,eval b X.env)]):AI X kd tg (.Call (.Name "range" p) [a,b] [] pos) (yu fr IH):=by
 with_unfolding_all (
 intro c s σ H R I h;obtain⟨F,B,n,as,o,r,t,e,q⟩:=h;obtain⟨⟨u,v⟩,w,e⟩:=bS_<|e;obtain⟨⟨x,J⟩,d,e⟩:=bS_ e;obtain⟨K,f,e⟩:=bS_ e;cases e
 match x,f,d with
 | [.int i,.int j],f,d=>
  obtain⟨y,z⟩:=zr<|f;cases z;refine BQ hg hm ha hs hs2 c s σ H R I ⟨F,B,n,as,u,_,t,w,λL g A m k C=>?_⟩;have D:=Vg m k d;cases D with
  |cons E l=>
   cases l with
   |cons l G=>
    cases G;cases E;cases l;exact⟨i,j,rfl,y,q _ g A m C<|OL i _⟩)
def Rel.mut{K ad}{i:Nat}(R:Rel K kd F B T ad as σ H)(hi:i<as.length)(hl:ad i=l::fp)(hs:σ[i]? = some (some<|.ref l))
 (hsub:∀a ∈ fp'++fo,a ∈ fp++T) (hnd:(fp'++fo).Nodup) (hu:H l≠none)
 (ro:∀(H':Hp) (G':Addr->Prop),H' l=some u->Grow (Gw T ad) H G' H'->(∀a ∈ fp',∀w,H a=some w->H' a=some w)->wC K kd F B G' H' (.ref l) n (l::fp')):
 Rel K kd F B fo (yP ad i (l::fp')) (as.set i<|some n) σ (upd H l u)/\Grow (Gw T ad) H (Gw fo<|yP ad i (l::fp')) (upd H l u):=by
 have hli:l ∈ ad i:=by rw[hl];exact zzF
 have lT:=R.dis i l hli;have lfp:l ∉ fp:=by have:=R.nd i;rw[hl]at this;exact(zzW.mp this).1
 have lsub:∀a ∈ fp'++fo,a≠l:=λa m e=>by
  subst e
  rcases zzM.mp (hsub _ m)with z|z
  . exact lfp z
  . exact lT z
 have sub:∀a ∈ fp'++fo,Gw T ad a:=λa m=>by
  rcases zzM.mp (hsub a m)with z|z
  . exact .inr ⟨i,by rw[hl];exact zzD _ z⟩
  . exact .inl z
 have gsub:∀a,Gw fo (yP ad i (l::fp')) a->Gw T ad a:=λa z=>by
  rcases z with z|⟨j,z⟩
  . exact sub a<|zzL _ z
  . by_cases e:j=i
    . subst e;rw[zL]at z
      rcases zzC.mp z with z|z
      . subst z;exact .inr ⟨j,hli⟩
      . exact sub a<|zzP _ z
    . rw[zO e]at z;exact .inr ⟨j,z⟩
 have g:Grow _ H _ (upd H l u):=⟨λb w h n=>by rw[zJ λe=>n<|by subst e;exact .inr ⟨i,hli⟩];exact h,λb z=>.inl<|gsub b z⟩;have kn:∀a,H a≠none->upd H l u a≠none:=λa z=>by
  by_cases e:a=l
  . subst e;rw[yg];simp
  . rwa [zJ e]
 obtain⟨hnd1,hnd2,hnd3⟩:=zxC.mp hnd;have inT:∀j a,j≠i->a ∈ ad j->a ∈ fp'++fo->False:=λj a hj m m'=>by
  rcases zzM.mp (hsub a m')with z|z
  . exact hj (R.inj j i a m<|by rw[hl];exact zzD _ z)
  . exact R.dis j a m z
 refine⟨⟨by rw[zzU];exact R.len,λj hj=>?_,λj=>?_,λj k a h1 h2=>?_,hnd2,λj a h1 h2=>?_,λa z=>kn a<|R.ftr a z,λa z=>?_,λa z=>⟨kn a (R.gtr a<|gsub a z).1,(R.gtr a<|gsub a z).2⟩,λj s e=>?_⟩,g⟩
 . rw[zzU]at hj;rw[zO<|(q0Q hi hj)];exact R.out j hj
 . by_cases e:j=i
   . subst e;rw[zL];exact zzW.mpr ⟨λm=>lsub l (zzP _ m) rfl,hnd1⟩
   . rw[zO e];exact R.nd j
 . by_cases e:j=i
   . subst e
     by_cases e':k=j
     . exact e'.symm
     . rw[zL]at h1;rw[zO e']at h2
       rcases zzC.mp h1 with z|z
       . subst z;exact R.inj j k a hli h2
       . exact(inT k a e' h2<|zzP _ z).elim
   . rw[zO e]at h1
     by_cases e':k=i
     . subst e';rw[zL]at h2
       rcases zzC.mp h2 with z|z
       . subst z;exact R.inj j k a h1 hli
       . exact(inT j a e h1<|zzP _ z).elim
     . rw[zO e']at h2;exact R.inj j k a h1 h2
 . by_cases e:j=i
   . subst e;rw[zL]at h1
     rcases zzC.mp h1 with z|z
     . subst z;exact lsub a (zzL _ h2) rfl
     . exact hnd3 a z a h2 rfl
   . rw[zO e]at h1;exact inT j a e h1<|zzL _ h2
 . obtain⟨b1,b2,b3⟩:=R.btr a z;exact⟨kn a b1,b2,λy=>b3<|gsub a y⟩
 . by_cases q:j=i
   . subst q;rw[zyK hi]at e;cases e;rw[zL];refine⟨_,hs,ro _ _ yg g λa m w h=>?_⟩
     rwa [zJ<|lsub a<|zzP _ m]
   . rw[zzY<|Ne.symm q]at e;rw[zO q];refine(R.sl j s e).grow g λa m w h=>?_
     rwa [zJ λz=>q<|R.inj j i l (by rwa [<-z]) hli]
abbrev MG:=List O->List O->Option (List O×O)
noncomputable def wQ(i:Nat)(fr:DF)(g:MG):EF:=λas=>match as[i]? with
 |some (some (.nd .ls _))=>(fr as).bind λp=>match p.2[i]? with
  |some (some (.nd .ls os))=>(g os p.1).bind λz=>some (.ow z.2,p.2.set i<|some<|.nd .ls z.1)
  |_=>none
 |_=>none
def n_(X:Cx)(kd:KD)(r:V->List V->Hp->VK->Prop)(g:MG):Prop:=
 ∀(F B G:Addr->Prop) (l:Addr) (vs ws:List V) (os es os':List O) (o:O) (fp fq:List Addr) (H:Hp) (Q:VK),H l=some (.lst vs)->vB X.K kd F B G H vs os fp->vB X.K kd F B G H ws es fq->(fp++fq).Nodup->g os es=some (os',o)->
  (∀v vs' fp' fo,vB X.K kd F B G H vs' os' fp'->wC X.K kd F B G H v o fo->(∀a ∈ fp'++fo,a ∈ fp++fq)->(fp'++fo).Nodup->Q v (upd H l<|.lst vs'))->r (.ref l) ws H Q
def qZ{i:Nat}{fr g r}(hr:n_ X kd r g)
 (h:al X.K kd (wQ i fr g) σ H Q):jW X.K "list" r (W5 i) (jG X.K kd fr) σ H Q:=by
 obtain⟨F,B,U,as,z,as',R,e,q⟩:=h;unfold wQ at e;cases k:as[i]? with
 |none=>rw[k]at e;cases e
 |some a0=>
  rw[k]at e
  match a0,e,k with
  |some (.nd .ls os0),e,k=>
   obtain⟨⟨G,s⟩,h1,e⟩:=bS_<|e;obtain⟨v0,f,t⟩:=R.sl i _ k;generalize W:U i=fp0 at t;cases t with
   |ls I rl0=>
   rename_i l vs0 Y;refine⟨_,f,.inl ⟨rfl,_,.inl<|.inl I⟩,F,B,U,as,G,s,R,h1,λws J x L j M g1=>?_⟩;cases p:s[i]? with
   |none=>rw[p]at e;cases e
   |some a2=>
    rw[p]at e
    match a2,e,p with
    |some (.nd .ls Z),e,p=>
     obtain⟨⟨y,o⟩,h3,e⟩:=bS_<|e;cases e;obtain⟨v1,A,C⟩:=j.sl i _ p;rw[f]at A;cases A;generalize c:x i=fp1 at C;cases C with
     |ls hH rl=>
     rename_i vs fp;have N:=zxC.mpr ⟨by have:=j.nd i;rw[c]at this;exact(zzW.mp this).2,j.tnd,λa m b m' e=>by
          subst e;exact j.dis i a (by rw[c];exact zzD _ m) m'⟩
     refine hr F B _ _ vs ws Z G y o fp J L Q hH rl M N h3 λv D fp' fo O P d E=>?_;obtain⟨R3,g3⟩:=j.mut (zzG.mp p).1 c f d E (by rw[hH];simp) λH' G' S gr kp=>.ls S<|vB.grow gr kp O;have T:∀a ∈ fo,∀w,L a=some w->upd L l (.lst D) a=some w:=λa m w h=>by
          rw[zJ λe=>?_]
          . exact h
          . subst e
            rcases zzM.mp (d _<|zzL _ m)with z|z
            . have:=j.nd i;rw[c]at this;exact(zzW.mp this).1 z
            . exact j.dis i _ (by rw[c];exact zzF) z
     exact q v fo _ _ R3 (wC.grow g3 T P)<|g1.trans g3
end
end PF
end
section
set_option exponentiation.threshold 5000
namespace PF
open PySem PySem.Spec PyProof.Rows L2
section
variable{K:zzA}{kd:KD}{O:Addr->Prop}{H:Hp}{Q:VK}
def z9(q:RQ K kd O H Q (.im d))(r:Rp K kd O H v d):Q v H:=q v H (λ_ _ z=>z) r
def Fk(hp:H p=none)(r:RpL K kd O H vs ds):RpL K kd (XE O (· = p)) (upd H p o) vs ds:=
 RpL.grow ⟨λb u q _=>by rw[zJ<|zV q hp];exact q,λb z=>.inr<|by rwa [z]⟩ (r.less λa z=>z.elim id False.elim)
def J9(hp:H p=none)(r:RpM K kd O H vs ds):RpM K kd (XE O (· = p)) (upd H p o) vs ds:=
 RpM.grow ⟨λb u q _=>by rw[zJ<|zV q hp];exact q,λb z=>.inr<|by rwa [z]⟩ (r.less λa z=>z.elim id False.elim)
def wD{p o}(hp:H p=none):∀b u,H b=some u->upd H p o b=some u:=λb u q=>by rwa [zJ<|zV q hp]
def QN{vs ds}(q:RQ K kd O H Q (.fl ds))(r:RpL K kd O H vs ds):∀p,H p=none->Q (.ref p) (upd H p<|.lst vs):=λp hp=>
 q p vs _ hp (wD hp) yg (Fk hp r)
def S5{vs ds}(q:RQ K kd O H Q (.fd ds))(r:RpM K kd O H vs ds):∀p,H p=none->Q (.ref p) (upd H p<|.dK vs):=λp hp=>
 q p vs _ hp (wD hp) yg (J9 hp r)
def Pj{vs ds}(ht:∀a,O a->H a≠none)(q:RQ K kd O H Q (.im<|.tup ds))(r:RpL K kd O H vs ds):∀p,H p=none->Q (.ref p) (upd H p<|.tup vs):=λp hp=>
 q _ _ (wD hp) (.tup (λz=>ht p z hp) (.inl yg)<|(Fk hp r).less λa z=>.inl z)
end
noncomputable def big:Nat:=2 ^ 4000
def Nx(h:i.natAbs<big):Builtin.Int.intBits i<=2 ^ 20:=by
 unfold Builtin.Int.intBits
 split
 . exact Nat.zero_le _
 . have:i.natAbs.log2<4000:=by
    rcases Nat.eq_zero_or_pos i.natAbs with a|b
    . rw[a];decide
    . exact(Nat.log2_lt<|Nat.ne_of_gt b).mpr h
   omega
def IE{i}(h:i.natAbs<2 ^ 64):Builtin.Int.intBits i<=64:=by
 unfold Builtin.Int.intBits
 split
 . exact Nat.zero_le _
 . rcases Nat.eq_zero_or_pos i.natAbs with h0|hp
   . rw[h0];decide
   . exact(Nat.log2_lt<|Nat.ne_of_gt hp).mpr h
def AR(f:Int->Int->Option R0)(x y:D):Option R0:=(FA x).bind λi=>(FA y).bind λj=>f i j
def mR(x y:D):Option R0:=match x with
 | .int i=>(FA y).bind λj=>some<|.im<|.int<|i+j
 | .str x=>(ik y).bind λy=>if x.length+y.length<=sizeLine then some (.im<|.str<|x++y)else none
 | .lst xs=>(sr y).bind λys=>if xs.length+ys.length<=sizeLine then some (.fl<|xs++ys)else none
 | .tup xs=>(ku y).bind λys=>if xs.length+ys.length<=sizeLine then some (.im<|.tup<|xs++ys)else none
 |_=>none
def kU(x y:D):Option R0:=match x with
 | .int i=>(FA y).bind λj=>if(i.natAbs<big/\j.natAbs<big)\/j.natAbs<2 ^ 64 then some (.im<|.int<|i*j)else none
 | .lst xs=>(FA y).bind λk=>if -(2 ^ 63)<=k/\k<2 ^ 63/\xs.length*k.toNat<=sizeLine then some (.fl (List.replicate k.toNat xs).flatten)else none
 | .tup xs=>(FA y).bind λk=>if 1<=k/\k<2 ^ 63/\xs.length≠0/\xs.length*k.toNat<=sizeLine then some (.im<|.tup (List.replicate k.toNat xs).flatten)else none
 |_=>none
def ZM(o:Operator)(x y:D):Option R0:=match o with
 | .Add=>mR x y
 | .Sub=>AR (λi j=>some<|.im<|.int<|i-j) x y
 | .Mult=>kU x y
 | .FloorDiv=>AR (λi j=>if 0<j/\j.natAbs<big then some (.im<|.int<|i/j)else none) x y
 | .Mod=>AR (λi j=>if 0<j then some (.im<|.int<|i%j)else none) x y
 | .Pow=>AR (λi j=>if 0<=j/\j<=1000000/\i.natAbs<2 ^ 64 then some (.im<|.int<|i ^ j.toNat)else none) x y
 |_=>none
def Yz{K kd O H v d i}(h:Vw K kd O H v d)(e:FA d=some i):d = .int i/\v = .int i:=by
 cases h with
 |int j=>cases e;exact ⋯
 |_=>cases e
def Dy{K kd O H v d i}(h:Vw K kd O H v d)(e:ik d=some i):d = .str i/\v = .str i:=by
 cases h with
 |str j=>cases e;exact ⋯
 |_=>cases e
def YN{K kd O H v w d e f r}(vx:Vw K kd O H v d)(vy:Vw K kd O H w e)(h:AR f d e=some r):∃i j,v = .int i/\w = .int j/\f i j=some r:=by
 obtain⟨i,a,h⟩:=bS_<|h;obtain⟨j,b,h⟩:=bS_ h;exact⟨i,j,(Yz vx a).2,(Yz vy b).2,h⟩
section
variable{X:Cx}{kd:KD}
def IG:Qe X (binaryOp .Add) (λx y H Q=>∃l b xs zs,x = .ref l/\y = .ref b/\Sr X.K H l xs/\Sr X.K H b zs/\xs.length+zs.length<=sizeLine/\∀p,H p=none->Q (.ref p) (upd H p<|.lst<|xs++zs)):=by
 intro d s σ H x y v u Q I g i h;obtain⟨l,b,w,A,rfl,rfl,j,k,B,q⟩:=h;cases g;cases i;obtain⟨z,c,n,r,e⟩:=Em I j;obtain⟨C,a,D,f,m⟩:=Em I k;have E:=r.length;have o:=f.length;refine PySem.P.add_list e m ?_ (by rw[zzH,zzH];omega);have t:c.toArray++a.toArray=(c++a).toArray:=⋯;rw[t];exact⟨.ref _,_,I.lnew (t':=s.toks) (r.append f) (by rw[zzJ];omega),rfl,q _ I.fresh⟩
def C2:Qe X (binaryOp .Mult) (λx y H Q=>∃l k xs,x = .ref l/\y = .int k/\Sr X.K H l xs /\ -(2 ^ 63)<=k/\k<2 ^ 63/\xs.length*k.toNat<=sizeLine/\
 ∀p,H p=none->Q (.ref p) (upd H p<|.lst (List.replicate k.toNat xs).flatten)):=by
 intro w s σ H x y v u Q I B C h;obtain⟨l,k,N,rfl,rfl,D,E,G,A,q⟩:=h;cases B;obtain⟨t,rfl⟩:=C;obtain⟨z,b,n,r,e⟩:=Em I D;have J:=r.length;have d:b.toArray.size*k.toNat<=sizeLine:=by rwa [zzH,<-J]
 have f:¬b.toArray.size*k.toNat > (2 ^ 63-1)/8:=by
  have:sizeLine<=(2 ^ 63-1)/8:=by decide
  omega
 have g:¬(!Builtin.List.listFitsIndex k)=true:=by
  rw[fitsIndex_both E G];exact zyV
 have c:¬Builtin.List.listTooLong (b.toArray.size*k.toNat)=true:=by
  rw[O1 d];exact zyV
 have i:List.foldl (λj o=>j++o) #[] (List.replicate (if b.toArray.isEmpty=true then 0 else k.toNat) b.toArray)=(List.replicate k.toNat b).flatten.toArray:=by
  have L:=λm=>by
   have:=foldl_rep b m []
   rwa [List.nil_append]at this
  rw[L];cases b with
  |nil=>simp
  |cons a O=>rw[if_neg<|by simp]
 refine wpAny_binaryOp_repeat_ref (by decide) ⟨_,e,rfl⟩ (λM=>typeIs_int M k t) noFill_list_mul F.fills_int_mul F.slot_int_rmul repeat_list F.slot_int_index.lookup
  (call_meets F.slot_int_rmul ⋯ F.entry_int_rmul ⋯ (int___rmul___int_list k t l b.toArray n)
   ⟨e,rfl,⟨_,e,rfl⟩,call_meets F.slot_list_mul ⟨_,e,rfl⟩ F.entry_list_mul (F.args_list_mul_2 _ _) (AutoListH.list___mul___list_int_3 l b.toArray n k t g f c) ⟨e, ?_⟩⟩)
 rw[i];refine⟨.ref _,_,I.lnew (t':=s.toks) (r.rep k.toNat) ?_,rfl,q _ I.fresh⟩
 rwa [len_rep,Nat.mul_comm]
def tuple_addW0(l b)(items items2)(n n2:Nat)(dd dd2)(sl sl2)(h0:items.isEmpty=true):
 Meets (Builtin.«tuple.__add__» {pos:=[.ref l,.ref b]}) (λ_ R s=>s.heap.get? l=some {cls:=.type "tuple",dict:=dd,data:=.seq items n,slots:=sl}/\s.heap.get? b=some {cls:=.type "tuple",dict:=dd2,data:=.seq items2 n2,slots:=sl2}/\R (.ok<|.ret<|.ref b) s):=
 .of_wp λa w A R s h=>by
  obtain⟨c,e,h⟩:=h;have f2:=AutoSeq1.sub_tuple_tuple
  wp_walk using wpAny_loadPart' c,wpAny_loadPart' e
  exact⟨_,rfl,h⟩
def LR(l)(items)(n:Nat)(dd)(sl)(u):
 Meets (Builtin.«tuple.__mul__» {pos:=[.ref l,.int 1 u]}) (λ_ R s=>s.heap.get? l=some {cls:=.type "tuple",dict:=dd,data:=.seq items n,slots:=sl}/\R (.ok<|.ret<|.ref l) s):=
 .of_wp λa w A R s h=>by
  obtain⟨b,h⟩:=h
  wp_walk using wpAny_loadPart' b
  exact⟨_,rfl,h⟩
def LO(l)(items its2:Array Value)(n:Nat)(dd)(sl)(x)(u)(c1:¬(decide (x < -2 ^ 63)||decide (x ≥ 2 ^ 63))=true)(c2:¬(items.isEmpty||x==1)=true)(c3:¬(decide (x<=0)||items.isEmpty)=true)
 (hcap:¬(items.size:Int)*x > (2 ^ 63-1)/8) (ht:¬Builtin.Tuple.tupleTooMany (items.size*x)=true) (hz:¬(List.foldl (λx1 x2=>x1++x2) #[] (List.replicate x.toNat items)).size > sizeLine):
 Meets (Builtin.«tuple.__mul__» {pos:=[.ref l,.int x u]}) (λ_ R s=>s.heap.get? l=some {cls:=.type "tuple",dict:=dd,data:=.seq items n,slots:=sl}/\R (.ok<|.ret<|.ref s.heap.objs.size) {s with heap:=s.heap.push {cls:=.type "tuple",data:=.seq (List.foldl (λx1 x2=>x1++x2) #[] (List.replicate x.toNat items))}}):=
 .of_wp λa w A R s h=>by
  obtain⟨b,h⟩:=h
  wp_walk using wpAny_loadPart' b
  rw[if_neg c1]
  wp_walk using wpAny_loadPart' b
  rw[if_neg hcap]
  wp_walk
  exact⟨_,rfl,h⟩
def QA:fillsNumberSlot (Value.type "tuple") "mul"=pure false:=⋯
def Ld:seqRepeat? (Value.type "tuple")=pure (some<|Value.builtin "tuple.__mul__"):=⋯
def Rz(a)(t)(l)(items)(n:Nat)(dd)(sl):
 Meets (Builtin.«int.__rmul__» {pos:=[.int a t,.ref l]}) (λ_ R s=>s.heap.get? l=some {cls:=.type "tuple",dict:=dd,data:=.seq items n,slots:=sl}/\R (.ok<|.ret .notImplemented) s):=
 .of_wp λb w A R s h=>by
  obtain⟨c,h⟩:=h
  wp_walk using wpAny_load' c,wpAny_loadPart' c
  exact⟨_,rfl,h⟩
def Ji:Qe X (binaryOp .Add) (λx y H Q=>∃a b ys,x = .ref a/\y = .ref b/\Vd X.K H a []/\Vd X.K H b ys/\Q (.ref b) H):=by
 intro j s σ H x y v u Q I t w h;obtain⟨a,b,M,rfl,rfl,z,A,q⟩:=h;cases t;cases w;obtain⟨B,C,D,_⟩:=I.tuple z;obtain⟨k,N,E,_⟩:=I.tuple A;cases C;obtain⟨⟨cls,G,l,J⟩,m,o,n,p⟩:=id D;obtain⟨⟨r,f,g,i⟩,c,d,L,e⟩:=id E;subst o p d e;exact concat_meets ⟨_,m,rfl⟩ ⟨_,c,rfl⟩ noFill_tuple_add seq_tuple_add PySem.F.slot_tuple_add PySem.F.entry_tuple_add (PySem.F.args_tuple_add_2 _ _) (tuple_addW0 a b _ _ n L G f J i rfl) ⟨m,c,⟨.ref b,H,I,rfl,q⟩⟩
def Ci:Qe X (binaryOp .Mult) (λx y H Q=>∃l k xs,x = .ref l/\y = .int k/\Vd X.K H l xs/\xs≠[]/\1<=k/\k<2 ^ 63/\xs.length*k.toNat<=sizeLine/\(k=1->Q (.ref l) H)/\
 (2<=k->∀p,H p=none->Q (.ref p) (upd H p<|.tup (List.replicate k.toNat xs).flatten))):=by
 intro A s σ H x y v u Q I M N h;obtain⟨l,k,B,rfl,rfl,O,i,Y,Z,C,P,R⟩:=h;cases M;obtain⟨t,rfl⟩:=N;obtain⟨c,r,p,_⟩:=I.tuple O;have j:=r.length;have f:c.toArray.size*k.toNat<=sizeLine:=by rwa [zzH,<-j]
 have g:((c.toArray.size:Int)*k)=((c.toArray.size*k.toNat:Nat):Int):=by
  rw[zzV,zyY<|by omega]
 have D:c.toArray.isEmpty=false:=by
  cases c with
  |nil=>rw[List.length_nil]at j;exact absurd (List.length_eq_zero_iff.mp j) i
  |cons a r'=>rfl
 have d:List.foldl (λS V=>S++V) #[] (List.replicate k.toNat c.toArray)=(List.replicate k.toNat c).flatten.toArray:=by
  have:=foldl_rep c k.toNat [];exact this
 obtain⟨⟨cls,m,E,w⟩,e,G,n,J⟩:=id p;subst G J;refine wpAny_binaryOp_repeat_ref (by decide) ⟨_,e,rfl⟩ (λW=>typeIs_int W k t) QA F.fills_int_mul F.slot_int_rmul Ld F.slot_int_index.lookup
  (call_meets F.slot_int_rmul (typeIs_int s k t) F.entry_int_rmul (F.args_int_rmul_2 _ _) (Rz k t l c.toArray n m w) ⟨e,rfl,⟨_,e,rfl⟩, ?_⟩)
 by_cases L:k=1
 . subst L;exact call_meets F.slot_tuple_mul ⟨_,e,rfl⟩ F.entry_tuple_mul ⋯ (LR l c.toArray n m w t) ⟨e,⟨.ref l,H,I,rfl,P rfl⟩⟩
 . have z:(List.replicate k.toNat B).flatten.length<=sizeLine:=by rwa [len_rep,Nat.mul_comm]
   refine call_meets F.slot_tuple_mul ⟨_,e,rfl⟩ F.entry_tuple_mul (F.args_tuple_mul_2 _ _) (LO l c.toArray #[] n m w k t (by simp;omega) (by rw[D];simpa using L) (by rw[D];simp;omega) ?_ ?_ ?_) ⟨e, ?_⟩
   . rw[g];have:(sizeLine:Int)<=(2 ^ 63-1)/8:=by decide
     omega
   . unfold Builtin.Tuple.tupleTooMany;rw[g];simp only[gt_iff_lt,decide_eq_true_eq];omega
   . rw[d,zzH,len_rep,Nat.mul_comm];rw[zzH]at f;omega
   . rw[d];refine⟨.ref s.heap.objs.size,_,I.laid (t':=s.toks) (λb ob q=>zxF _ q) (zzN _) ?_,rfl,R (by omega) _<|I.hok.fresh<|zzN _⟩;exact⟨z,_,r.rep k.toNat,IsTup.new _ _⟩
def tW(op):sy X kd (binaryOp op) (ZM op):=by
 intro pins s σ H x y v u Q I rx ry h;obtain⟨O,d,e,r,ht,vx,vy,he,q⟩:=h;cases op with
 |Add=>
  cases vx with
  |int i=>
   obtain⟨j,h1,he⟩:=bS_<|he;obtain⟨rfl,rfl⟩:=Yz vy h1;cases he;exact Dc pins s σ H _ _ v u Q I rx ry ⟨_,_,rfl,rfl,z9 q<|.int _⟩
  |str i=>
   obtain⟨j,h1,he⟩:=bS_<|he;obtain⟨rfl,rfl⟩:=Dy vy h1;obtain⟨c,rfl⟩:=zr he;exact Ep pins s σ H _ _ v u Q I rx ry ⟨_,_,rfl,rfl,c,z9 q<|.str _⟩
  |lst hx rx'=>
   obtain⟨j,h1,he⟩:=bS_<|he;cases Qs h1;obtain⟨c,rfl⟩:=zr he;cases vy with
   |lst hy ry'=>exact IG pins s σ H _ _ v u Q I rx ry ⟨_,_,_,_,rfl,rfl,hx,hy,by rw[rx'.length,ry'.length];exact c,QN q<|rx'.append ry'⟩
  | @tup a1 vs1 ds1 r1 hx rx'=>
   obtain⟨j,h1,he⟩:=bS_<|he;cases Hw h1;obtain⟨c,rfl⟩:=zr he;cases vy with
   |tup r2 hy ry'=>
    by_cases h0:vs1=([]:List V)
    . subst h0;cases rx';exact Ji pins s σ H _ _ v u Q I rx ry ⟨_,_,_,rfl,rfl,hx,hy,z9 q r2⟩
    refine JH pins s σ H _ _ v u Q I rx ry ⟨_,_,_,_,rfl,rfl,hx,hy,h0,by rw[rx'.length,ry'.length];exact c,λhn=>?_,λhn=>Pj ht q<|rx'.append ry'⟩
    . subst hn;cases ry';rw[zyE]at q;exact z9 q r1
  |_=>cases he
 |Sub=>
  obtain⟨i,j,rfl,rfl,he⟩:=YN vx vy he;cases he;exact uv pins s σ H _ _ v u Q I rx ry ⟨_,_,rfl,rfl,z9 q<|.int _⟩
 |Mult=>
  cases vx with
  |int i=>
   obtain⟨j,h1,he⟩:=bS_<|he;obtain⟨rfl,rfl⟩:=Yz vy h1;obtain⟨c,rfl⟩:=zr he;obtain⟨t,rfl⟩:=rx;obtain⟨t',rfl⟩:=ry;exact mul_int ⟨.int _,H,I.tok _,⟨_,rfl⟩,z9 q<|.int _⟩ (c.elim (λc=>IntMulOk.of_bits (Nx c.1)<|Nx c.2) λc=>IntMulOk.of_right<|IE c)
  |lst hx rx'=>
   obtain⟨j,h1,he⟩:=bS_<|he;obtain⟨rfl,rfl⟩:=Yz vy h1;obtain⟨c,rfl⟩:=zr he;exact C2 pins s σ H _ _ v u Q I rx ry ⟨_,_,_,rfl,rfl,hx,c.1,c.2.1,by rw[rx'.length];exact c.2.2,QN q<|rx'.rep _⟩
  |tup r1 hx rx'=>
   obtain⟨j,h1,he⟩:=bS_<|he;obtain⟨rfl,rfl⟩:=Yz vy h1;obtain⟨c,rfl⟩:=zr he;refine Ci pins s σ H _ _ v u Q I rx ry ⟨_,_,_,rfl,rfl,hx,λe=>?_,c.1,c.2.1,by rw[rx'.length];exact c.2.2.2,λe=>?_,λ_=>Pj ht q<|rx'.rep _⟩
   . have:=rx'.length;rw[e]at this;exact c.2.2.1 this.symm
   . subst e;refine z9 q ?_;rw[show(1:Int).toNat=1 from rfl,List.replicate_one,List.flatten_cons,List.flatten_nil,zyE];exact r1
  |_=>cases he
 |FloorDiv=>
  obtain⟨i,j,rfl,rfl,he⟩:=YN vx vy he;obtain⟨c,rfl⟩:=zr he;obtain⟨t,rfl⟩:=rx;obtain⟨t',rfl⟩:=ry;refine floordiv_int (by omega) ?_<|.inl<|PyProof.noPylong_of_log2 ?_
  . rw[Int.fdiv_eq_ediv_of_nonneg _<|by omega];exact⟨.int _,H,I.tok _,⟨_,rfl⟩,z9 q<|.int _⟩
  . exact zzK ((Nat.log2_lt<|by have:=c.1;omega).mpr<|c.2) (by decide)
 |Mod=>
  obtain⟨i,j,rfl,rfl,he⟩:=YN vx vy he;obtain⟨c,rfl⟩:=zr he;exact De pins s σ H _ _ v u Q I rx ry ⟨_,_,rfl,rfl,c,z9 q<|.int _⟩
 |Pow=>
  obtain⟨i,j,rfl,rfl,he⟩:=YN vx vy he;obtain⟨c,rfl⟩:=zr he;exact sh pins s σ H _ _ v u Q I rx ry ⟨_,_,rfl,rfl,c,z9 q<|.int _⟩
 |_=>cases he
end
noncomputable def AU(f:D->D->Option Bool):List D->List D->Option Bool
 | [],[]=>some true
 |x::r,y::t=>(f x y).bind λb=>(AU f r t).bind λc=>some (b&&c)
 |_,_=>some false
def Yj:Nat->D->D->Option Bool
 |0,_,_=>none
 |_+1,.non,.non=>some true
 |_+1,.bl a,.bl b=>some (a==b)
 |_+1,.int a,.int b=>some (a==b)
 |_+1,.str a,.str b=>some (a==b)
 |_+1,.bl a,.int b=>some ((if a then 1 else 0)==b)
 |_+1,.int a,.bl b=>some (a==(if b then 1 else 0))
 |n+1,.lst xs,.lst ys=>AU (Yj n) xs ys
 |n+1,.tup xs,.tup ys=>AU (Yj n) xs ys
 |_+1,.dct _,_=>none
 |_+1,.cl _,_=>none
 |_+1,.ob _ _ _,_=>none
 |_+1,_,.dct _=>none
 |_+1,_,.cl _=>none
 |_+1,_,.ob _ _ _=>none
 |_+1,_,_=>some false
noncomputable def Cg(f:D->D->Option Bool)(xs ys:List D)(j:Nat):Bool:=match xs[j]?,ys[j]? with
 |some d,some e=>(f d e).getD false
 |_,_=>false
theorem Pv:∀{xs ys:List D}{b:Bool},AU f xs ys=some b->(∀(j:Nat) d e,xs[j]? = some d->ys[j]? = some e->∃c,f d e=some c)/\
 b=((List.range<|min xs.length ys.length).all (Cg f xs ys)&&xs.length==ys.length)
 | [],[],b,h=>by cases h;exact⟨λj d e h=>by simp at h,⋯⟩
 | [],y::t,b,h=>by cases h;exact⟨λj d e h=>by simp at h,⋯⟩
 |x::r,[],b,h=>by cases h;exact⟨λj d e _ h=>by simp at h,⋯⟩
 |x::r,y::t,b,h=>by
  obtain⟨b1,h1,h⟩:=bS_<|h;obtain⟨c1,h2,h⟩:=bS_ h;cases h;obtain⟨k1,k2⟩:=Pv h2;refine⟨λj d e hd he=>?_, ?_⟩
  . cases j with
    |zero=>simp at hd he;subst hd he;exact⟨b1,h1⟩
    |succ j=>exact k1 j d e ⋯ ⋯
  . have e0:min (x::r).length (y::t).length=min r.length t.length+1:=by simp only[zzT];omega
    rw[e0,List.range_succ_eq_map,List.all_cons,List.all_map,k2];have e1:Cg f (x::r) (y::t) 0=b1:=by show(f x y).getD false=b1;rw[h1];rfl
    have e2:(Cg f (x::r) (y::t)∘Nat.succ)=Cg f r t:=⋯;have e3:((x::r).length==(y::t).length)=(r.length==t.length):=⋯;rw[e1,e2,e3,Bool.and_assoc]
structure EqAll(A:Around)(s:Shared)(u v:Value)(b:Bool):Prop where
 rc:SeqAt.RcAt A s u v b
 ne:SeqAt.RcNeAt A s u v (!b)
 eq:SeqAt.EqAt A s u v b
section
variable{X:Cx}{kd:KD}{pins:List (Addr×Obj)}{σ:St}{H:Hp}{s:Shared}{O:Addr->Prop}
def FM(I:Inv X pins σ H s)(h:Vd X.K H a xs)(h':Xo X.K H a ys):False:=by
 obtain⟨_,_,⟨o,e,c,_⟩,_⟩:=I.tuple h;obtain⟨_,_,⟨f,n,b,d,_⟩,_⟩:=I.list h';rw[e]at b;cases b;rw[c]at d;exact absurd d (by decide)
theorem E4(I:Inv X pins σ H s):∀(n:Nat) (v:V) (d e:D) (b:Bool),Vw X.K kd O H v d->Vw X.K kd O H v e->Yj n d e=some b->b=true
 |0,_,_,_,_,_,_,h=>by cases h
 |n+1,v,d,e,b,p,f,h=>by
  have lst:∀i (l m:List D) b,RpL X.K kd O H i l->RpL X.K kd O H i m->AU (Yj n) l m=some b->b=true:=by
   intro i
   induction i with
   |nil=>intro l m b g a h;cases g;cases a;cases h;rfl
   |cons v i q=>
    intro l m b g a h;cases g with
    |cons r g=>
     cases a with
     | cons t a=>
            obtain⟨y,u,h⟩:=bS_<|h;obtain⟨z,w,h⟩:=bS_ h;cases h;rw[E4 I n _ _ _ _ r.vw t.vw u,q _ _ _ g a w];rfl
  cases p with
  |non=>cases f;cases h;rfl
  |bl x=>cases f;cases h;simp
  |int x=>cases f;cases h;simp
  |str x=>cases f;cases h;simp
  |tup g j o=>
   cases f with
   |tup a c k=>
    have:=I.tuple_inj j c;subst this;exact lst _ _ _ _ o k h
   |lst c k=>exact(FM I j c.sq).elim
   |_=>cases h
  |lst j o=>
   cases f with
   |tup a c k=>exact(FM I c j.sq).elim
   |lst c k=>
    have:=I.list_inj j.sq c.sq;subst this;exact lst _ _ _ _ o k h
   |_=>cases h
  |_=>cases h
theorem Lm(I:Inv X pins σ H s):∀(n:Nat) (A:Around) (x y:V) (d e:D) (u v:Value) (b:Bool),A.units+n<cLine->Vw X.K kd O H x d->Vw X.K kd O H y e->RelV x u->RelV y v->Yj n d e=some b->EqAll A s u v b
 |0,_,_,_,_,_,_,_,_,_,_,_,_,_,h=>by cases h
 |n+1,A,x,y,d,e,u,v,b,hu,h1,E,R,k,h=>by
  have f:A.units<cLine:=by omega
  have W:∀{vs ws:List V}{l g:List Value}{S T:List D},RpL X.K kd O H vs S->RpL X.K kd O H ws T->zQ vs l->zQ ws g->(∀(j:Nat) d e,S[j]? = some d->T[j]? = some e->∃c,Yj n d e=some c)->
   ∀j h1 (E:j<g.toArray.size),SeqAt.EqAt A.in1 s l.toArray[j] g.toArray[j] (Cg (Yj n) S T j):=by
   intro vs ws l g S T F q v1 v2 hd j j1 j2;have q1:j<S.length:=by rw[<-F.length,v1.length];simpa using j1
   have q2:j<T.length:=by rw[<-q.length,v2.length];simpa using j2
   obtain⟨L,ha1,ra1⟩:=F.get<|zzE q1;obtain⟨M,ha2,ra2⟩:=q.get<|zzE q2;obtain⟨u1,hu1,ru1⟩:=v1.get ha1;obtain⟨u2,hu2,ru2⟩:=v2.get ha2;obtain⟨c,hc⟩:=hd j _ _ (zzE q1)<|zzE q2;have e1:l.toArray[j]=u1:=by
    have:=(zzG.mp hu1).2;simpa using this
   have e2:g.toArray[j]=u2:=by
    have:=(zzG.mp hu2).2;simpa using this
   rw[e1,e2];have e3:Cg (Yj n) S T j=c:=by
    unfold Cg;rw[zzE q1,zzE q2];show(Yj n _ _).getD false=c;rw[hc];rfl
   rw[e3];exact(Lm I n A.in1 L M _ _ u1 u2 c (by show A.units+1+n<cLine;omega) ra1.vw ra2.vw ru1 ru2 hc).eq
  have G:∀{a a':Addr},x = .ref a->y = .ref a'->a=a'->b=true:=by
   intro a a' e1 e2 e3;subst e1 e2 e3;exact E4 I (n+1) _ _ _ _ h1 E h
  cases h1 with
  |non=>
   cases R;cases E with
   |non=>cases k;cases h;exact⟨SeqAt.RcAt.none_none,SeqAt.RcNeAt.none_none,SeqAt.EqAt.same _⟩
   |bl=>cases k;cases h;exact⟨SeqAt.RcAt.none_bool _,SeqAt.RcNeAt.none_bool _,SeqAt.EqAt.none_bool _⟩
   |int=>obtain⟨t,rfl⟩:=k;cases h;exact⟨SeqAt.RcAt.none_int _ _,SeqAt.RcNeAt.none_int _ _,SeqAt.EqAt.none_int _ _⟩
   |str=>obtain⟨t,rfl⟩:=k;cases h;exact⟨SeqAt.RcAt.none_str _ _,SeqAt.RcNeAt.none_str _ _,SeqAt.EqAt.none_str _ _⟩
   |tup r o q=>
    cases k;cases h;obtain⟨l,J,p,_⟩:=I.tuple o;exact⟨SeqAt.RcAt.none_tuple p f,SeqAt.RcNeAt.none_tuple p f,SeqAt.EqAt.none_tuple p f⟩
   |lst o q=>
    cases k;cases h;obtain⟨l,J,p,_⟩:=I.list o.sq;exact⟨SeqAt.RcAt.none_list p.isList f,SeqAt.RcNeAt.none_list p.isList f,SeqAt.EqAt.none_list p.isList f⟩
   |_=>cases h
  |bl c=>
   cases R;cases E with
   |non=>cases k;cases h;exact⟨SeqAt.RcAt.bool_none _,SeqAt.RcNeAt.bool_none _,SeqAt.EqAt.bool_none _⟩
   |bl=>cases k;cases h;exact⟨SeqAt.RcAt.bool_bool _ _,SeqAt.RcNeAt.bool_bool _ _,SeqAt.EqAt.bool_bool _ _⟩
   |int=>obtain⟨t,rfl⟩:=k;cases h;exact⟨SeqAt.RcAt.bool_int _ _ _,SeqAt.RcNeAt.bool_int _ _ _,SeqAt.EqAt.bool_int _ _ _⟩
   |str=>obtain⟨t,rfl⟩:=k;cases h;exact⟨SeqAt.RcAt.bool_str _ _ _,SeqAt.RcNeAt.bool_str _ _ _,SeqAt.EqAt.bool_str _ _ _⟩
   |tup r o q=>
    cases k;cases h;obtain⟨l,J,p,_⟩:=I.tuple o;exact⟨SeqAt.RcAt.bool_tuple _ p f,SeqAt.RcNeAt.bool_tuple _ p f,SeqAt.EqAt.bool_tuple _ p f⟩
   |lst o q=>
    cases k;cases h;obtain⟨l,J,p,_⟩:=I.list o.sq;exact⟨SeqAt.RcAt.bool_list _ p.isList f,SeqAt.RcNeAt.bool_list _ p.isList f,SeqAt.EqAt.bool_list _ p.isList f⟩
   |_=>cases h
  |int c=>
   obtain⟨t0,rfl⟩:=R;cases E with
   |non=>cases k;cases h;exact⟨SeqAt.RcAt.int_none _ _,SeqAt.RcNeAt.int_none _ _,SeqAt.EqAt.int_none _ _⟩
   |bl=>cases k;cases h;exact⟨SeqAt.RcAt.int_bool _ _ _,SeqAt.RcNeAt.int_bool _ _ _,SeqAt.EqAt.int_bool _ _ _⟩
   |int=>obtain⟨t,rfl⟩:=k;cases h;exact⟨SeqAt.RcAt.int_int _ _ _ _,SeqAt.RcNeAt.int_int _ _ _ _,SeqAt.EqAt.int_int _ _ _ _⟩
   |str=>obtain⟨t,rfl⟩:=k;cases h;exact⟨SeqAt.RcAt.int_str _ _ _ _,SeqAt.RcNeAt.int_str _ _ _ _,SeqAt.EqAt.int_str _ _ _ _⟩
   |tup r o q=>
    cases k;cases h;obtain⟨l,J,p,_⟩:=I.tuple o;exact⟨SeqAt.RcAt.int_tuple _ _ p f,SeqAt.RcNeAt.int_tuple _ _ p f,SeqAt.EqAt.int_tuple _ _ p f⟩
   |lst o q=>
    cases k;cases h;obtain⟨l,J,p,_⟩:=I.list o.sq;exact⟨SeqAt.RcAt.int_list _ _ p.isList f,SeqAt.RcNeAt.int_list _ _ p.isList f,SeqAt.EqAt.int_list _ _ p.isList f⟩
   |_=>cases h
  |str c=>
   obtain⟨t0,rfl⟩:=R;cases E with
   |non=>cases k;cases h;exact⟨SeqAt.RcAt.str_none _ _,SeqAt.RcNeAt.str_none _ _,SeqAt.EqAt.str_none _ _⟩
   |bl=>cases k;cases h;exact⟨SeqAt.RcAt.str_bool _ _ _,SeqAt.RcNeAt.str_bool _ _ _,SeqAt.EqAt.str_bool _ _ _⟩
   |int=>obtain⟨t,rfl⟩:=k;cases h;exact⟨SeqAt.RcAt.str_int _ _ _ _,SeqAt.RcNeAt.str_int _ _ _ _,SeqAt.EqAt.str_int _ _ _ _⟩
   |str=>obtain⟨t,rfl⟩:=k;cases h;exact⟨SeqAt.RcAt.str_str _ _ _ _,SeqAt.RcNeAt.str_str _ _ _ _,SeqAt.EqAt.str_str _ _ _ _⟩
   |tup r o q=>
    cases k;cases h;obtain⟨l,J,p,_⟩:=I.tuple o;exact⟨SeqAt.RcAt.str_tuple _ _ p f,SeqAt.RcNeAt.str_tuple _ _ p f,SeqAt.EqAt.str_tuple _ _ p f⟩
   |lst o q=>
    cases k;cases h;obtain⟨l,J,p,_⟩:=I.list o.sq;exact⟨SeqAt.RcAt.str_list _ _ p.isList f,SeqAt.RcNeAt.str_list _ _ p.isList f,SeqAt.EqAt.str_list _ _ p.isList f⟩
   |_=>cases h
  | @tup L vs1 N r s1 F=>
   cases R;obtain⟨m,z,i,_⟩:=I.tuple s1;cases E with
   |non=>cases k;cases h;exact⟨SeqAt.RcAt.tuple_none i f,SeqAt.RcNeAt.tuple_none i f,SeqAt.EqAt.tuple_none i f⟩
   |bl=>cases k;cases h;exact⟨SeqAt.RcAt.tuple_bool _ i f,SeqAt.RcNeAt.tuple_bool _ i f,SeqAt.EqAt.tuple_bool _ i f⟩
   |int=>obtain⟨t,rfl⟩:=k;cases h;exact⟨SeqAt.RcAt.tuple_int _ _ i f,SeqAt.RcNeAt.tuple_int _ _ i f,SeqAt.EqAt.tuple_int _ _ i f⟩
   |str=>obtain⟨t,rfl⟩:=k;cases h;exact⟨SeqAt.RcAt.tuple_str _ _ i f,SeqAt.RcNeAt.tuple_str _ _ i f,SeqAt.EqAt.tuple_str _ _ i f⟩
   | @tup M vs2 P r' o q=>
    cases k;obtain⟨g,w,B,_⟩:=I.tuple o;obtain⟨k1,k2⟩:=Pv h;have Y:=W F q z w k1;have Z:((List.range<|min m.toArray.size g.toArray.size).all (Cg (Yj n) N P)&&m.toArray.size==g.toArray.size)=b:=by
     rw[k2,zzH,zzH,<-z.length,<-w.length,F.length,q.length]
    have U:=SeqAt.RcAt.tuples i B f Y;have b2:=SeqAt.RcNeAt.tuples i B f Y;rw[Z]at U b2;refine⟨U,b2, ?_⟩
    by_cases Q:L=M
    . have hb:=G rfl rfl Q;subst Q;rw[hb];exact SeqAt.EqAt.same _
    . exact SeqAt.EqAt.of_refs Q U
   |lst o q=>
    cases k;cases h;obtain⟨l,J,p,_⟩:=I.list o.sq;exact⟨SeqAt.RcAt.tuple_list i p.isList f,SeqAt.RcNeAt.tuple_list i p.isList f,SeqAt.EqAt.tuple_list i p.isList f⟩
   |_=>cases h
  | @lst L vs1 N s1 F=>
   cases R;obtain⟨m,z,i,_⟩:=I.list s1.sq;cases E with
   |non=>cases k;cases h;exact⟨SeqAt.RcAt.list_none i.isList f,SeqAt.RcNeAt.list_none i.isList f,SeqAt.EqAt.list_none i.isList f⟩
   |bl=>cases k;cases h;exact⟨SeqAt.RcAt.list_bool _ i.isList f,SeqAt.RcNeAt.list_bool _ i.isList f,SeqAt.EqAt.list_bool _ i.isList f⟩
   |int=>obtain⟨t,rfl⟩:=k;cases h;exact⟨SeqAt.RcAt.list_int _ _ i.isList f,SeqAt.RcNeAt.list_int _ _ i.isList f,SeqAt.EqAt.list_int _ _ i.isList f⟩
   |str=>obtain⟨t,rfl⟩:=k;cases h;exact⟨SeqAt.RcAt.list_str _ _ i.isList f,SeqAt.RcNeAt.list_str _ _ i.isList f,SeqAt.EqAt.list_str _ _ i.isList f⟩
   |tup r' o q=>
    cases k;cases h;obtain⟨g,w,B,_⟩:=I.tuple o;exact⟨SeqAt.RcAt.list_tuple i.isList B f,SeqAt.RcNeAt.list_tuple i.isList B f,SeqAt.EqAt.list_tuple i.isList B f⟩
   | @lst M vs2 P o q=>
    cases k;obtain⟨g,w,B,_⟩:=I.list o.sq;obtain⟨k1,k2⟩:=Pv h;have Y:=W F q z w k1;have ez1:=zzH.trans<|z.length.symm.trans F.length;have ez2:=zzH.trans<|w.length.symm.trans q.length;have C:SeqAt.RcAt A s (.ref L) (.ref M) b/\SeqAt.RcNeAt A s (.ref L) (.ref M) (!b):=by
     by_cases hz:m.toArray.size=g.toArray.size
     . have U:=SeqAt.RcAt.lists i.isList B.isList hz f Y;have b2:=SeqAt.RcNeAt.lists i.isList B.isList hz f Y;have Z:(List.range m.toArray.size).all (Cg (Yj n) N P)=b:=by
        rw[k2,<-ez1,<-ez2,<-hz,Nat.min_self];simp
       rw[Z]at U b2;exact⟨U,b2⟩
     . have hz':(m.toArray.size != g.toArray.size)=true:=by simpa using hz
       have Z:b=false:=by
        rw[k2,<-ez1,<-ez2];have:(m.toArray.size==g.toArray.size)=false:=by simpa using hz
        rw[this,Bool.and_false]
       rw[Z];exact⟨SeqAt.RcAt.lists_lengths i.isList B.isList hz' f,SeqAt.RcNeAt.lists_lengths i.isList B.isList hz' f⟩
    refine⟨C.1,C.2, ?_⟩
    by_cases Q:L=M
    . have hb:=G rfl rfl Q;subst Q;rw[hb];exact SeqAt.EqAt.same _
    . exact SeqAt.EqAt.of_refs Q C.1
   |_=>cases h
  |_=>cases h
end
structure DkAt(P:Program)(w:World)(h:Heap)(a:Addr)(kvs:List (Key×V)):Prop where
 le:kvs.length<=sizeLine
 ns:(a==sysModules)=false
 ex:∃vs,KV kvs vs/\h.DictOf (xR P w) a vs
structure KdOk(X:Cx)(kd:KD):Prop where
 inj:∀a k k',kd a k->kd a k'->k=k'
 inK:∀a k,kd a k->∃o,X.K.lookup a=some o
 at_:∀a k h,kd a k->X.K.In h->DkAt X.prog X.w h a k
section
variable{X:Cx}{kd:KD}{pins:List (Addr×Obj)}{σ:St}{H:Hp}{s:Shared}{O:Addr->Prop}
def PH(I:Inv X pins σ H s)(hk:KdOk X kd)(h:Rd H a (.dK kvs)\/kd a kvs):DkAt X.prog X.w s.heap a kvs:=by
 rcases h with h|h
 . obtain⟨z,hd,vs,rel,dd⟩:=oP I.hok h;exact⟨z,hd,vs,rel,dd⟩
 . exact hk.at_ _ _ _ h I.kIn
theorem OS(I:Inv X pins σ H s):∀(n:Nat) (v:V) (d e x:D) (b c:Bool),Vw X.K kd O H v d->Vw X.K kd O H v e->Yj n d x=some b->Yj n e x=some c->b=c
 |0,_,_,_,_,_,_,_,_,h,_=>by cases h
 |n+1,v,d,e,x,b,c,h1,h2,h,h'=>by
  have lst:∀vs (ds es xs:List D) (b c:Bool),RpL X.K kd O H vs ds->RpL X.K kd O H vs es->AU (Yj n) ds xs=some b->AU (Yj n) es xs=some c->b=c:=by
   intro vs
   induction vs with
   |nil=>intro ds es xs b c r1 r2 h h';cases r1;cases r2;exact zzZ (h.symm.trans h')
   |cons v vs ih=>
    intro ds es xs b c r1 r2 h h';cases r1 with
    |cons a1 r1=>
     cases r2 with
     | cons a2 r2=>
            cases xs with
            |nil=>cases h;cases h';rfl
            |cons x xs=>
             obtain⟨b1,k1,h⟩:=bS_<|h;obtain⟨c1,k2,h⟩:=bS_ h;obtain⟨b2,k3,h'⟩:=bS_<|h';obtain⟨c2,k4,h'⟩:=bS_ h';cases h;cases h';rw[OS I n _ _ _ _ _ _ a1.vw a2.vw k1 k3,ih _ _ _ _ _ r1 r2 k2 k4]
  cases h1 with
  |tup r1 s1 l1=>
   cases h2 with
   |tup r2 s2 l2=>
    have:=I.tuple_inj s1 s2;subst this;cases x with
    |tup xs=>exact lst _ _ _ _ _ _ l1 l2 h h'
    |_=>exact zzZ (h.symm.trans h')
   |lst s2 l2=>exact(FM I s1 s2.sq).elim
   |_=>cases h'
  |lst s1 l1=>
   cases h2 with
   |tup r2 s2 l2=>exact(FM I s2 s1.sq).elim
   |lst s2 l2=>
    have:=I.list_inj s1.sq s2.sq;subst this;cases x with
    |lst xs=>exact lst _ _ _ _ _ _ l1 l2 h h'
    |_=>exact zzZ (h.symm.trans h')
   |_=>cases h'
  |dct s1 l1=>cases h
  |cl=>cases h
  |ob=>cases h
  |_=>cases h2;exact zzZ<|h.symm.trans h'
end
noncomputable def JL:D->Option Key
 | .int i=>some<|.inl i
 | .str x=>some (.inr x)
 |_=>none
noncomputable def Kf(kvs:List (Key×D))(k:Key):Option D:=(kvs.find? λkv=>decide (kv.1=k)).map (·.2)
def Lj{K O}(k)(h:RpM K kd O H vs ds):(∃v d,QG vs k=some v/\Kf ds k=some d/\Rp K kd O H v d)\/(QG vs k=none/\Kf ds k=none):=
 RpM.ind (P:=λvs ds=>(∃v d,QG vs k=some v/\Kf ds k=some d/\Rp K kd O H v d)\/(QG vs k=none/\Kf ds k=none)) (.inr ⟨rfl,rfl⟩) (λ{k' v d vs ds} a _ ih=>by
  by_cases e:k'=k
  . left;refine⟨_,_, ?_, ?_,a⟩
    . unfold QG;simp[e]
    . unfold Kf;simp[e]
  . rcases ih with⟨v,d,h1,h2,h3⟩|⟨h1,h2⟩
    . left;refine⟨v,d, ?_, ?_,h3⟩
      . unfold QG at h1 ⊢;simpa[e]using h1
      . unfold Kf at h2 ⊢;simpa[e]using h2
    . right;refine⟨?_, ?_⟩
      . unfold QG at h1 ⊢;simpa[e]using h1
      . unfold Kf at h2 ⊢;simpa[e]using h2) h
noncomputable def anyF(f:D->Option Bool):List D->Option Bool
 | []=>some false
 |x::r=>(f x).bind λb=>(anyF f r).bind λc=>some (b||c)
noncomputable def Ae(b:Bool):R0:=.im<|.bl b
def j9(x:D):D->Option Bool
 | .lst ys=>anyF (λy=>Yj 50 y x) ys
 | .tup ys=>anyF (λy=>Yj 50 y x) ys
 | .str y=>match x with | .str i=>some (!(Builtin.Str.occurrences y i 0 y.length 1).isEmpty)|_=>none
 | .dct kvs=>(JL x).bind λk=>some (Kf kvs k).isSome
 |_=>none
noncomputable def lI:D->D->Option Bool
 |d,.non=>some (match d with | .non=>true|_=>false)
 |d,.bl b=>match d with | .bl c=>some (c==b)|_=>some false
 |_,_=>none
def Bw(f:Int->Int->Bool):D->D->Option R0:=AR λi j=>some<|Ae<|f i j
def zw(o:CmpOp)(d e:D):Option R0:=match o with
 | .Eq=>(Yj 60 d e).bind λb=>some<|Ae b
 | .NotEq=>(Yj 60 d e).bind λb=>some<|Ae !b
 | .Lt=>Bw (λi j=>decide (i<j)) d e
 | .LtE=>Bw (λi j=>decide (i<=j)) d e
 | .Gt=>Bw (λi j=>decide (j<i)) d e
 | .GtE=>Bw (λi j=>decide (j<=i)) d e
 | .In=>(j9 d e).bind λb=>some<|Ae b
 | .NotIn=>(j9 d e).bind λb=>some<|Ae !b
 | .Is=>(lI d e).bind λb=>some<|Ae b
 | .IsNot=>(lI d e).bind λb=>some<|Ae !b
def Wh{o:Option Bool}{f:Bool->Bool}(h:(o.bind λb=>some<|Ae<|f b)=some r):∃k,r = .im (.bl k):=by
 obtain⟨b,_,h⟩:=bS_ h;cases h;exact⟨_,rfl⟩
def U4(h:Bw f x y=some r):∃k,r = .im (.bl k):=by
 obtain⟨i,_,h⟩:=bS_<|h;obtain⟨j,_,h⟩:=bS_ h;cases h;exact⟨_,rfl⟩
def JK(op:CmpOp)(x y:D)(r)(h:zw op x y=some r):∃k,r = .im (.bl k):=by
 cases op with
 |Eq=>exact Wh h
 |NotEq=>exact Wh h
 |Lt=>exact U4 h
 |LtE=>exact U4 h
 |Gt=>exact U4 h
 |GtE=>exact U4 h
 |In=>exact Wh h
 |NotIn=>exact Wh h
 |Is=>exact Wh h
 |IsNot=>exact Wh h
section
variable{X:Cx}{kd:KD}{pins:List (Addr×Obj)}{σ:St}{H:Hp}{s:Shared}{O:Addr->Prop}
noncomputable def Ag(K:zzA)(kd:KD)(O:Addr->Prop)(H:Hp)(n:Nat)(x:D)(u:Value):Bool:=@decide (∃v d,RelV v u/\Rp K kd O H v d/\Yj n d x=some true)<|Classical.propDecidable _
def KQ(I:Inv X pins σ H s)(hk:KdOk X kd){n:Nat}(r:RelV v u)(p:Rp X.K kd O H v d)(e:Yj n d x=some b):Ag X.K kd O H n x u=b:=by
 cases b with
 |true=>exact @zyO _ (Classical.propDecidable _) ⟨v,d,r,p,e⟩
 |false=>
  refine @zyG _ (Classical.propDecidable _) λ⟨v',d',r',p',e'⟩=>?_;have:=r.inj r';subst this;exact Bool.noConfusion<|OS I n _ _ _ _ _ _ p.vw p'.vw e e'
def U2(I:Inv X pins σ H s)(hk:KdOk X kd){n:Nat}(hv:zQ vs us)(h:RpL X.K kd O H vs ds)(e:anyF (λy=>Yj n y x) ds=some b):us.any (Ag X.K kd O H n x)=b:=
 RpL.ind (P:=λvs ds=>∀us b,zQ vs us->anyF _ ds=some b->us.any _=b) (λus b hv e=>by cases e;cases hv;rfl) (λ{v d vs ds} a _ ih us b hv h=>by
  cases hv with
  |cons r t=>
   obtain⟨b1,h1,h⟩:=bS_<|h;obtain⟨c1,h2,h⟩:=bS_ h;cases h;rw[List.any_cons,KQ I hk r a h1,ih _ _ t h2]) h us b hv e
theorem Yl:∀{ds:List D}{b:Bool},anyF f ds=some b->∀d ∈ ds,∃c,f d=some c
 | [],_,_,d,hd=>by simp at hd
 |x::r,b,h,d,hd=>by
  obtain⟨b1,h1,h⟩:=bS_<|h;obtain⟨c1,h2,h⟩:=bS_ h
  rcases zzC.mp hd with e|e
  . subst e;exact⟨b1,h1⟩
  . exact Yl h2 d e
def Vm(I:Inv X pins σ H s)(hk:KdOk X kd){n:Nat}(hu:A.units+n<cLine)(vx:Vw X.K kd O H x d)(rx:RelV x v)(hv:zQ vs us)(h:RpL X.K kd O H vs ds)(k:∀e ∈ ds,∃c,Yj n e d=some c):∀u ∈ us,SeqAt.EqAt A s u v (Ag X.K kd O H n d u):=
 RpL.ind (P:=λvs ds=>∀us,zQ vs us->(∀e ∈ ds,∃c,Yj n e d=some c)->∀u ∈ us,SeqAt.EqAt A s u v<|Ag X.K kd O H n d u) (λus hv _ u hu=>by cases hv;simp at hu) (λa q ih us hv h u hm=>by
  cases hv with
  |cons r t=>
   rcases zzC.mp hm with e|e
   . subst e;obtain⟨c,hc⟩:=h _ zzF;rw[KQ I hk r a hc];exact(Lm I n A _ _ _ _ _ _ _ hu a.vw vx r rx hc).eq
   . exact ih _ t (λe he=>h e<|zzD _ he) u e) h us hv k
def Rb(vx:Vw X.K kd O H x d)(rx:RelV x v)(e:lI d (.bl b)=some c)(h:Q c s):wpAny (model X.prog X.w) A (isSame v<|.bool b) Q E s:=by
 cases vx with
 |non=>cases rx;cases e;exact zxE h
 |bl k=>
  cases rx;cases e;refine zxE ?_;cases k<;>cases b<;>exact h
 |int=>obtain⟨t,rfl⟩:=rx;cases e;exact zxE h
 |str=>obtain⟨t,rfl⟩:=rx;cases e;exact zxE h
 |tup=>cases rx;cases e;exact zxE h
 |lst=>cases rx;cases e;exact zxE h
 |dct=>cases rx;cases e;exact zxE h
 |cl=>cases rx;cases e;exact zxE h
 |ob=>cases rx;cases e;exact zxE h
def Lb(hk:KdOk X kd)(hu:X.A.units+100<cLine)(op):sy X kd (compareOp op) (zw op):=by
 intro pins s σ H x y v u Q I rx ry h;obtain⟨O,d,e,r,ht,vx,vy,he,q⟩:=h;cases op with
 |Eq=>
  obtain⟨b,h1,he⟩:=bS_<|he;cases he;exact(Lm I 60 X.A x y d e v u b (q1l hu) vx vy rx ry h1).rc _ _ _ _ (wo I (z9 q<|.bl _) rfl)
 |NotEq=>
  obtain⟨b,h1,he⟩:=bS_<|he;cases he;exact(Lm I 60 X.A x y d e v u b (q1l hu) vx vy rx ry h1).ne _ _ _ _ (wo I (z9 q<|.bl _) rfl)
 |Lt=>
  obtain⟨i,j,rfl,rfl,he⟩:=YN vx vy he;cases he;exact qd pins s σ H _ _ v u Q I rx ry ⟨_,_,rfl,rfl,z9 q<|.bl _⟩
 |LtE=>
  obtain⟨i,j,rfl,rfl,he⟩:=YN vx vy he;cases he;exact oG pins s σ H _ _ v u Q I rx ry ⟨_,_,rfl,rfl,z9 q<|.bl _⟩
 |Gt=>
  obtain⟨i,j,rfl,rfl,he⟩:=YN vx vy he;cases he;exact qm pins s σ H _ _ v u Q I rx ry ⟨_,_,rfl,rfl,z9 q<|.bl _⟩
 |GtE=>
  obtain⟨i,j,rfl,rfl,he⟩:=YN vx vy he;cases he;exact p7 pins s σ H _ _ v u Q I rx ry ⟨_,_,rfl,rfl,z9 q<|.bl _⟩
 |In=>
  obtain⟨b,h1,he⟩:=bS_<|he;cases he;cases vy with
  |lst hs rl=>
   cases ry;obtain⟨its,rv,p,_⟩:=I.list hs.sq;refine SeqAt.in_listAt _ p.isList (λw hw=>Vm I hk (by show X.A.units+1+50<cLine;exact q0d hu) vx rx rv rl (Yl h1) w<|by simpa using hw) ?_;have:=U2 I hk rv rl h1;rw[show its.toArray.any _=b by rw[<-this];simp];exact wo (I) (z9 q<|.bl _) rfl
  |tup rp hs rl=>
   cases ry;obtain⟨its,rv,p,_⟩:=I.tuple hs;refine SeqAt.in_tupleAt _ p (λw hw=>Vm I hk (by show X.A.units+1+50<cLine;exact q0d hu) vx rx rv rl (Yl h1) w<|by simpa using hw) ?_;have:=U2 I hk rv rl h1;rw[show its.toArray.any _=b by rw[<-this];simp];exact wo (I) (z9 q<|.bl _) rfl
  |str z=>
   cases vx with
   |str i=>cases h1;exact Bq pins s σ H _ _ v u Q I rx ry ⟨_,_,rfl,rfl,z9 q<|.bl _⟩
   |_=>cases h1
  |dct hs rm=>
   cases ry;obtain⟨k,k1,h1⟩:=bS_ h1;cases h1;obtain⟨z,hd,vs,rel,dd⟩:=PH I hk hs;have ek:x=kV k:=by
    cases vx with
    |int i=>cases k1;rfl
    |str i=>cases k1;rfl
    |_=>cases k1
   subst ek;refine wpAny_in_of (EV rx) hd dd.mapOf ?_;rw[<-(rel.val k).isSome_eq]
   rcases Lj k rm with⟨v1,d1,e1,e2,_⟩|⟨e1,e2⟩
   . rw[e1];rw[e2]at q;exact wo (I.tok _) (z9 q<|.bl _) rfl
   . rw[e1];rw[e2]at q;exact wo (I.tok _) (z9 q<|.bl _) rfl
  |_=>cases h1
 |NotIn=>
  obtain⟨b,h1,he⟩:=bS_<|he;cases he;cases vy with
  |lst hs rl=>
   cases ry;obtain⟨its,rv,p,_⟩:=I.list hs.sq;refine SeqAt.notIn_listAt _ p.isList (λw hw=>Vm I hk (by show X.A.units+1+50<cLine;exact q0d hu) vx rx rv rl (Yl h1) w<|by simpa using hw) ?_;have:=U2 I hk rv rl h1;rw[show its.toArray.any _=b by rw[<-this];simp];exact wo (I) (z9 q<|.bl _) rfl
  |tup rp hs rl=>
   cases ry;obtain⟨its,rv,p,_⟩:=I.tuple hs;refine SeqAt.notIn_tupleAt _ p (λw hw=>Vm I hk (by show X.A.units+1+50<cLine;exact q0d hu) vx rx rv rl (Yl h1) w<|by simpa using hw) ?_;have:=U2 I hk rv rl h1;rw[show its.toArray.any _=b by rw[<-this];simp];exact wo (I) (z9 q<|.bl _) rfl
  |str z=>
   cases vx with
   |str i=>cases h1;exact GZ pins s σ H _ _ v u Q I rx ry ⟨_,_,rfl,rfl,z9 q<|.bl _⟩
   |_=>cases h1
  |dct hs rm=>
   cases ry;obtain⟨k,k1,h1⟩:=bS_ h1;cases h1;obtain⟨z,hd,vs,rel,dd⟩:=PH I hk hs;have ek:x=kV k:=by
    cases vx with
    |int i=>cases k1;rfl
    |str i=>cases k1;rfl
    |_=>cases k1
   subst ek;refine wpAny_notIn_of (EV rx) hd dd.mapOf ?_;rw[<-(rel.val k).isSome_eq]
   rcases Lj k rm with⟨v1,d1,e1,e2,_⟩|⟨e1,e2⟩
   . rw[e1];rw[e2]at q;exact wo (I.tok _) (z9 q<|.bl _) rfl
   . rw[e1];rw[e2]at q;exact wo (I.tok _) (z9 q<|.bl _) rfl
  |_=>cases h1
 |Is=>
  obtain⟨b,h1,he⟩:=bS_<|he;cases he;cases vy with
  |non=>
   refine uC pins s σ H _ _ v u Q I rx ry ⟨rfl, ?_⟩;have:decide (x=V.non)=b:=by cases vx<;>(cases h1;rfl)
   rw[this];exact z9 q (.bl b)
  |bl c=>
   cases ry;exact zxD (Rb vx rx h1<|zxE<|wo I (z9 q<|.bl _) rfl)
  |_=>cases h1
 |IsNot=>
  obtain⟨b,h1,he⟩:=bS_<|he;cases he;cases vy with
  |non=>
   refine Ig pins s σ H _ _ v u Q I rx ry ⟨rfl, ?_⟩;have:decide (x=V.non)=b:=by cases vx<;>(cases h1;rfl)
   rw[this];exact z9 q (.bl _)
  |bl c=>
   cases ry;exact zxD (Rb vx rx h1<|zxE<|wo I (z9 q<|.bl _) rfl)
  |_=>cases h1
end
def EL{K kd O H vs ds i d}(r:RpL K kd O H vs ds)(h:atI ds i=some d):∃v,atI vs i=some v/\Rp K kd O H v d:=by
 unfold atI at ⊢;obtain⟨j,a,b⟩:=bS_ h;rw[r.length,a];exact r.get b
noncomputable def O_(o:Option D):Option R0:=o.bind λd=>some<|.im d
def zx(x y:D):Option R0:=match x with
 | .lst xs=>(FA y).bind λi=>O_<|atI xs i
 | .tup xs=>(FA y).bind λi=>O_<|atI xs i
 | .str x=>(FA y).bind λi=>if x.length<=sizeLine then(atI x.cps.toList i).bind λc=>some (.im<|.str ⟨#[c]⟩)else none
 | .dct kvs=>(JL y).bind λk=>O_ (Kf kvs k)
 |_=>none
def Pn(h:O_ o=some r):∃d,o=some d/\r = .im d:=by
 obtain⟨d,a,b⟩:=bS_<|h;cases b;exact⟨d,a,rfl⟩
section
variable{X:Cx}{kd:KD}
def OV{K O H x d k}(vx:Vw K kd O H x d)(e:JL d=some k):x=kV k:=by
 cases vx with
 |int i=>cases e;rfl
 |str i=>cases e;rfl
 |_=>cases e
def lY(hk:KdOk X kd):ig X kd zx:=by
 intro b f g s σ H x y v u Q I A B h C;obtain⟨O,d,e,r,U,P,D,a,q⟩:=h;cases P with
 |lst m E=>
  obtain⟨i,n,a⟩:=bS_<|a;obtain⟨rfl,rfl⟩:=Yz D n;obtain⟨d,l,rfl⟩:=Pn a;obtain⟨w,p,j⟩:=EL E l;exact Js b f g s σ H _ _ v u Q I A B ⟨_,_,_,w,rfl,rfl,m.sq,p,z9 q j⟩ C
 |tup J m E=>
  obtain⟨i,n,a⟩:=bS_<|a;obtain⟨rfl,rfl⟩:=Yz D n;obtain⟨d,l,rfl⟩:=Pn a;obtain⟨w,p,j⟩:=EL E l;exact sC b f g s σ H _ _ v u Q I A B ⟨_,_,_,w,rfl,rfl,m,p,z9 q j⟩ C
 |str z=>
  obtain⟨i,n,a⟩:=bS_<|a;obtain⟨rfl,rfl⟩:=Yz D n;obtain⟨R,a⟩:=ite_some' a;obtain⟨c,l,a⟩:=bS_ a;cases a;exact DJ b f g s σ H _ _ v u Q I A B ⟨_,_,c,rfl,rfl,R,l,z9 q<|.str _⟩ C
 |dct m S=>
  obtain⟨k,l,a⟩:=bS_<|a;obtain⟨d,K,rfl⟩:=Pn a;cases A;obtain⟨z,V,T,G,L⟩:=PH I hk m;have:=OV D l;subst this
  rcases Lj k S with⟨M,W,N,t,J⟩|⟨N,t⟩
  . rw[K]at t;cases t;obtain⟨Y,p,j⟩:=VA.some_of (by rw[<-N];exact G.val k);exact tail_any L.typeIs PySem.F.slot_dict_getitem.lookup (wpAny_getItem_of (EV B) L.mapOf p ⟨M,H,I.tok _,j,z9 q J⟩) C
  . rw[K]at t;cases t
 |_=>cases a
def cutD(xs:List D)(lo hi:Option Int):List D:=(xs.drop<|HT.sIx xs.length 0 lo).take<|HT.sIx xs.length xs.length hi-HT.sIx xs.length 0 lo
def Fv{K O H vs ds}(r:RpL K kd O H vs ds)(lo hi):RpL K kd O H (FS vs lo hi) (cutD ds lo hi):=by
 unfold FS;rw[r.length];exact(r.drop _).take _
def Wx(x:D)(lo hi:Option Int):Option R0:=match x with
 | .lst xs=>some<|.fl<|cutD xs lo hi
 | .tup xs=>if HT.sIx xs.length 0 lo=0/\HT.sIx xs.length xs.length hi=xs.length then none else some (.im<|.tup<|cutD xs lo hi)
 |_=>none
abbrev OF:=AS->Option (Option Int×AS)
noncomputable def oN:OF:=λas=>some (none,as)
def oS(f:EF):OF:=λas=>(f as).bind λp=>(jD p.1).bind λi=>some (some i,p.2)
def Xr(fa:EF)(fl fh:OF)(g:D->Option Int->Option Int->Option R0):EF:=λas=>(fa as).bind λp=>(fl p.2).bind λl=>(fh l.2).bind λh=>(p.1.frz.view h.2).bind λx=>(g x.1 l.1 h.1).bind λr=>(wrap x.2 r).bind λz=>some (z,h.2)
def iB(K:zzA)(kd:KD)(f:OF):TO:=λσ H Q=>∃F B ad as o as',Rel K kd F B [] ad as σ H/\f as=some (o,as')/\
 ∀ad' H',Rel K kd F B [] ad' as' σ H'->Grow (Gw [] ad) H (Gw [] ad') H'->Q o H'
@[irreducible] def AO(X:Cx)(kd:KD)(e:Option Expr)(f:OF):Prop:=PO X e<|iB X.K kd f
def Hq(h:PO X e t)(k:∀σ H Q,t' σ H Q->t σ H Q):PO X e t':=λa s σ H Q I q=>h a s σ H Q I<|k σ H Q q
def Cc:AO X kd none oN:=by with_unfolding_all exact(Hq CW λσ H Q h=>by
 obtain⟨F,B,a,as,o,b,R,e,q⟩:=h;cases e;exact q a H R Grow.refl)
def u5{K F B T ad σ H v st c}(h:xj K kd F B T ad σ H v (.ow<|.lf st<|.int c)):T=[]/\v = .int c:=by
 cases h with
 |lf a=>cases a;exact ⋯
def EZ{a fa}(ha:AE X kd a fa):AO X kd (some a) (oS fa):=by with_unfolding_all exact(Hq (CO ha) λσ H Q h=>by
 obtain⟨F,B,d,as,o,f,R,e,q⟩:=h;obtain⟨⟨p,g⟩,j,e⟩:=bS_<|e;obtain⟨i,k,e⟩:=bS_ e;obtain⟨r,rfl⟩:=tR k;cases e;refine⟨F,B,d,as,_,_,R,j,λv s b l m c n=>?_⟩;obtain⟨rfl,rfl⟩:=u5 c;exact⟨i,rfl,q b l m n⟩)
def lL:n6 X (λx lo hi H Q=>∃O d r,(∀a,O a->H a≠none)/\Vw X.K kd O H x d/\Wx d lo hi=some r/\RQ X.K kd O H Q r):=by
 intro b s σ H x v j k e f l Q I m n o p h;obtain⟨O,d,r,t,u,c,q⟩:=h;cases u with
 |lst i g=>cases c;exact Iw b s σ H _ v j k e f l Q I m n o p ⟨_,_,rfl,i.sq,QN q<|Fv g e f⟩
 |tup y i g=>
  have c:(if _ then none else some _:Option R0)=_:=c
  split at c
  . cases c
  . rename_i w;cases c;exact Dm b s σ H _ v j k e f l Q I m n o p ⟨_,_,rfl,i,by rw[g.length];exact w,Pj t q<|Fv g e f⟩
 |_=>cases c
def HY{a lo hi fa fl fh pos p2}(ha:AE X kd a fa)(hl:AO X kd lo fl)(hh:AO X kd hi fh):AE X kd (.Subscript a (.Slice lo hi none p2) pos) (Xr fa fl fh Wx):=by with_unfolding_all exact(yk (B7 lL ha hl hh) λσ H Q h=>by
 obtain⟨F,B,O,as,r,s,R,e,q⟩:=h;obtain⟨⟨p,c⟩,t,e⟩:=bS_<|e;obtain⟨⟨l,b⟩,x,e⟩:=bS_ e;obtain⟨⟨u,y⟩,A,e⟩:=bS_ e;obtain⟨⟨d,P⟩,C,e⟩:=bS_ e;obtain⟨D,E,e⟩:=bS_ e;obtain⟨z,G,e⟩:=bS_ e;cases e;refine wZ R t λv f S I g J=>⟨F,B,f,c,l,b,I,x,λi T R2 n=>⟨F,B,i,b,u,_,R2,A,λj U k o=>?_⟩⟩;exact⟨_,d,D,k.tr _,xj.vw k ((g.grow n).grow o) C,E,ZT k G λw K L M m N=>q w K j L M m<|((J.trans n).trans o).trans N⟩)
noncomputable def P9:D->Option R0
 | .int i=>some (.im<|.int (-i))
 |_=>none
def lh:jr X kd (unaryOp .USub) P9:=by
 intro a s σ H x v Q I c h;obtain⟨O,d,r,f,e,b,q⟩:=h;cases e with
 |int i=>cases b;exact uQ a s σ H _ v Q I c ⟨i,rfl,z9 q<|.int _⟩
 |_=>cases b
noncomputable def oE:D->String
 | .non=>"NoneType" | .bl _=>"bool" | .int _=>"int" | .str _=>"str" | .tup _=>"tuple" | .lst _=>"list" | .dct _=>"dict"|_=>""
noncomputable def Im:D->Bool
 | .cl _=>false | .ob _ _ _=>false|_=>true
noncomputable def EY(t c:String):Bool:=t==c||(t=="bool"&&c=="int")
noncomputable def V3(c:String):Bool:=c=="int"||c=="bool"||c=="str"||c=="list"||c=="tuple"||c=="dict"
def tI(K)(d)(c)(h:V3 c=true)(ho:Im d=true):W.kitOne K (.type<|oE d) (.type c)=some (EY (oE d) c):=by
 have:c="int"\/c="bool"\/c="str"\/c="list"\/c="tuple"\/c="dict":=by
  unfold V3 at h;simp at h
  rcases h with((((h|h)|h)|h)|h)|h<;>simp[h]
 rcases this with rfl|rfl|rfl|rfl|rfl|rfl<;>cases d<;>first|rfl|cases ho
def tG(hk:KdOk X kd){pins σ H s O A E Q c x u d}(I:Inv X pins σ H s)(rx:RelV x u)(vx:Vw X.K kd O H x d)(hc:V3 c=true)(ho:Im d=true)
 (h:∀tk,Q (.bool<|EY (oE d) c) {s with toks:=tk}):wpAny (model X.prog X.w) A (call (.builtin "isinstance") [u,.type c]) Q E s:=by
 have e:=tI X.K d c hc ho;cases vx with
 |non=>cases rx;exact W.kia_one W.kitx_none I.kIn True.intro e ⋯ h
 |bl y=>cases rx;exact W.kia_one W.kitx_bool I.kIn True.intro e ⋯ h
 |int i=>obtain⟨t,rfl⟩:=rx;exact W.kia_one W.kitx_int I.kIn True.intro e ⋯ h
 |str y=>obtain⟨t,rfl⟩:=rx;exact W.kia_one W.kitx_str I.kIn True.intro e ⋯ h
 |lst a j=>
  cases rx;obtain⟨g,k,⟨o,n,b,f,_⟩,_⟩:=I.list a.sq;exact W.kia_one W.kitx_list I.kIn ⟨o,b,f⟩ e ⋯ h
 |tup m a j=>
  cases rx;obtain⟨g,k,⟨o,b,f,_⟩,_⟩:=I.tuple a;exact W.kia_one W.kitx_tuple I.kIn ⟨o,b,f⟩ e ⋯ h
 |dct a p=>
  cases rx;obtain⟨z,q,r,l,⟨o,v,B,b,f,_⟩⟩:=PH I hk a;exact W.kia_one W.kitx_dict I.kIn ⟨o,b,f.1⟩ e ⋯ h
 |cl=>cases ho
 |ob=>cases ho
end
noncomputable def Xw:List D->Option (List Int)
 | []=>some []
 | .int i::r=>(Xw r).bind λs=>some (i::s)
 |_::_=>none
noncomputable def oF:List Int->Int
 | []=>0
 |x::r=>r.foldl (λa b=>if a<b then b else a) x
noncomputable def oo:List Int->Int
 | []=>0
 |x::r=>r.foldl (λa b=>if b<a then b else a) x
theorem TH:∀(r:List Int) (x:Int),r.foldl (λa b=>if a<b then b else a) x ∈ x::r/\∀a ∈ x::r,a<=r.foldl (λa b=>if a<b then b else a) x
 | [],x=>⋯
 |y::r,x=>by
  rw[List.foldl_cons];obtain⟨h1,h2⟩:=TH r _;refine⟨?_,λa ha=>?_⟩
  . rcases zzC.mp h1 with e|e
    . rw[e];split<;>simp
    . exact zzD _<|zzD _ e
  . have h3:=h2 _ zzF
    rcases zzC.mp ha with e|e
    . subst e;exact Int.le_trans ⋯ h3
    . rcases zzC.mp e with e|e
      . subst e;exact Int.le_trans ⋯ h3
      . exact h2 a<|zzD _ e
theorem Gk:∀(r:List Int) (x:Int),r.foldl (λa b=>if b<a then b else a) x ∈ x::r/\∀a ∈ x::r,r.foldl (λa b=>if b<a then b else a) x<=a
 | [],x=>⋯
 |y::r,x=>by
  rw[List.foldl_cons];obtain⟨h1,h2⟩:=Gk r _;refine⟨?_,λa ha=>?_⟩
  . rcases zzC.mp h1 with e|e
    . rw[e];split<;>simp
    . exact zzD _<|zzD _ e
  . have h3:=h2 _ zzF
    rcases zzC.mp ha with e|e
    . subst e;exact Int.le_trans h3 ⋯
    . rcases zzC.mp e with e|e
      . subst e;exact Int.le_trans h3 ⋯
      . exact h2 a<|zzD _ e
def Jk(h1:M ∈ ns)(h2:∀a ∈ ns,a<=M):oF ns=M:=by
 cases ns with
 |nil=>simp at h1
 |cons x r=>
  obtain⟨k1,k2⟩:=TH r x;have a1:=k2 M h1;have a2:=h2 _ k1;show r.foldl _ x=M;exact q1x a2 a1
def Jn(h1:M ∈ ns)(h2:∀a ∈ ns,M<=a):oo ns=M:=by
 cases ns with
 |nil=>simp at h1
 |cons x r=>
  obtain⟨k1,k2⟩:=Gk r x;have a1:=k2 M h1;have a2:=h2 _ k1;show r.foldl _ x=M;exact q1x a1 a2
noncomputable def Du(f:D->Option R0)(ds:List D):Option R0:=match ds with
 | [x]=>f x
 |_=>none
def Qx{K O}(vl:VwL K kd O H xs ds)(h:Du f ds=some r):∃x d,xs=[x]/\Vw K kd O H x d/\f d=some r:=by
 cases vl with
 |nil=>cases h
 |cons a b=>
  cases b with
  |nil=>exact⟨_,_,rfl,a,h⟩
  |cons _ _=>cases h
def t9:D->Option R0
 | .lst ds=>some<|.im<|.int ds.length
 | .tup ds=>some<|.im<|.int ds.length
 | .str x=>if x.length<=sizeLine then some (.im<|.int x.length)else none
 | .dct kvs=>some (.im<|.int kvs.length)
 |_=>none
def yo:List D->Option R0:=Du t9
noncomputable def lu:D->Option R0
 | .int i=>some<|.im<|.int i
 | .bl b=>some (.im<|.int (if b then 1 else 0))
 |_=>none
noncomputable def tupP:List D->Option R0
 | [.lst ds]=>some<|.im<|.tup ds
 | [.tup ds]=>some (.im<|.tup ds)
 |_=>none
noncomputable def je:D->Option R0
 | .lst ds=>some<|.fl ds
 | .tup ds=>some (.fl ds)
 |_=>none
def lstP:List D->Option R0:=Du je
noncomputable def dctP:List D->Option R0
 | [.dct kvs]=>some (.fd kvs)
 |_=>none
def Tp(ds:List D):Option R0:=match ds with
 | [x,y]=>AR (λi j=>some<|.im<|.int (if j > i then j else i)) x y
 | [x]=>(sr x).bind λds=>(Xw ds).bind λns=>if 0<ns.length then some (.im<|.int<|oF ns)else none
 |_=>none
def P6:List D->Option R0
 | [.int i,.int j]=>some<|.im<|.int (if j<i then j else i)
 | [.lst ds]=>(Xw ds).bind λns=>if 0<ns.length then some (.im<|.int<|oo ns)else none
 |_=>none
def U0{K O}(h:VwL K kd O H xs [d]):∃x,xs=[x]/\Vw K kd O H x d:=by
 cases h with
 |cons a b=>cases b;exact⟨_,rfl,a⟩
def E2{K O}(h:VwL K kd O H xs [d,e]):∃x y,xs=[x,y]/\Vw K kd O H x d/\Vw K kd O H y e:=by
 cases h with
 |cons a b=>
  cases b with
  |cons b c=>cases c;exact⟨_,_,rfl,a,b⟩
def Nv{K O}(h:RpL K kd O H vs ds)(e:Xw ds=some ns):vs=ns.map V.int:=
 RpL.ind (P:=λvs ds=>∀ns,Xw ds=some ns->vs=ns.map V.int) (λns e=>by cases e;rfl) (λ{v d vs ds} a _ ih ns e=>by
  cases d with
  |int i=>
   obtain⟨s,h1,h2⟩:=bS_<|e;cases h2;cases a;rw[ih _ h1];rfl
  |_=>cases e) h ns e
section
variable{X:Cx}{kd:KD}
def BE(hk:KdOk X kd):ZW X kd (.builtin "len") yo:=by
 intro pins s σ H xs us Q I r h;obtain⟨O,ds,z,ht,vl,he,q⟩:=h;obtain⟨x,d,rfl,vx,he⟩:=Qx vl he;cases vx with
 |lst hr rl=>cases he;exact Vk pins s σ H _ us Q I r ⟨_,_,rfl,.inl hr.sq,by rw[rl.length];exact z9 q<|.int _⟩
 |tup rp hr rl=>cases he;exact Vk pins s σ H _ us Q I r ⟨_,_,rfl,.inr hr,by rw[rl.length];exact z9 q<|.int _⟩
 |str y=>
  obtain⟨c,rfl⟩:=zr he;exact G9 pins s σ H _ us Q I r ⟨_,rfl,c,z9 q<|.int _⟩
 |dct hr rm=>
  cases he;obtain⟨u,rfl,ru⟩:=vals1 r;cases ru;obtain⟨z,hd,vs,rel,dd⟩:=PH I hk hr;refine call_len_dict hd dd (by rw[<-rel.length];rw[sizeLine_eq]at z;omega) ?_;rw[<-rel.length,rm.length];exact⟨.int _,H,I.tok _,⟨_,rfl⟩,z9 q<|.int _⟩
 |_=>cases he
def FR:ZW X kd (.type "tuple") tupP:=by
 intro pins s σ H xs us Q I r h;obtain⟨O,ds,z,ht,vl,he,q⟩:=h;unfold tupP at he
 split at he
 . cases he;obtain⟨x,rfl,vx⟩:=U0 vl;cases vx with
   |lst hr rl=>exact WX pins s σ H _ us Q I r ⟨_,_,rfl,.inl ⟨hr.sq,Pj ht q rl⟩⟩
 . cases he;obtain⟨x,rfl,vx⟩:=U0 vl;cases vx with
   |tup rp hr rl=>exact WX pins s σ H _ us Q I r ⟨_,_,rfl,.inr ⟨hr,z9 q rp⟩⟩
 . cases he
def FU:ZW X kd (.type "list") lstP:=by
 intro pins s σ H xs us Q I r h;obtain⟨O,ds,z,ht,vl,he,q⟩:=h;obtain⟨x,d,rfl,vx,he⟩:=Qx vl he;cases vx with
 |lst hr rl=>cases he;exact VO pins s σ H _ us Q I r ⟨_,_,rfl,.inl hr.sq,QN q rl⟩
 |tup rp hr rl=>cases he;exact VO pins s σ H _ us Q I r ⟨_,_,rfl,.inr hr,QN q rl⟩
 |_=>cases he
def BL(hk:KdOk X kd):ZW X kd (.type "dict") dctP:=by
 intro pins s σ H xs us Q I r h;obtain⟨O,ds,z,ht,vl,he,q⟩:=h;unfold dctP at he
 split at he
 . cases he;obtain⟨x,rfl,vx⟩:=U0 vl;cases vx with
   |dct hr rm=>
    obtain⟨u,rfl,ru⟩:=vals1 r;cases ru;obtain⟨z,hd,vs,rel,dd⟩:=PH I hk hr;refine kt_call_dict hd dd (by rwa [<-rel.length]) λh' dd' hs=>?_;refine⟨.ref _,_,(I.laid (t':=s.toks) (λb q hq=>?_) (zzN _)<|Oo z (beq_eq_false_iff_ne.mpr<|Ne.symm<|zzQ I.big) rel dd'),rfl,S5 q rm _<|I.hok.fresh<|zzN _⟩;exact(hs.2 b<|zzQ<|zxG hq).trans<|zxF _ hq
 . cases he
def FT(hc:X.calm=true):ZW X kd (.builtin "max") Tp:=by
 intro pins s σ H xs us Q I r h;obtain⟨O,ds,z,ht,vl,he,q⟩:=h;cases vl with
 |nil=>cases he
 |cons vx vl=>
  cases vl with
  |nil=>
   obtain⟨ds,h0,he⟩:=bS_<|he;cases Qs h0;obtain⟨ns,h1,he⟩:=bS_ he;obtain⟨c,rfl⟩:=zr he;cases vx with
   |lst hr rl=>
    obtain⟨u,rfl,ru⟩:=vals1 r;cases ru;obtain⟨its,rv,p,_⟩:=I.list hr.sq;rw[Nv rl h1]at rv;have hi:=intsAre_of rv;obtain⟨ys,e⟩:=hi.allInts.items;have hns:ns=ys.toList.map (·.1):=by rw[<-hi.numsOf,<-nums_intItems,<-e]
    have hsz:0<ys.size:=by
     have h3:=c;rwa [hns,zzB]at h3
    have hl:=p.isList;rw[e]at hl;refine max_intList (I.ok.hd hc) hl hsz λv h' tk hv kp=>?_;obtain⟨t,rfl⟩:=intItems_at hv;obtain⟨k1,k2⟩:=argBest_gt (numAt ys)<|ys.size-1;refine⟨.int _,H,I.kept kp,⟨t, ?_⟩,z9 q<|.int _⟩
    congr 1
    refine(Jk ?_ λa ha=>?_).symm
    . rw[hns,numAt_eq];have hlt:argBest (λi j=>decide (numAt ys i > numAt ys j)) (ys.size-1)<(ys.toList.map (·.1)).length:=by rw[zzB,zyT];exact q0W hsz k1
      rw[zyF,zzE hlt];exact List.getElem_mem hlt
    . rw[hns]at ha;obtain⟨j,hj,rfl⟩:=List.getElem_of_mem ha;have hj':=hj;rw[zzB,zyT]at hj;have:=k2 j ⋯
      rwa [numAt_eq ys j,zyF,zzE hj']at this
  |cons vy vl=>
   cases vl with
   |nil=>
    obtain⟨i,j,rfl,rfl,he⟩:=YN vx vy he;cases he;exact Bn hc pins s σ H _ us Q I r ⟨_,_,rfl,z9 q<|.int _⟩
   |cons _ _=>cases he
def Bl(hc:X.calm=true):ZW X kd (.builtin "min") P6:=by
 intro pins s σ H xs us Q I r h;obtain⟨O,ds,z,ht,vl,he,q⟩:=h;unfold P6 at he
 split at he
 . cases he;obtain⟨x,y,rfl,vx,vy⟩:=E2 vl;cases vx;cases vy;exact BA hc pins s σ H _ us Q I r ⟨_,_,rfl,z9 q<|.int _⟩
 . obtain⟨ns,h1,he⟩:=bS_ he;obtain⟨c,rfl⟩:=zr he;obtain⟨x,rfl,vx⟩:=U0 vl;cases vx with
   |lst hr rl=>
    obtain⟨u,rfl,ru⟩:=vals1 r;cases ru;obtain⟨its,rv,p,_⟩:=I.list hr.sq;rw[Nv rl h1]at rv;have hi:=intsAre_of rv;obtain⟨ys,e⟩:=hi.allInts.items;have hns:ns=ys.toList.map (·.1):=by rw[<-hi.numsOf,<-nums_intItems,<-e]
    have hsz:0<ys.size:=by
     have h3:=c;rwa [hns,zzB]at h3
    have hl:=p.isList;rw[e]at hl;refine min_intList (I.ok.hd hc) hl hsz λv h' tk hv kp=>?_;obtain⟨t,rfl⟩:=intItems_at hv;obtain⟨k1,k2⟩:=argBest_lt (numAt ys)<|ys.size-1;refine⟨.int _,H,I.kept kp,⟨t, ?_⟩,z9 q<|.int _⟩
    congr 1
    refine(Jn ?_ λa ha=>?_).symm
    . rw[hns,numAt_eq];have hlt:argBest (λi j=>decide (numAt ys i<numAt ys j)) (ys.size-1)<(ys.toList.map (·.1)).length:=by rw[zzB,zyT];exact q0W hsz k1
      rw[zyF,zzE hlt];exact List.getElem_mem hlt
    . rw[hns]at ha;obtain⟨j,hj,rfl⟩:=List.getElem_of_mem ha;have hj':=hj;rw[zzB,zyT]at hj;have:=k2 j ⋯
      rwa [numAt_eq ys j,zyF,zzE hj']at this
 . cases he
end
noncomputable def ZG(env:Env):List (Str×NameKind)->List (Str×Addr)->List (Str×Addr)
 | [],cs=>cs
 |(n,k)::r,cs=>ZG env r (if k == .free then((n,(env.cells.lookup n).getD 0)::cs)else cs)
def WK(h:∀x ∈ scope.names,x.2 = .free->∃c,env.cells.lookup x.1=some c):closureFor scope env=pure (ZG env scope.names []):=by
 have s:∀b i f,
  (∀d g i,f (d,g) i=if g == .free then(do let a <-cellOf env d;pure (.yield ((d,a)::i)))else pure<|.yield i)->
  (∀x ∈ b,x.2 = .free->∃c,env.cells.lookup x.1=some c)->(forIn b i f:Sem _)=pure (ZG env b i):=by
  intro b
  induction b with
  |nil=>intro i f _ _;rfl
  |cons x r p=>
   intro i f l m;obtain⟨n,k⟩:=x;rw[List.forIn_cons,l];unfold ZG
   by_cases j:(k == .free)=true
   . obtain⟨c,q⟩:=m _ zzF (by simpa using j);rw[if_pos j,if_pos j];have e:cellOf env n=pure c:=by unfold cellOf;rw[q]
     rw[e,q];exact p _ f l λy o=>m y<|zzD _ o
   . rw[if_neg j,if_neg j];exact p _ f l λy o=>m y<|zzD _ o
 simp only[closureFor];rw[s scope.names [] _ (λd g i=>?_) h]
 . rfl
 . rfl
theorem Gu:∀(names:List (Str×NameKind)) (cs:List (Str×Addr)) (p:Str×Addr),p ∈ ZG env names cs->p ∈ cs\/((p.1,NameKind.free) ∈ names/\p.2=(env.cells.lookup p.1).getD 0)
 | [],_,_,h=>.inl h
 |(n,k)::r,b,p,h=>by
  rcases Gu r _ p h with h|h
  . by_cases a:(k == .free)=true
    . rw[if_pos a]at h
      rcases zzC.mp h with e|h
      . subst e;have:k = .free:=by simpa using a
        subst this;exact .inr ⟨zzF,rfl⟩
      . exact .inl h
    . rw[if_neg a]at h;exact .inl h
  . exact .inr ⟨zzD _ h.1,h.2⟩
theorem Rr:∀(names:List (Str×NameKind)) (cs:List (Str×Addr)) (p:Str×Addr),p ∈ cs->p ∈ ZG env names cs
 | [],_,_,h=>h
 |_::r,a,p,h=>by
  refine Rr r _ p ?_
  split
  . exact zzD _ h
  . exact h
theorem Gx:∀(names:List (Str×NameKind)) (cs:List (Str×Addr)) (x:Str),(x,NameKind.free) ∈ names->(x,(env.cells.lookup x).getD 0) ∈ ZG env names cs
 |_::r,a,x,h=>by
  rcases zzC.mp h with e|h
  . cases e;exact Rr r _ _ ⋯
  . exact Gx r _ x h
theorem Ye:∀{l:List (Str×α)},(∀p ∈ l,p.1=x->p.2=a)->(∃b,(x,b) ∈ l)->l.lookup x=some a
 | [],_,h=>by obtain⟨_,h⟩:=h;cases h
 |(k,v)::r,u,h=>by
  rw[List.lookup_cons];cases hb:x==k with
  |true=>
   have:=u _ zzF (beq_iff_eq.mp hb).symm;exact congrArg some this
  |false=>
   refine Ye (λp c=>u p<|zzD _ c) ?_;obtain⟨b,h⟩:=h
   rcases zzC.mp h with e|h
   . cases e;simp at hb
   . exact⟨b,h⟩
theorem QJ:∀(names:List (Str×NameKind)) (h:Heap) (acc:List (Str×Addr)) (p:Str×Addr),p ∈ cellsFrom h.objs.size names acc->
 p ∈ acc\/((p.1,NameKind.cell) ∈ names/\(pushCells h names).IsCell p.2 none/\h.objs.size<=p.2)
 | [],_,_,_,m=>.inl m
 |(n,k)::r,h,b,p,m=>by
  unfold cellsFrom at m;unfold pushCells
  split at m
  . rename_i a;rw[if_pos a];have e:(h.push {cls:=.type "cell",data:=.cell none}).objs.size=h.objs.size+1:=zxJ ..;rw[<-e]at m
    rcases QJ r _ _ p m with m|⟨c,d,f⟩
    . rcases zzC.mp m with g|m
      . subst g;have:k = .cell:=by simpa using a
        subst this;refine .inr ⟨zzF, ?_,zzN _⟩;have z:(h.push {cls:=.type "cell",data:=.cell none}).IsCell h.objs.size none:=⟨_,zxH _ rfl,rfl⟩;exact z.keeps<|pushCells_keeps r _
      . exact .inl m
    . exact .inr ⟨zzD _ c,d,by rw[e]at f;omega⟩
  . rename_i a;rw[if_neg a]
    rcases QJ r h b p m with m|⟨c,d,f⟩
    . exact .inl m
    . exact .inr ⟨zzD _ c,d,f⟩
theorem YF:∀(names:List (Str×NameKind)) (n:Nat) (acc:List (Str×Addr)) (p:Str×Addr),p ∈ acc->p ∈ cellsFrom n names acc
 | [],_,_,_,m=>m
 |_::r,n,a,p,m=>by
  unfold cellsFrom
  split
  . exact YF r _ _ p<|zzD _ m
  . exact YF r _ _ p m
theorem Qw:∀(names:List (Str×NameKind)) (n:Nat) (acc:List (Str×Addr)) (x:Str),(x,NameKind.cell) ∈ names->∃c,(x,c) ∈ cellsFrom n names acc
 |_::r,n,a,x,m=>by
  unfold cellsFrom
  rcases zzC.mp m with e|m
  . cases e;exact⟨n,YF r _ _ _ zzF⟩
  . split
    . exact Qw r _ _ x m
    . exact Qw r _ _ x m
theorem Qi:∀(names:List (Str×NameKind)) (n:Nat) (acc:List (Str×Addr)),(∀p ∈ acc,p.2<n)->(∀p ∈ acc,∀q ∈ acc,p.2=q.2->p.1=q.1)->∀p ∈ cellsFrom n names acc,∀q ∈ cellsFrom n names acc,p.2=q.2->p.1=q.1
 | [],_,_,_,h=>h
 |_::r,n,c,b,h=>by
  unfold cellsFrom
  split
  . refine Qi r _ _ (λp m=>?_) λp m q a e=>?_
    . rcases zzC.mp m with z|m
      . subst z;exact Nat.lt_succ_self _
      . exact zyZ<|b p m
    . rcases zzC.mp m with z|m
      . rcases zzC.mp a with d|a
        . rw[z,d]
        . subst z;have:=b q a;rw[<-e]at this;exact absurd this ⋯
      . rcases zzC.mp a with d|a
        . subst d;have:=b p m;rw[e]at this;exact absurd this ⋯
        . exact h p m q a e
  . exact Qi r n c b h
section
variable{M:Model}{A:Around}{E:Value->Shared->Prop}{s:Shared}
noncomputable def XA(scope:Scope)(env:Env)(cl:List (Str×Addr))(L:Addr):Env:=
 {scope:=relabel scope env,locals:=L,globals:=env.globals,cells:=cellsFrom (L+1) scope.names cl,qual:=env.qual,func:=none,code:=env.code,frame:=env.frame,builtins:=env.builtins}
def Ks
 (h:∀h' env',{env' with scope:=relabel scope env}=XA scope env cl s.heap.objs.size->env'.locals=s.heap.objs.size->(∀b o,s.heap.get? b=some o->h'.get? b=some o)->h'.Ns s.heap.objs.size (λ_=>none)->
  (∀p ∈ cellsFrom (s.heap.objs.size+1) scope.names cl,p ∈ cl\/((p.1,NameKind.cell) ∈ scope.names/\h'.IsCell p.2 none/\s.heap.objs.size+1<=p.2))->Q env' {s with heap:=h'}):
 wpAny M A (newFunctionEnv scope env.globals cl [] env.qual none .none<|some env) Q E s:=by
 simp only[newFunctionEnv,Option.isSome_some,if_true];refine zxD<|wpAny_alloc ?_;refine zxD<|wpAny_layCells _ ⋯ _ _ _ _ ?_;have e:(s.heap.push {cls:=.type "dict",data:=.dict #[]}).objs.size=s.heap.objs.size+1:=zxJ ..;refine zxD<|zxE<|zxE<|h _ _ ?_ rfl (λb o q=>pushCells_keeps _ _ b o<|zxF _ q) ((Heap.Ns.new s.heap _).keeps<|pushCells_keeps _ _) λp m=>?_
 . unfold XA;rw[<-e]
 . rw[<-e]at m
   rcases QJ _ _ _ p m with m|⟨g,i,f⟩
   . exact .inl m
   . exact .inr ⟨g,i,by rwa [e]at f⟩
end
abbrev yN(X:Cx)(N:List Str)(scope:Scope)(cl:List (Str×Addr))(s:Shared)(H:Hp)(fp:List Addr):Cx:=
 {X with N:=N,s₀:=s,H₀:=H,env:=XA scope X.env cl<|s.heap.objs.size+1,outer:=X.stack,ex:=fp,fn:=λx=>scope.names.lookup x==some .cell,pn:=[],xe:=λ_ _=>False}
noncomputable def nI(σ:St):Option Nat->Option V
 |none=>none
 |some j=>(σ[j]?).getD none
def Zo(cap:List (Option Nat))(σ:St):St:=cap.map<|nI σ
noncomputable def Q2(N XN:List Str)(names:List (Str×NameKind))(envNames:List (Str×NameKind))(cap:List (Option Nat)):Bool:=
 N.length==cap.length&&(N.zip cap).all (λp=>match p.2 with|none=>true|some j=>XN[j]? == some p.1&&names.contains (p.1,NameKind.free)) &&
 names.all (λp=>p.2 != .free||envNames.lookup p.1==some .cell||envNames.lookup p.1==some .free)&&decide (names.map (·.1)).Nodup
def B1(X:Cx)(ifs:List Expr)(t:TT):Prop:=
 ∀(pins:List (Addr×Obj)) (s:Shared) (σ:St) (H:Hp) (Q:Bool->Hp->Prop),Inv X pins σ H s->t σ H Q->
  wpAny (model X.prog X.w) X.A (forIn ifs true λc r=>if r=true then do let ok <-isTrue c X.env (eval c X.env);pure (ForInStep.yield ok)else pure<|ForInStep.yield r) (TP X pins σ Q) X.xe s
def CU:B1 X [] (λ_ H Q=>Q true H):=λa s σ H Q I h=>wpAny_tests_nil ⟨H,I,h⟩
def J4(h:PT X c t):B1 X [c] t:=λa s σ H Q I q=>wpAny_tests_one<|h a s σ H Q I q
def OD(wi:TI)(cap:List (Option Nat))(g:TG)(tt:TT)(te:TE):TE:=λσ H Q=>wi σ H λJ H1=>∃W:Nat->Nat->List V->Hp->Prop,(∃m,W 0 m [] H1)/\∀i m ys H,W i m ys H->ys.length<=sizeLine/\
 ((J.stop i H/\∀p,H p=none->Q (.ref p) (upd H p<|.lst ys))\/(J.go i H/\∀x H',J.yld i H x H'->g x (Zo cap σ) H' λσ2 H2=>(∀(j:Nat) v,(Zo cap σ)[j]? = some (some v)->σ2[j]? = some (some v))/\
   tt σ2 H2 λb H3=>if b=true then ys.length<sizeLine/\te σ2 H3 λy H4=>∃m',m'<m/\W (i+1) m' (ys++[y]) H4 else ∃m',m'<m/\W (i+1) m' ys H3))
section
variable{prog:Program}{w:World}{A:Around}{E:Value->Shared->Prop}{R:Result->Shared->Prop}{s:Shared}
def GS(I:Nat->Shared->Prop)
 (turn:∀n s (E:Value->Shared->Prop),I n s->wpAny (model prog w) A (pyNext it) (λr s₁=>match r with
  |none=>R (.ok .next) s₁
  |some v=>wpAny (model prog w) A (letOwnedTupleGo target it v) (λ_ s₁=>wpAny (model prog w) A (assign target env v) (λ_ s₂=>
   wpAny (model prog w) A (forIn ifs true λc r=>if r=true then do let ok <-isTrue c env (eval c env);pure (ForInStep.yield ok)else pure<|ForInStep.yield r) (λok s₃=>
            if ok=true then wpAny (model prog w) A (eval elt env) (λx s₄=>
             wpAny (model prog w) A (call (.builtin "list.append") [acc,x]) (λ_ s₅=>∃m,m<n/\I m s₅) E s₄) E s₃
            else ∃m,m<n/\I m s₃) E s₂) E s₁) E s₁) E s)
 (n:Nat) (h:I n s):
 codeAny (model prog w) A (.compLoop (.ListComp elt [⟨target,iter,ifs,0⟩] scope pos) 0 it acc env) R s:=by
 refine codeAny_loop rfl I (λn s e=>?_) n h;refine wpAny_noted ?_;rw[compTurn_list];refine zxD<|wpAny_standAt<|zxD<|zxK (turn n s _ e) (λr f b=>?_) λ_ _ a=>a;cases r with
 |none=>exact zxE b
 |some v=>
  refine zxD<|zxK b (λ_ f b=>?_) λ_ _ a=>a;refine zxD<|zxK b (λ_ k g=>zxD<|zxK g (λok l d=>?_) λ_ _ a=>a) λ_ _ a=>a;cases ok with
  |false=>exact zxE ⟨rfl,d⟩
  |true=>
   exact zxD<|zxD<|zxK d (λx o i=>zxD<|zxK i (λ_ p j=>zxE<|zxE ⟨rfl,j⟩) λ_ _ a=>a) λ_ _ a=>a
end
structure CapOk(N XN:List Str)(names:List (Str×NameKind))(envNames:List (Str×NameKind))(cap:List (Option Nat)):Prop where
 len:N.length=cap.length
 at_:∀(i:Nat) x (j:Nat),N[i]? = some x->cap[i]? = some (some j)->XN[j]? = some x/\(x,NameKind.free) ∈ names
 fr:∀p ∈ names,p.2 = .free->envNames.lookup p.1=some .cell\/envNames.lookup p.1=some .free
 nd:(names.map (·.1)).Nodup
def NF(h:Q2 N XN names envNames cap=true):CapOk N XN names envNames cap:=by
 unfold Q2 at h;simp only[zyC,beq_iff_eq,List.all_eq_true,decide_eq_true_eq]at h;obtain⟨⟨⟨a,b⟩,c⟩,d⟩:=h;refine⟨a,λi x j f g=>?_,λp k e=>?_,d⟩
 . have m:(x,some j) ∈ N.zip cap:=zyA (by rw[List.getElem?_zip_eq_some];exact⟨f,g⟩);have:=b _ m;simp at this;exact ⋯
 . have:=c p k;rw[e]at this;simpa using this
def Kb{names:List (Str×NameKind)}(h:(names.map (·.1)).Nodup)(m:(x,k) ∈ names)(m':(x,k') ∈ names):k=k':=by
 induction names with
 |nil=>cases m
 |cons p r ih=>
  obtain⟨h1,h2⟩:=zzW.mp<|h
  rcases zzC.mp m with e|m
  . rcases zzC.mp m' with e'|m'
    . rw[<-e]at e';cases e';rfl
    . exact absurd (zxB.mpr ⟨_,m',by rw[<-e]⟩) h1
  . rcases zzC.mp m' with e'|m'
    . exact absurd (zxB.mpr ⟨_,m,by rw[<-e']⟩) h1
    . exact ih h2 m m'
def Qj{names:List (Str×NameKind)}(h:(names.map (·.1)).Nodup)(m:(x,k) ∈ names):names.lookup x=some k:=
 Ye (λp a e=>by cases(e);exact Kb h a m) ⟨k,m⟩
def XS(x):(relabel scope env).names.lookup x=(scope.names.lookup x).map λk=>if(k == .free&&env.scope.kind == .function&&env.kindOf x==some .cell)=true then NameKind.cell else k:=by
 unfold relabel;generalize scope.names=a
 induction a with
 |nil=>rfl
 |cons p r b=>
  obtain⟨n,k⟩:=p;rw[List.lookup_cons];cases hb:x==n with
  |true=>
   have e:=beq_iff_eq.mp hb;subst e;show List.lookup x ((if _=true then _ else _)::_)=_;show _=some (if _=true then NameKind.cell else k)
   split
   . rw[List.lookup_cons,hb]
   . rw[List.lookup_cons,hb]
  |false=>
   show List.lookup x ((if _=true then _ else _)::_)=_
   split
   . rwa [List.lookup_cons,hb]
   . rwa [List.lookup_cons,hb]
def N8(I:Inv X pins σ H s)(C:CapOk N X.N scope.names X.env.scope.names cap)(hk:scope.kind = .function)
 (hf:∀b ∈ fp,Uw X pins H b) (ho:∀b ∈ fp,∃o,s.heap.get? b=some o)
 (old:∀b o,s.heap.get? b=some o->h'.get? b=some o) (ns:h'.Ns (s.heap.objs.size+1) (λ_=>none))
 (hc:∀p ∈ cellsFrom (s.heap.objs.size+1+1) scope.names (ZG X.env scope.names []),p ∈ ZG X.env scope.names []\/((p.1,NameKind.cell) ∈ scope.names/\h'.IsCell p.2 none/\s.heap.objs.size+1+1<=p.2)):
 Inv (yN X N scope (ZG X.env scope.names []) s H fp) [] (Zo cap σ) H {s with heap:=h'}:=by
 have has:∀x,(x,NameKind.free) ∈ scope.names->∃c,X.env.cells.lookup x=some c:=λx m=>I.ok.has x<|C.fr _ m rfl;have clo:∀p ∈ ZG X.env scope.names [],X.env.cells.lookup p.1=some p.2/\(p.1,NameKind.free) ∈ scope.names:=λp m=>by
  rcases Gu _ _ p m with z|⟨z1,z2⟩
  . cases z
  . obtain⟨c,e⟩:=has _ z1;rw[e]at z2;exact⟨by rw[e];exact congrArg some z2.symm,z1⟩
 have look:∀x c,(cellsFrom _ scope.names _).lookup x=some c->_\/_:=λx c e=>by
  rcases hc _ (mem_of_lookup e)with m|m
  . exact .inl<|clo _ m
  . exact .inr m
 have lt:∀x c,X.env.cells.lookup x=some c->c<s.heap.objs.size:=λx c e=>by obtain⟨v,z⟩:=I.cell x c e;exact z.lt
 have lookF:∀x,(x,NameKind.free) ∈ scope.names->∃c,(cellsFrom _ scope.names _).lookup x=some c/\X.env.cells.lookup x=some c:=λx m=>by
  obtain⟨c,e⟩:=has x m;have m1:=YF scope.names (s.heap.objs.size+1+1) _ _<|Gx (env:=X.env) scope.names [] x m;refine⟨c,Ye (λp hp ep=>?_) ⟨_,m1⟩,e⟩
  rcases hc p hp with z|z
  . have:=(clo p z).1;rw[ep,e]at this;exact(zzZ this).symm
  . rw[ep]at z;exact absurd (Kb C.nd z.1 m) (by decide)
 have kinds:∀x,((relabel scope X.env).names.lookup x=some .cell\/(relabel scope X.env).names.lookup x=some .free)->(x,NameKind.free) ∈ scope.names\/(x,NameKind.cell) ∈ scope.names:=λx h=>by
  rw[XS]at h;cases e:scope.names.lookup x with
  |none=>rw[e]at h;rcases h with h|h<;>cases h
  |some k=>
   have m:=mem_of_lookup e;cases k with
   |free=>exact .inl m
   |cell=>exact .inr m
   |_=>rw[e]at h;rcases h with h|h<;>(simp at h)
 have lsz:=ns.lt;refine⟨⟨I.ok.mod,hk,I.ok.glob,I.ok.blt,zyW _, ?_, ?_, ?_,I.ok.hd,I.ok.frames,.inl rfl, ?_,I.bs,zzO I.ok.bsz I.sz, ?_, ?_,I.stack,I.stkFree⟩,rfl,I.bare,(Un.kept old),⟨_,ns, ?_⟩, ?_,I.hok.fresh<|zyW _, ?_,(λ_ z=>nomatch z),I.hok.kept old, ?_⟩
 . intro x y c e1 e2;refine Qi scope.names _ _ (λp m=>?_) (λp m q m' e=>?_) (x,c) (mem_of_lookup e1) (y,c) (mem_of_lookup e2) rfl
   . exact zyZ<|zyZ<|lt _ _ (clo p m).1
   . refine I.ok.inj _ _ _ (clo p m).1 ?_;rw[e];exact(clo q m').1
 . intro x h
   rcases kinds x h with m|m
   . obtain⟨c,e,_⟩:=lookF x m;exact⟨c,e⟩
   . obtain⟨c,e⟩:=Qw scope.names _ _ x m;cases q:(cellsFrom _ scope.names _).lookup x with
     |some c'=>exact⟨c',q⟩
     |none=>
      exfalso;have:=List.lookup_eq_none_iff.mp q (x,c) e;simp at this
 . intro x c hx e;have hx:=hx;have m:=mem_of_lookup<|beq_iff_eq.mp hx
   rcases look x c e with z|z
   . exact absurd (Kb C.nd z.2 m) (by decide)
   . exact zzO (zzO (zyW _)<|zyW _) z.2.2
 . intro b hb;obtain⟨o,e⟩:=ho b hb;refine⟨zzQ<|zyZ<|zxG e,λx c ec=>?_⟩
   rcases look x c ec with z|z
   . exact(hf b hb).2.2.2.2.1 x c z.1
   . have:=zxG e;intro q;subst q;exact absurd (zzK this<|zzO (zzO (zyW _)<|zyW _) z.2.2)<|Nat.lt_irrefl _
 . intro b o e hb
   rcases(hf b hb).2.2.2.1 with z|z
   . exact I.ok.noex b o e z
   . exact absurd (zzK (zxG e)<|zzO I.ok.bsz z)<|Nat.lt_irrefl _
 . intro b hb hm
   rcases zzC.mp (I.stkSub b hm)with z|z
   . exact(hf b hb).2.1 z
   . exact(hf b hb).2.2.1 z
 . intro i x v e1 e2 e3;have e2:=e2;unfold Zo at e2;rw[zzI]at e2;cases ec:cap[i]? with
   |none=>rw[ec]at e2;cases e2
   |some c=>
    cases c with
    |none=>rw[ec]at e2;cases e2
    |some j=>
     rw[ec]at e2;have e2:(σ[j]?).getD none=some v:=zzZ e2;obtain⟨xn,m⟩:=C.at_ i x j e1 ec;have es:σ[j]? = some (some v):=by
      cases q:σ[j]? with
      |none=>rw[q]at e2;cases e2
      |some y=>rw[q]at e2;exact congrArg some e2
     have kf:=C.fr _ m rfl;obtain⟨mm,hn,hl⟩:=I.loc;obtain⟨u,r,l⟩:=hl j x v xn es (by rcases kf with k|k;exact .inr<|.inl k;exact .inr<|.inr k);refine⟨u,r,.inr ⟨?_, ?_⟩⟩
     . show(relabel scope X.env).names.lookup x=some .cell\/(relabel scope X.env).names.lookup x=some .free;rw[XS,Qj C.nd m];show some (if _ then _ else _)=_\/some (if _ then _ else _)=_
       split
       . exact .inl rfl
       . exact .inr rfl
     . obtain⟨c,ec,eo⟩:=lookF x m;refine⟨c,ec, ?_⟩
       rcases l with⟨k1,_⟩|⟨_,c2,e4,z⟩
       . have k1:X.env.scope.names.lookup x=some .local:=k1
         rcases kf with k|k<;>(rw[k1]at k;cases k)
       . rw[eo]at e4;cases e4;exact z.keeps old
 . intro x c e
   rcases look x c e with z|z
   . obtain⟨v,q⟩:=I.cell x c z.1;exact⟨v,q.keeps old⟩
   . exact⟨none,z.2.1⟩
 . intro x c e
   rcases look x c e with z|z
   . exact I.freeC x c z.1
   . exact I.hok.fresh<|zzO (zzO (zyW _)<|zyW _) z.2.2
 . show _=_;unfold Zo;rw[zzB,C.len]
noncomputable abbrev lobj(its:List Value):Obj:={cls:=.type "list",data:=.seq its.toArray its.length}
section
variable{X:Cx}{pins:List (Addr×Obj)}{σ:St}{H2:Hp}{s2:Shared}{elt tg iter:Expr}{ifs:List Expr}{scope:Scope}{pos:Pos}{N:List Str}{cap:List (Option Nat)}{g:TG}{tt:TT}{te:TE}{wi:TI}
set_option maxHeartbeats 1000000
def Rw{Q:VK}{R:Value->Addr->Result->Shared->Prop}
 (hc:X.calm=true) (C:CapOk N X.N scope.names X.env.scope.names cap) (hk:scope.kind = .function)
 (hg:∀cl s H fp,PG (yN X N scope cl s H fp) tg g) (ht:∀cl s H fp,B1 (yN X N scope cl s H fp) ifs tt) (he:∀cl s H fp,PE (yN X N scope cl s H fp) elt te)
 (I2:Inv X pins σ H2 s2) (T:Turn X.prog X.w X.K tg J fp it tn) (st2:tn 0 s2.heap) (f2:∀b ∈ fp,Uw X pins H2 b)
 (W:Nat->Nat->List V->Hp->Prop) (m0:Nat) (w0:W 0 m0 [] H2)
 (turn:∀i m ys H,W i m ys H->ys.length<=sizeLine/\((J.stop i H/\∀p,H p=none->Q (.ref p) (upd H p<|.lst ys))\/(J.go i H/\∀x H',J.yld i H x H'->g x (Zo cap σ) H' λσ2 H2=>(∀(j:Nat) v,(Zo cap σ)[j]? = some (some v)->σ2[j]? = some (some v))/\
  tt σ2 H2 λb H3=>if b=true then ys.length<sizeLine/\te σ2 H3 λy H4=>∃m',m'<m/\W (i+1) m' (ys++[y]) H4 else ∃m',m'<m/\W (i+1) m' ys H3)))
 (fin:∀ys H3 s1 m,Inv X pins σ (upd H3 s2.heap.objs.size<|.lst ys) s1->s1.heap.Ns (s2.heap.objs.size+1) m->Uw X pins (upd H3 s2.heap.objs.size<|.lst ys) (s2.heap.objs.size+1)->
  Q (.ref s2.heap.objs.size) (upd H3 s2.heap.objs.size<|.lst ys)->R (.ref s2.heap.objs.size) (s2.heap.objs.size+1) (.ok .next) s1):
 wpAny (model X.prog X.w) X.A (newList []) (λacc s₃=>wpAny (model X.prog X.w) X.A (newFunctionEnv scope X.env.globals (ZG X.env scope.names []) [] X.env.qual none .none<|some X.env) (λcenv s₄=>
  codeAny (model X.prog X.w) X.A (.compStart (.ListComp elt [⟨tg,iter,ifs,0⟩] scope pos) 0 (.ref it) acc {cenv with scope:=relabel scope X.env}) (R acc cenv.locals) s₄) E s₃) E s2:=by
 refine wpAny_newObj_type<|Ks λh' env' eE eL old hns hcells=>?_;have e1:(s2.heap.push {cls:=.type "list",dict:=none,data:=.seq ([]:List Value).toArray}).objs.size=s2.heap.objs.size+1:=zxJ ..;dsimp only at eE eL old hns hcells;rw[e1]at eE eL hns hcells;have hD0:(s2.heap.push {cls:=.type "list",dict:=none,data:=.seq ([]:List Value).toArray}).get? s2.heap.objs.size=some (lobj []):=zxH _ rfl;have hD:=old _ _ hD0;have old':∀b o,s2.heap.get? b=some o->h'.get? b=some o:=λb o q=>old b o<|zxF _ q;have fex:∀b ∈ fp,∃o,s2.heap.get? b=some o:=λb hb=>by obtain⟨o,e,_⟩:=T.obj _ _ st2 b hb;exact⟨o,e⟩
 have flt:∀b ∈ fp,b<s2.heap.objs.size:=λb hb=>by obtain⟨o,e⟩:=fex b hb;exact zxG e
 have I':=N8 I2 C hk f2 fex old' hns hcells;rw[eE,eL];generalize hX:yN X N scope (ZG X.env scope.names []) s2 H2 fp=X' at I';have xP:X'.prog=X.prog:=by rw[<-hX]
 have xw:X'.w=X.w:=by rw[<-hX]
 have xK:X'.K=X.K:=by rw[<-hX]
 have xA:X'.A=X.A:=by rw[<-hX]
 have xe:X'.env=XA scope X.env (ZG X.env scope.names []) (s2.heap.objs.size+1):=by rw[<-hX]
 have xL:X'.env.locals=s2.heap.objs.size+1:=by rw[xe];rfl
 have xfs:X'.fs=B3 X.stack:=by rw[<-hX]
 have xex:X'.ex=fp:=by rw[<-hX]
 have xs:X'.s₀=s2:=by rw[<-hX]
 have xH:X'.H₀=H2:=by rw[<-hX]
 have xpn:X'.pn=[]:=by rw[<-hX]
 have xc:X'.calm=true:=by rw[<-hX];exact hc
 have xE:X'.xe=λ_ _=>False:=by rw[<-hX]
 have hg':PG X' tg g:=by rw[<-hX];exact hg _ _ _ _
 have ht':B1 X' ifs tt:=by rw[<-hX];exact ht _ _ _ _
 have he':PE X' elt te:=by rw[<-hX];exact he _ _ _ _
 have H2D:=I2.hok.fresh<|zzN _;have Dfs:s2.heap.objs.size ∉ X'.fs:=by
  rw[xfs];intro hm
  rcases zzC.mp (I2.stkSub _ hm)with z|z
  . exact absurd I2.lt (by rw[<-z];exact Nat.lt_irrefl _)
  . exact I2.nofs (zzN _) z
 have DL:s2.heap.objs.size≠X'.env.locals:=by rw[xL];exact zzQ<|Nat.lt_succ_self _
 have pinD:∀{σ':St}{H':Hp}{s':Shared}{its:List Value}{ps:List (Addr×Obj)},Inv X' ps σ' H' s'->s'.heap.get? s2.heap.objs.size=some (lobj its)->H' s2.heap.objs.size=none->Inv X' [(s2.heap.objs.size,lobj its)] σ' H' s':=λI e n=>
  I.pins_of λp hp=>by
   cases zzR.mp hp;exact⟨e,n,DL,Dfs,λv z=>by cases z⟩
 have stat:∀{H':Hp}{its:List Value},(∀b ∈ fp,H' b=none)->∀b ∈ fp,Uw X' [(s2.heap.objs.size,lobj its)] H' b:=λhn b hb=>by
  refine⟨hn b hb, ?_, ?_,.inl (by rw[xex];exact hb),(I'.ok.exf b<|by rw[xex];exact hb).2,λp hp=>?_⟩
  . exact(I'.ok.exf b<|by rw[xex];exact hb).1
  . exact I'.ok.exfs b (by rw[xex];exact hb)
  . rw[xpn,List.nil_append]at hp;cases zzR.mp hp;exact Nat.ne_of_gt<|flt b hb
 have loop:∀n s',(∃i ys its H3,Inv X' [(s2.heap.objs.size,lobj its)] (Zo cap σ) H3 s'/\tn i s'.heap/\(∀b ∈ fp,H3 b=none)/\zQ ys its/\W i n ys H3)->
  codeAny (model X.prog X.w) X.A (.compLoop (.ListComp elt [⟨tg,iter,ifs,0⟩] scope pos) 0 (.ref it) (.ref s2.heap.objs.size)<|XA scope X.env (ZG X.env scope.names [])<|s2.heap.objs.size+1)
   (R (.ref s2.heap.objs.size)<|s2.heap.objs.size+1) s':=by
  intro n s' h0;refine GS (λn s'=>∃i ys its H3,Inv X' [(s2.heap.objs.size,lobj its)] (Zo cap σ) H3 s'/\tn i s'.heap/\(∀b ∈ fp,H3 b=none)/\zQ ys its/\W i n ys H3) ?_ n h0;clear h0 n s'
  rintro n s3 E' ⟨i,ys,its,H3,I3,st3,fr3,rv3,w3⟩
  obtain⟨hz,hstep⟩:=turn i n ys H3 w3
  rcases hstep with⟨stop,qn⟩|⟨go,step⟩
  . have:=T.done X' xP xw xK xc i _ s3 _ H3 E' I3 (stat fr3) st3 stop;rw[xA]at this;refine zxK this (λr s4 ⟨hr,I4⟩=>?_) λ_ _ z=>z;subst hr;obtain⟨gD,nD,_⟩:=I4.pin (s2.heap.objs.size,lobj its) (by rw[xpn];simp);obtain⟨m,hn,_⟩:=I4.loc;rw[xL]at hn;have b4:=I4.base;rw[xfs,xex,xH,xs]at b4;have nL:H3 (s2.heap.objs.size+1)=none:=by have:=I4.free;rw[xL]at this;exact this
    have neD:∀b o,s2.heap.get? b=some o->b≠s2.heap.objs.size:=λb o e=>zzQ<|zxG e;have neH:∀b u,H2 b=some u->b≠s2.heap.objs.size:=λb u e z=>by rw[z,H2D]at e;cases e
    have ne3:∀b u,H3 b=some u->b≠s2.heap.objs.size:=λb u e z=>by rw[z,nD]at e;cases e
    have hok4:=I4.hok;rw[xP,xw]at hok4;refine fin ys H3 s4 m (I2.call' ?_ ⟨b4.keep,b4.slot,λb o e n hx=>?_,b4.there,λb xs e=>?_,λb o u e=>?_,λb ps e=>?_⟩ ?_ I4.bare λb hb=>?_) hn (I2.fpOk (zyW _)<|by rw[zJ<|Nat.ne_of_gt<|Nat.lt_succ_self _];exact nL)<|qn _ nD
    . have:=I4.os;rw[xs]at this;exact this
    . rw[zJ<|neD b o e];exact b4.free b o e n hx
    . rw[zJ<|neH b _ e];exact b4.tups b xs e
    . rw[zJ<|neH b _ e];exact b4.frzs b o u e
    . rw[zJ<|neH b _ e];exact b4.tbls b ps e
    . intro b u e
      by_cases hb:b=s2.heap.objs.size
      . subst hb;rw[yg]at e;cases e;exact⟨hz,its,its.length,rv3,gD⟩
      . rw[zJ hb]at e;exact(hok4 b u e).stay (λc v _ q=>q) (λc q=>by rw[zJ<|ne3 c _ q];exact q) λc xs q=>by rw[zJ<|ne3 c _ q];exact q
    . obtain⟨f0,f1,f3,f4,f5,f6⟩:=f2 b hb;exact⟨f4,f1,f5,f6⟩
  . have:=T.item X' xP xw xK xc i _ s3 _ H3 E' I3 (stat fr3) st3 go;rw[xA]at this;refine zxK this (λr s4 ⟨u,hr,h4⟩=>?_) λ_ _ z=>z;subst hr;refine zxK h4 (λ_ s5 ⟨x,H5,I5,r5,y5,st5,fr5⟩=>?_) λ_ _ z=>z;have I5':=I5.pinned (stat fr5)<|T.obj _ _ st5;have h6:=hg' _ s5 _ H5 x u _ I5' r5<|step x H5 y5;rw[xP,xw,xA,xe,xE]at h6;refine zxK h6 (λ_ s6 ⟨σ6,H6,I6,cap6,q6⟩=>?_) λ_ _ z=>z.elim;have h7:=ht' _ s6 σ6 H6 _ I6 q6;rw[xP,xw,xA,xe,xE]at h7;refine zxK h7 (λb s7 ⟨H7,I7,q7⟩=>?_) λ_ _ z=>z.elim;have keep:∀{H8:Hp}{s8:Shared},Inv X' _ σ6 H8 s8->Inv X' [(s2.heap.objs.size,lobj its)] (Zo cap σ) H8 s8/\tn (i+1) s8.heap/\∀b ∈ fp,H8 b=none:=λ{H8 s8} I8=>by
     refine⟨I8.unpinned.weak ?_ cap6,T.keep _ _ _ st5 λb hb o e=>(I8.pin (b,o)<|zzL _<|zzL _<|Yv hb e).1,λb hb=>?_⟩
     . rw[I3.len];exact I8.len.symm
     . obtain⟨o,e,d⟩:=T.obj _ _ st5 b hb;exact(I8.pin (b,o)<|zzL _<|zzL _<|Yv hb e).2.1
    cases b with
    |false=>
     obtain⟨m',hm,w7⟩:=q7;obtain⟨k1,k2,k3⟩:=keep I7;exact⟨m',hm,i+1,ys,its,H7,k1,k2,k3,rv3,w7⟩
    |true=>
     obtain⟨hz2,q7⟩:=q7;have h8:=he' _ s7 σ6 H7 _ I7 q7;rw[xP,xw,xA,xe,xE]at h8;refine zxK h8 (λyv s8 ⟨y,H8,I8,ry,m',hm,w8⟩=>?_) λ_ _ z=>z.elim;obtain⟨k1,k2,k3⟩:=keep I8;obtain⟨gD,nD,_⟩:=k1.pin (s2.heap.objs.size,lobj its) (by rw[xpn];simp);have hl:=rv3.length;refine append_at gD (λh9 sb gD9=>?_) (by rw[zzH];exact q0I hz2 hl);have I9:=(k1.pins_of (pins':=[]) (λ_ z=>nomatch z)).turned (t':=s8.toks) (λb o hb e=>(sb.2 b hb).trans e) nD DL (.inr<|by rw[xs];exact zzN _) (λx c ec z=>by
      obtain⟨v,o,ho,hd⟩:=k1.cell x c ec;rw[z,gD]at ho;cases ho;cases hd) (λp hp=>by rw[xpn]at hp;cases hp)
     have gD9':h9.get? s2.heap.objs.size=some (lobj<|its++[yv]):=by
      rw[gD9]
      congr 1
      show({cls:=.type "list",data:=.seq _ _}:Obj)={cls:=.type "list",data:=.seq (its++[yv]).toArray (its++[yv]).length};rw[zzJ,List.length_singleton,List.push_toArray]
     refine⟨m',hm,i+1,ys++[y],its++[yv],H8,pinD I9 gD9' nD,T.keep _ _ _ k2 λb hb o e=>(sb.2 b<|zzQ<|flt b hb).trans e,k3,rv3.append<|.cons ry .nil,w8⟩
 have start:∃i ys its H3,Inv X' [(s2.heap.objs.size,lobj its)] (Zo cap σ) H3 {s2 with heap:=h'}/\tn i h'/\(∀b ∈ fp,H3 b=none)/\zQ ys its/\W i m0 ys H3:=
  ⟨0,[],[],H2,pinD I' hD H2D,T.keep _ _ _ st2 λb hb o e=>old' b o e,λb hb=>(f2 b hb).1,.nil,w0⟩
 exact codeAny_compStart_list (loop m0 _ start)<|T.self _ 0 _ _ _ (T.keep _ _ _ st2 λb hb o e=>old' b o e)<|loop m0 _ start
def IA(hc:X.calm=true)(hi:PI X tg iter wi)(hk:scope.kind = .function)(hcap:Q2 N X.N scope.names X.env.scope.names cap=true)
 (hg:∀cl s H fp,PG (yN X N scope cl s H fp) tg g) (ht:∀cl s H fp,B1 (yN X N scope cl s H fp) ifs tt) (he:∀cl s H fp,PE (yN X N scope cl s H fp) elt te)
 (hs:∀x,foldedSetIterable iter X.env x=pure x):PE X (.ListComp elt [⟨tg,iter,ifs,0⟩] scope pos) (OD wi cap g tt te):=by
 intro a s σ H Q I h;have C:=NF hcap;refine wpAny_comprehension_free rfl hs (WK λx m e=>I.ok.has x.1<|C.fr x m e) hk (λy m e=>Qj C.nd<|by rwa [<-e]) ?_;refine wA (hi a s σ H _ I h) λv O i=>wA i λj k l=>?_;obtain⟨P,S,U,J,V,e,n,T,d,f2,W,⟨p,t⟩,c⟩:=l;subst e;refine Rw hc C hk hg ht he n T d f2 W p t c λY Z z m B D fl q=>?_;refine⟨m,D,λh' E=>?_⟩;obtain⟨F,f1,f3,G,K,L⟩:=fl;exact⟨.ref k.heap.objs.size,_,B.turned (t':=z.toks) (λb o M e=>(E.2 b M).trans e) F f1 G K L,rfl,q⟩
def IJ(hN:X.N.Nodup)(hiy:X.N[i]? = some y)(hy:Loc X.env.scope y)(hf:X.fn y=true\/X.env.scope.names.lookup y=some .local)
 (hsw:swapsWith (.ListComp elt [⟨tg,iter,ifs,0⟩] scope pos) (some<|.Name y py) spos.line X.env=pure true)
 (hc:X.calm=true) (hi:PI X tg iter wi) (hk:scope.kind = .function) (hcap:Q2 N X.N scope.names X.env.scope.names cap=true)
 (hg:∀cl s H fp,PG (yN X N scope cl s H fp) tg g) (ht:∀cl s H fp,B1 (yN X N scope cl s H fp) ifs tt) (he:∀cl s H fp,PE (yN X N scope cl s H fp) elt te)
 (hs:∀x,foldedSetIterable iter X.env x=pure x):PS X (.Assign [.Name y py] (.ListComp elt [⟨tg,iter,ifs,0⟩] scope pos) spos) (tj (OD wi cap g tt te)<|Ff i):=by
 intro c s σ H D I h;have C:=NF hcap;rw[exec_Assign_Name_used _ _ _ _ hsw];refine zxD<|wpAny_standAt<|zxD ?_;refine zxD<|zxK (wpAny_comprehension_free rfl hs (WK λx m e=>I.ok.has x.1<|C.fr x m e) hk (λy m e=>Qj C.nd<|by rwa [<-e]) ?_) (λ_ d t=>zxE<|zxE t) λ_ _ e=>e;refine wA (hi c s σ H _ I h) λv s1 u=>wA u λB E F=>?_;obtain⟨it,fp,tn,J,H2,e,G,T,k,f2,W,⟨K,L⟩,f⟩:=F;subst e;refine Rw (Q:=λx M=>Ff i x σ M D.nx) hc C hk hg ht he G T k f2 W K L f λys H3 s3 m O P fl q=>?_;obtain⟨S,f1,f3,U,p,V⟩:=fl;refine wpAny_assign_Name<|Gp O hN hiy hy (v:=.ref E.heap.objs.size) rfl (λY Z ⟨a,sb,j⟩=>?_) hf;refine⟨m,P.sameBut sb λz=>?_,λh' n=>?_⟩
 . rcases j with j|j
   . exact f1<|z.trans j
   . exact p y a j z.symm
 . exact⟨_,_,Z.turned (t':=Y.toks) (λb o hb e=>(n.2 b hb).trans e) S f1 U p V,q⟩
end
structure ItC(K:zzA)(kd:KD)(F:Addr->Prop)(H:Hp)(J:It)(ds:List xi):Prop where
 all:∀(H2:Hp) (T:Addr->Prop),(∀b u,H b=some u->H2 b=some u)->(∀a,T a->H a=none/\H2 a≠none)->∀i,(i<ds.length->J.go i H2)/\(ds.length<=i->J.stop i H2)/\
  ∀v H3,J.yld i H2 v H3->(∀b o,H2 b=some o->H3 b=some o)/\∀x,ds[i]? = some x->Rp K kd (λa=>x.1=true/\(F a\/T a)) H3 v x.2
def jm(K:zzA)(kd:KD)(f:IF):TI:=λσ H R=>∃F B ad as ds as',Rel K kd F B [] ad as σ H/\f as=some (ds,as')/\
 ∀J ad' H',Rel K kd F B [] ad' as' σ H'->Grow (Gw [] ad) H (Gw [] ad') H'->ItC K kd (Lv F B (Gw [] ad') true) H' J ds->R J H'
@[irreducible] def Jd(X:Cx)(kd:KD)(tg iter:Expr)(f:IF):Prop:=PI X tg iter<|jm X.K kd f
noncomputable def RP(os:List O):List xi:=os.map λo=>match o with | .lf st d=>(st,d)|o=>(false,o.toD)
def kS(as:AS):RV->Option (List xi)
 | .ow o=>Q7 (o.str,o.toD)
 | .bo i=>match as[i]? with
  |some (some (.nd .ls os))=>some (RP os)
  |some (some (.nd .tp os))=>some (RP os)
  |_=>none
def xX(f:EF):IF:=λas=>(f as).bind λp=>(kS p.2 p.1).bind λds=>some (ds,p.2)
section
variable{K:zzA}{kd:KD}{F B:Addr->Prop}{G:Addr->Prop}{T:List Addr}{ad:Ad}{as:AS}{σ:St}{H H':Hp}
inductive RpC(K:zzA)(kd:KD)(F:Addr->Prop)(H:Hp):List V->List xi->Prop
 |nil:RpC K kd F H [] []
 |cons {v:V}{x:xi}{vs:List V}{ds:List xi}:Rp K kd (λa=>x.1=true/\F a) H v x.2->RpC K kd F H vs ds->RpC K kd F H (v::vs) (x::ds)
theorem RpC.length(h:RpC K kd F H vs ds):vs.length=ds.length:=by
 induction h with
 |nil=>rfl
 |cons _ _ ih=>exact congrArg _ ih
def RpC.get{i:Nat}(h:RpC K kd F H vs ds)(e:ds[i]? = some x):∃v,vs[i]? = some v/\Rp K kd (λa=>x.1=true/\F a) H v x.2:=by
 induction h generalizing i with
 |nil=>simp at e
 |cons h r ih=>
  cases i with
  |zero=>simp at e;subst e;exact⟨_,rfl,h⟩
  |succ i=>
   obtain⟨v,h1,h2⟩:=ih ⋯;exact⟨v,⋯,h2⟩
def Rp.since{T}(k:∀b u,H b=some u->H' b=some u)(hT:∀a,T a->H a=none)(h:Rp K kd Ob H v d):Rp K kd (XE Ob T) H' v d:=
 Rp.grow (W':=T) (H':=H') ⟨λb u q _=>k b u q,λb z=>.inr<|hT b z⟩ (h.less λa z=>z.elim id False.elim)
def U_{st}(h:RpL K kd (Lv F B G st) H vs ds):RpC K kd (Lv F B G true) H vs (kids st ds):=
 RpL.ind (P:=λvs ds=>RpC K kd _ H vs<|kids st ds) .nil (λ{v d vs ds} h _ ih=>by
  refine .cons (x:=(zB d||st,d)) ?_ ih;cases e:zB d with
  |true=>exact h.flat e
  |false=>
   refine h.less λa z=>?_;have zs:st=true:=z.1;rw[zs];exact z.2) h
def AQ{os}(h:vB K kd F B G H vs os fp):RpC K kd (Lv F B G true) H vs (RP os):=
 RoL.ind (P:=λvs os _=>RpC K kd _ H vs<|RP os) .nil (λ{v o vs os fp fq} h _ ih=>by
  have ha:=Qr h;refine .cons ?_ ih;cases h with
  |lf rp=>exact rp.less λa z=>(by have zs:=z.1;dsimp only at zs;rw[zs];exact z.2)
  |ls=>exact ha.less λa z=>nomatch z.1
  |dc=>exact ha.less λa z=>nomatch z.1
  |ob=>exact ha.less λa z=>nomatch z.1
  |tp=>exact ha.less λa z=>nomatch z.1) h
def RX(h:Xo K H a vs)(r:RpC K kd F H vs ds):ItC K kd F H (mB K a) ds:=⟨λH3 T k hT i=>by
 have hr3:Xo K H3 a vs:=by
  rcases h with(h|⟨o,h⟩)|h
  . exact .inl<|.inl<|k _ _ h
  . exact .inl<|.inr ⟨o,k _ _ h⟩
  . exact .inr h
 refine⟨λhi=>?_,λhi=>⟨_,hr3,by rwa [r.length]⟩,λv H4 hy=>?_⟩
 . obtain⟨u,hu,_⟩:=r.get<|zzE hi;exact⟨_,u,hr3,hu⟩
 . obtain⟨rfl,hv⟩:=hy;refine⟨λ_ _ z=>z,λd hd=>?_⟩;obtain⟨u,hu,ru⟩:=r.get hd;have:=hv _ hr3;rw[hu]at this;cases this;exact(ru.since k λa z=>(hT a z).1).less λa z=>z.2.elim (λy=>.inl ⟨z.1,y⟩) .inr⟩
def Fd(h:Vd K H a vs)(r:RpC K kd F H vs ds):ItC K kd F H (mF K a) ds:=⟨λH3 T k hT i=>by
 have hr3:Vd K H3 a vs:=by
  rcases h with(h|⟨o,h⟩)|h
  . exact .inl<|.inl<|k _ _ h
  . exact .inl<|.inr ⟨o,k _ _ h⟩
  . exact .inr h
 refine⟨λhi=>?_,λhi=>⟨_,hr3,by rwa [r.length]⟩,λv H4 hy=>?_⟩
 . obtain⟨u,hu,_⟩:=r.get<|zzE hi;exact⟨_,u,hr3,hu⟩
 . obtain⟨rfl,hv⟩:=hy;refine⟨λ_ _ z=>z,λd hd=>?_⟩;obtain⟨u,hu,ru⟩:=r.get hd;have:=hv _ hr3;rw[hu]at this;cases this;exact(ru.since k λa z=>(hT a z).1).less λa z=>z.2.elim (λy=>.inl ⟨z.1,y⟩) .inr⟩
def C1(lo)(n:Nat):ItC K kd F H (sW lo n) (yR lo n):=⟨λH2 T k hT i=>by
 have hl:(yR lo n).length=n:=by unfold yR;simp
 refine⟨λhi=>by rw[hl]at hi;exact hi,λhi=>by rw[hl]at hi;exact hi,λv H3 hy=>?_⟩;obtain⟨rfl,rfl⟩:=hy;refine⟨λ_ _ z=>z,λd hd=>?_⟩;have hi:i<n:=by rw[<-hl];exact(zzG.mp hd).1
 unfold yR at hd;rw[zzI,List.getElem?_range hi]at hd;cases hd;exact .int _⟩
end
def uo(he:AE X kd e fa):Jd X kd tg e (xX fa):=by
 with_unfolding_all (
 intro pins s σ H R I h;obtain⟨F,B,ad,as,ds,as',Rl,e,q⟩:=h;obtain⟨⟨p,as1⟩,h1,e⟩:=bS_<|e;obtain⟨ys,h2,e⟩:=bS_ e;cases e;cases p with
 |ow o=>
  have h2:Q7 _=some ds:=h2;generalize hd:o.toD=d at h2;cases d with
  |lst xs=>
   cases h2;refine Kh he pins s σ H R I ⟨F,B,ad,as,_,as1,Rl,h1,λv T1 ad1 H1 R1 rv1 g1=>?_⟩;have rp:=MB R1 rv1;rw[hd]at rp;cases rp with
   |lst hn hr rl=>exact⟨_,rfl,⟨_,.inl hr⟩,q _ ad1 H1 R1.drop (g1.trans<|Grow.less Gw.drop)<|RX (.inl hr)<|U_ rl⟩
   |lstK a b c rl=>exact⟨_,rfl,⟨_,.inr ⟨_,_,_,a,rfl,rfl,rfl,b,c⟩⟩,q _ ad1 H1 R1.drop (g1.trans<|Grow.less Gw.drop)<|RX (.inr ⟨_,_,_,a,rfl,rfl,rfl,b,c⟩)<|U_ rl⟩
  |tup xs=>
   cases h2;refine MQ he pins s σ H R I ⟨F,B,ad,as,_,as1,Rl,h1,λv T1 ad1 H1 R1 rv1 g1=>?_⟩;have rp:=MB R1 rv1;rw[hd]at rp;have go:∃a ys,v = .ref a/\Vd X.K H1 a ys/\RpL X.K kd (Lv F B (Gw [] ad1) o.str) H1 ys xs:=by
    cases rp with
    |tup n h r=>exact⟨_,_,rfl,.inl h,r⟩
    |tupK a b c e f r=>exact⟨_,_,rfl,.inr ⟨_,_,_,a,b,c,e,f⟩,r⟩
   obtain⟨a,ys,rfl,hs,rl⟩:=go;exact⟨_,rfl,⟨_,hs⟩,q _ ad1 H1 R1.drop (g1.trans<|Grow.less Gw.drop)<|Fd hs<|U_ rl⟩
  |_=>cases h2
 |bo i=>
  have h2:(match as1[i]? with|some (some<|.nd .ls os)=>some _|some (some<|.nd .tp os)=>some _|_=>none)=some ds:=h2;cases k:as1[i]? with
  |none=>rw[k]at h2;cases h2
  |some s0=>
   rw[k]at h2
   match s0,h2,k with
   |some (.nd .ls os),h2,k=>
    cases h2;refine Kh he pins s σ H R I ⟨F,B,ad,as,_,as1,Rl,h1,λv T1 ad1 H1 R1 rv1 g1=>?_⟩;obtain⟨rfl,hs⟩:=rv1;obtain⟨w,hw,ro⟩:=R1.sl i _ k;rw[hs]at hw;cases hw;generalize hfp:ad1 i=fp at ro;cases ro with
    |ls hH rl=>exact⟨_,rfl,⟨_,.inl<|.inl hH⟩,q _ ad1 H1 R1 g1<|RX (.inl<|.inl hH)<|AQ rl⟩
   |some (.nd .tp os),h2,k=>
    cases h2;refine MQ he pins s σ H R I ⟨F,B,ad,as,_,as1,Rl,h1,λv T1 ad1 H1 R1 rv1 g1=>?_⟩;obtain⟨rfl,hs⟩:=rv1;obtain⟨w,hw,ro⟩:=R1.sl i _ k;rw[hs]at hw;cases hw;generalize hfp:ad1 i=fp at ro;cases ro with
    |tp n hH rl=>exact⟨_,rfl,⟨_,.inl<|.inl hH⟩,q _ ad1 H1 R1 g1<|Fd (.inl<|.inl hH)<|AQ rl⟩)
def FW(hg:Gl X "range")(hm:X.mg "range"=none)(ha:AA X kd [a] fr)(hs:starEach [a] X.env=[(false,eval a X.env)]):Jd X kd tg (.Call (.Name "range" p) [a] [] pos) (yu fr yH):=by
 with_unfolding_all (
 intro pins s σ H R I h;obtain⟨F,B,ad,as,ds,as',Rl,e,q⟩:=h;obtain⟨⟨ps,as1⟩,h1,e⟩:=bS_<|e;obtain⟨⟨xs,lv⟩,h2,e⟩:=bS_ e;obtain⟨ys,h3,e⟩:=bS_ e;cases e;obtain⟨j,rfl,h3⟩:=Fi h3
 . obtain⟨hj,e3⟩:=zr h3;cases e3;refine Ge hg hm ha hs pins s σ H R I ⟨F,B,ad,as,ps,_,Rl,h1,λvs ad1 H1 R1 rv1 g1=>?_⟩;have vl:=Vg R1 rv1 h2;cases vl with
   |cons v1 v2=>
    cases v2;cases v1;exact⟨j,rfl,hj.1,hj.2,q _ ad1 H1 R1 g1<|C1 0 _⟩)
noncomputable def kj(as:AS):Option Nat->Option O
 |none=>none
 |some j=>match as[j]? with
  |some (some (.lf st d))=>some (.lf st d)
  |some (some o)=>some (.lf false o.toD)
  |_=>none
def Zv(cap:List (Option Nat))(as:AS):AS:=cap.map<|kj as
def xv(g:GF)(tt:TF)(fe:EF)(as0:AS):List xi->Option (List O)
 | []=>some []
 |x::r=>(g x as0).bind λas1=>(tt as1).bind λb=>if b.1=true then(fe b.2).bind λp=>(C4 p.2 p.1).bind λq=>if q.1.str=true then(xv g tt fe as0 r).bind λos=>some (q.1::os)else none
  else xv g tt fe as0 r
def zX(fi:IF)(cap:List (Option Nat))(g:GF)(tt:TF)(fe:EF):EF:=λas=>(fi as).bind λp=>if p.1.length<=sizeLine then(xv g tt fe (Zv cap p.2) p.1).bind λos=>some (.ow<|.nd .ls os,p.2)else none
noncomputable def yK:TF:=λas=>some (true,as)
section
variable{K:zzA}{kd:KD}{F B:Addr->Prop}{T:List Addr}{ad:Ad}{as:AS}{σ:St}{H H':Hp}{cap:List (Option Nat)}
def Cr(R:Rel K kd F B [] ad as σ H)(k:∀b u,H b=some u->H' b=some u)(hT:∀a ∈ T,H a=none)(hT':∀a ∈ T,H' a≠none):
 Rel K kd (XE (Lv F B (Gw [] ad) true) (· ∈ T)) (λ_=>False) [] (λ_=>[]) (Zv cap as) (Zo cap σ) H':=by
 have no:∀a,¬Gw [] (λ_=>[]) a:=λa z=>z.elim ⋯ λ⟨_,y⟩=>nomatch y;have kn:∀a,H a≠none->H' a≠none:=λa z=>by
  cases e:H a with
  |none=>exact absurd e z
  |some u=>rw[k a u e];simp
 have up:∀{st:Bool}{v:V}{d:D},Rp K kd (λa=>st=true/\Lv F B (Gw [] ad) true a) H v d->Rp K kd (Lv (XE _ _) (λ_=>False) _ st) H' v d:=λ{st v d} h=>by
  have:=Rp.grow (W':=_) (H':=H') ⟨λb u q _=>k b u q,λb z=>.inr<|hT b z⟩<|h.less λa z=>z.elim id False.elim;refine this.less λa z=>?_
  rcases z with(⟨z1,z2⟩|z)|z
  . rcases z2 with z2|z2
    . exact .inl ⟨z1,z2⟩
    . exact .inr z2
  . exact z.elim
  . exact(no a z).elim
 refine⟨by unfold Zv Zo;rw[zzB,zzB],λ_ _=>rfl,λ_=>zyJ,(λ_ _ _ z=>nomatch z),zyJ,(λ_ _ _ z=>nomatch z),λa z=>z.elim (λy=>kn a<|R.trk true a y)<|hT' a,(λ_ z=>z.elim),λa z=>(no a z).elim,λi s e=>?_⟩;unfold Zv at e;rw[zzI]at e;obtain⟨c,hc,rfl⟩:=zzX.mp e;have es:(Zo cap σ)[i]? = some (nI σ c):=by
  unfold Zo;rw[zzI,hc];rfl
 rw[es];cases c with
 |none=>rfl
 |some j=>
  show Re _ _ _ _ _ _ (match as[j]? with|some (some<|.lf st d)=>some _|some (some o)=>some _|_=>none) _ _;cases k2:as[j]? with
  |none=>rfl
  |some s0=>
   cases s0 with
   |none=>rfl
   |some o=>
    obtain⟨v,hv,ro⟩:=R.sl j _ k2;cases o with
    |lf st d=>
     have e0:ad j=[]:=by
            generalize hfp:ad j=fp at ro;cases ro;rfl
     rw[e0]at ro;refine⟨v,by show some ((σ[j]?).getD none)=_;rw[hv];rfl,.lf<|up ?_⟩;exact(Qg ro).less λa z=>by have zs:=z.1;rw[zs];exact z.2
    |nd kk os=>exact⟨v,by show some ((σ[j]?).getD none)=_;rw[hv];rfl,.lf<|up ((Qr ro).less λa z=>nomatch z.1)⟩
def Hu(hS:∀i ∈ S,cap[i]? = some none)(h:al K kd (zX fi cap g tt fe) σ H Q):
 OD (jm K kd fi) cap (mh K kd S g) (Jq K kd tt) (al K kd fe) σ H Q:=by
 obtain⟨F,B,ad,as,r,as',R,e,q⟩:=h;obtain⟨⟨ds,as1⟩,h1,e⟩:=bS_<|e
 by_cases hz:ds.length<=sizeLine
 . have e:(if ds.length<=sizeLine then(xv g tt fe (Zv cap as1) ds).bind λos=>some (RV.ow<|.nd .ls os,as1)else none)=some (r,as'):=e;rw[if_pos hz]at e;obtain⟨os,h2,e⟩:=bS_ e;cases e;refine⟨F,B,ad,as,ds,as',R,h1,λJ ad1 H1 R1 g1 it=>?_⟩;refine⟨λi m ys H3=>m+i=ds.length/\∃T os1 os2,os=os1++os2/\xv g tt fe (Zv cap as') (ds.drop i)=some os2/\os1.length<=i/\T.Nodup/\(∀a ∈ T,H1 a=none/\H3 a≠none)/\(∀b u,H1 b=some u->H3 b=some u)/\
    RoL (λ_ v d=>Rp K kd (XE (Lv F B (Gw [] ad1) true) (· ∈ T)) H3 v d) (λa=>¬XE (Lv F B (Gw [] ad1) true) (· ∈ T) a) H3 ys os1 T,⟨ds.length,rfl,[],[],os,rfl,h2,zzN _,zyJ,(λ_ m=>nomatch m),(λ_ _ z=>z),.nil⟩, ?_⟩
   rintro i m ys H3 ⟨hm,T,os1,os2,eo,ec,hl,tnd,tf,k3,rl⟩
   obtain⟨i1,i2,i3⟩:=it.all H3 (· ∈ T) k3 tf i;have yl:=rl.length;refine⟨by omega, ?_⟩
   by_cases hi:i<ds.length
   . refine .inr ⟨i1 hi,λv H4 hy=>?_⟩;obtain⟨k4,rp⟩:=i3 v H4 hy;rw[zyQ hi]at ec;obtain⟨as2,e2,ec⟩:=bS_<|ec;obtain⟨⟨b,as3⟩,e3,ec⟩:=bS_ ec;have k14:=λb u h=>k4 b u<|k3 b u h;have kn4:∀a,H3 a≠none->H4 a≠none:=λa z=>by
      cases e:H3 a with
      |none=>exact absurd e z
      |some u=>rw[k4 a u e];simp
     have R4:=Cr (cap:=cap) R1 k14 (λa z=>(tf a z).1) λa z=>kn4 a (tf a z).2;have no:∀a,¬Gw [] (λ_=>[]) a:=λa z=>z.elim (λy=>nomatch y) λ⟨_,y⟩=>nomatch y;refine⟨_,_,_,_,ds[i],as2,R4,(rp _<|zzE hi).less λa z=>?_,e2,λσ5 ad5 H5 R5 g5 keep5=>⟨λj w hw=>?_,_,_,ad5,as2,b,as3,R5,e3,λad6 H6 R6 g6=>?_⟩⟩
     . rcases z with(z|z)|z
       . exact z
       . exact z.elim
       . exact(no a z).elim
     . rw[keep5 j λz=>?_]
       . exact hw
       . have:=hS j z;unfold Zo at hw;rw[zzI,this]at hw;cases hw
     . -- what stood is kept
       have g46:=g5.trans g6;have k46:=λb u h=>g46.keep b u h<|no b;have k36:=λb u h=>k46 b u<|k4 b u h;have kn6:∀a,H3 a≠none->H6 a≠none:=λa z=>by
        cases e:H3 a with
        |none=>exact absurd e z
        |some u=>rw[k36 a u e];simp
       have up:∀{H7:Hp}{T2:List Addr},_->_->RoL (λ_ v d=>Rp K kd (XE _ (· ∈ T++T2)) H7 v d) (λa=>¬XE _ (· ∈ T++T2) a) H7 ys os1 T:=λ{H7 T2} k7 f7=>
        RoL.mono (λst v d r=>(r.since k7 f7).less λa z=>z.elim (λy=>.inl<|.inl y) λy=>(zzM.mp y).elim (λx=>.inl<|.inr x) .inr)
            (λa vs n e=>⟨λz=>z.elim (λy=>n<|.inl y) λy=>(zzM.mp y).elim (λx=>n<|.inr x) λx=>(by have:=f7 a x;rw[this]at e;cases e),k7 _ _ e⟩) (λa _ u h=>k7 a u h) rl
       cases b with
       |false=>
        have:=up (T2:=[]) k36 (λ_ m=>nomatch m);rw[zyE]at this;exact⟨m-1,q0X hm hi,q0K hm hi,T,os1,os2,eo,ec,Nat.le_succ_of_le hl,tnd,λa z=>⟨(tf a z).1,kn6 a (tf a z).2⟩,λb u h=>k36 b u<|k3 b u h,this⟩
       |true=>
        rw[if_pos rfl]at ec;obtain⟨⟨p,as7⟩,e7,ec⟩:=bS_ ec;obtain⟨⟨o,as8⟩,e8,ec⟩:=bS_ ec
        by_cases hs:o.str=true
        . have ec:=ec;rw[if_pos hs]at ec;obtain⟨os3,e9,ec⟩:=bS_ ec;cases ec;refine⟨by omega,_,_,ad6,as3,p,as7,R6,e7,λy T2 ad7 H7 R7 rv7 g7=>?_⟩;obtain⟨ad8,R8,ro8,le8⟩:=Rk R7 rv7 e8;have g47:=g46.trans g7;have k47:=λb u h=>g47.keep b u h<|no b;have k37:=λb u h=>k47 b u<|k4 b u h;have f42:=λa z=>(g47.own a<|.inl z).resolve_left<|no a;have f32:∀a ∈ T2,H3 a=none:=λa z=>by
             cases e:H3 a with
             |none=>rfl
             |some u=>have:=k4 a u e;rw[f42 a z]at this;cases this
          have rt:=K6 R8 R8.tnd (λa z=>.inl z) ro8 hs;have ro9:Ro (λ_ v d=>Rp K kd (XE _ (· ∈ T++T2)) H7 v d) (λa=>¬XE _ (· ∈ T++T2) a) H7 y o T2:=
             Ro.mono (λst v d r=>r.less λa z=>z.elim (λy=>.inl<|.inl y) λy=>(zzM.mp y).elim (λx=>.inl<|.inr x) .inr)
              (λa vs n e=>⟨λz=>n<|z.elim (λy=>.inl<|.inl y) λy=>(zzM.mp y).elim (λx=>.inl<|.inr x) .inr,e⟩) (λ_ _ _ h=>h) rt.ro
          refine⟨m-1,q0X hm hi,q0K hm hi,T++T2,os1++[o],os3,by rw[eo,zxA];rfl,e9,by rw[zzJ,List.length_singleton];omega,zxC.mpr ⟨tnd,rt.nd,λa z b z' e=>?_⟩,λa z=>?_,λb u h=>k37 b u<|k3 b u h,(up k37 f32).append<|RoL.one ro9⟩
          . subst e;exact(tf a z).2<|f32 a z'
          . rcases zzM.mp z with z|z
            . refine⟨(tf a z).1, ?_⟩;cases e:H3 a with
              |none=>exact absurd e (tf a z).2
              |some u=>rw[k37 a u e];simp
            . refine⟨?_,rt.tr a z⟩;cases e:H1 a with
              |none=>rfl
              |some u=>have:=k3 a u e;rw[f32 a z]at this;cases this
        . have ec:=ec;rw[if_neg hs]at ec;cases ec
   . refine .inl ⟨i2 (q1E hm hi),λp hp=>?_⟩;rw[List.drop_eq_nil_of_le<|(q1E hm hi)]at ec;cases ec;rw[zyE]at eo;subst eo;have pT:=λz=>(tf p z).2 hp;have H1p:H1 p=none:=by
      cases e:H1 p with
      |none=>rfl
      |some u=>have:=k3 p u e;rw[hp]at this;cases this
     have kp:∀b u,H3 b=some u->upd H3 p (.lst ys) b=some u:=λb u h=>by rw[zJ<|zV h hp];exact h
     obtain⟨R9,g9⟩:=R1.news (T':=p::T) (H':=upd H3 p<|.lst ys) (zzW.mpr ⟨pT,tnd⟩) (λa z=>(zzC.mp z).elim (λe=>by rw[e];exact H1p) λz=>(tf a z).1) (λb u h=>kp b u<|k3 b u h) (λa z=>by
      rcases zzC.mp z with e|z
      . rw[e,yg];simp
      . cases e:H3 a with
        |none=>exact absurd e (tf a z).2
        |some u=>rw[kp a u e];simp)
     refine q _ (p::T) ad1 _ R9 (.ls yg ?_)<|g1.trans g9;have le:∀st a,Lv F B (Gw (p::T) ad1) st a->XE (XE (Lv F B (Gw [] ad1) true) (· ∈ T)) (· = p) a:=λst a z=>by
      rcases z with(z|z)|z|z
      . exact .inl<|.inl<|.inl<|.inl ⟨rfl,z.2⟩
      . exact .inl<|.inl<|.inl<|.inr z
      . exact(zzC.mp z).elim .inr λy=>.inl<|.inr y
      . exact .inl<|.inl<|.inr<|.inr z
     exact RoL.mono (λst v d r=>(r.since kp λa z=>by rw[z];exact hp).less<|le st) (λa vs n e=>⟨λz=>(le true a z).elim n λy=>(by rw[y,hp]at e;cases e),kp _ _ e⟩) (λa _ u h=>kp a u h) rl
 . have e:=e;rw[if_neg hz]at e;cases e
end
section
variable{X:Cx}{kd:KD}{elt tg iter e a b c:Expr}{es ifs:List Expr}{scope:Scope}{pos:Pos}{N:List Str}{cap:List (Option Nat)}{g:GF}{tt:TF}{fe fa fb:EF}{fi:IF}{S:List Nat}{fr:AF}{fd:DF}
def Ip:B1 X [] (Jq X.K kd yK):=λa s σ H Q I h=>by
 obtain⟨F,B,c,as,b,d,R,e,q⟩:=h;cases e;exact CU a s σ H Q I<|q c H R Grow.refl
def CA(h:AT X kd c tt):B1 X [c] (Jq X.K kd tt):=by with_unfolding_all exact(J4 h)
def Je(hc:X.calm=true)(hi:Jd X kd tg iter fi)(hk:scope.kind = .function)(hcap:Q2 N X.N scope.names X.env.scope.names cap=true)(hS:S.all (λi=>cap[i]? == some none)=true)
 (hg:∀cl s H fp,AG (yN X N scope cl s H fp) kd tg S g) (ht:∀cl s H fp,B1 (yN X N scope cl s H fp) ifs<|Jq X.K kd tt) (he:∀cl s H fp,AE (yN X N scope cl s H fp) kd elt fe)
 (hs:∀x,foldedSetIterable iter X.env x=pure x):AE X kd (.ListComp elt [⟨tg,iter,ifs,0⟩] scope pos) (zX fi cap g tt fe):=by with_unfolding_all exact(yk (IA (g:=mh X.K kd S g) (te:=al X.K kd fe) hc hi hk hcap hg ht he hs) λσ H Q h=>Hu (λi m=>by simpa using List.all_eq_true.mp hS i m) h)
def Jl(hN:X.N.Nodup)(hiy:X.N[i]? = some y)(hy:Loc X.env.scope y)(hf:X.fn y=true\/X.env.scope.names.lookup y=some .local)
 (hsw:swapsWith (.ListComp elt [⟨tg,iter,ifs,0⟩] scope pos) (some<|.Name y py) spos.line X.env=pure true)
 (hc:X.calm=true) (hi:Jd X kd tg iter fi) (hk:scope.kind = .function) (hcap:Q2 N X.N scope.names X.env.scope.names cap=true) (hS:S.all (λi=>cap[i]? == some none)=true)
 (hg:∀cl s H fp,AG (yN X N scope cl s H fp) kd tg S g) (ht:∀cl s H fp,B1 (yN X N scope cl s H fp) ifs<|Jq X.K kd tt) (he:∀cl s H fp,AE (yN X N scope cl s H fp) kd elt fe)
 (hs:∀x,foldedSetIterable iter X.env x=pure x):Lw X kd (.Assign [.Name y py] (.ListComp elt [⟨tg,iter,ifs,0⟩] scope pos) spos) (zm z i<|zX fi cap g tt fe):=by with_unfolding_all exact(xy (IJ (g:=mh X.K kd S g) (te:=al X.K kd fe) hN hiy hy hf hsw hc hi hk hcap hg ht he hs) λD σ H h=>by
 obtain⟨F,B,c,as,o,R,e,q⟩:=h;obtain⟨⟨p,a⟩,d,e⟩:=bS_<|e;obtain⟨_,j,e⟩:=bS_ e;obtain⟨k,e⟩:=zr e;cases e;refine Hu (λi m=>by simpa using List.all_eq_true.mp hS i m) ⟨F,B,c,as,p,a,R,d,λv A n r t u g=>?_⟩;obtain⟨b,R2,w⟩:=Mf t u j k;exact q _ b r R2<|g.trans<|Grow.less w)
def Cq(F:FnOk X.prog X.w X.K X.mg X.base ZP k f fdt ps (Qc X.K kd gg))(hr:Room k X.A)(hg:Gl X x)(hm:X.mg x=some (.ref f))(hk:W.keepIn X.K (.ref f)=true)
 (hb:Binds X.K fdt ps []) (hx:vV ZP X (λ_ _ _=>False)) (ha:AA X kd (e::es) fr) (hdb:(x==("__debug__":Str))=false) (he:starEach (e::es) X.env=(false,eval e X.env)::starEach es X.env) (hpl:(backTo pos<|starEach es X.env).any (·.1)=false):
 AE X kd (.Call (.Name x p) (e::es) [] pos) (zd fr gg):=by with_unfolding_all exact(yk (KG F hr hg hm hk hb .nil hx ha hdb he hpl) λσ H Q h=>ud h)
def DZ{id}(hc:ZW X kd (.builtin id) gg)(hg:Gl X x)(hm:X.mg x=none)(hv:bootBuiltins x=some (.builtin id))(ha:AA X kd (e::es) fr)(hn:x≠"__name__")(hdb:(x==("__debug__":Str))=false)
 (he:starEach (e::es) X.env=(false,eval e X.env)::starEach es X.env) (hpl:(backTo pos<|starEach es X.env).any (·.1)=false):AE X kd (.Call (.Name x p) (e::es) [] pos) (fP fr gg):=by with_unfolding_all exact(yk (RL hc hg hm hv ha hn hdb he hpl) λσ H Q h=>j0 (λ_ _ _ z=>z) h)
def ub(hc:ZW X kd (.type T) gg)(hg:Gl X x)(hm:X.mg x=none)(hv:bootBuiltins x=some (.type T))(ha:AA X kd (e::es) fr)(hn:x≠"__name__")(hdb:(x==("__debug__":Str))=false)
 (he:starEach (e::es) X.env=(false,eval e X.env)::starEach es X.env) (hpl:(backTo pos<|starEach es X.env).any (·.1)=false):AE X kd (.Call (.Name x p) (e::es) [] pos) (fP fr gg):=by with_unfolding_all exact(yk (FZ hc hg hm hv ha hn hdb he hpl) λσ H Q h=>j0 (λ_ _ _ z=>z) h)
def Vc(fa:EF)(c:String):EF:=λas=>(fa as).bind λp=>(p.1.frz.view p.2).bind λx=>if Im x.1=true then some (.ow<|.lf true<|.bl<|EY (oE x.1) c,p.2)else none
def SX(hk:KdOk X kd):Yq X (.builtin "isinstance") (λxs H Q=>∃x c O d,xs=[x,.ty c]/\V3 c=true/\Vw X.K kd O H x d/\Im d=true/\Q (.bl<|EY (oE d) c) H):=by
 intro b s σ H l m Q I r h;obtain⟨x,c,O,d,rfl,e,f,g,q⟩:=h;cases r with
 |cons i a=>
  cases a with
  |cons a j=>
   cases j;cases(a);exact tG hk I i f e g λk=>⟨.bl _,H,I.tok k,rfl,q⟩
def Ky{c}(hkd:KdOk X kd)(hc:V3 c=true)(hg:Gl X x)(hm:X.mg x=none)(hv:bootBuiltins x=some (.builtin "isinstance"))(hg2:Gl X y)(hm2:X.mg y=none)(hv2:bootBuiltins y=some (.type c))(ha:AE X kd a fa)
 (hn:x≠"__name__") (hdb:(x==("__debug__":Str))=false) (hn2:y≠"__name__") (hdb2:(y==("__debug__":Str))=false)
 (he:starEach [a,.Name y p2] X.env=(false,eval a X.env)::starEach [.Name y p2] X.env) (he2:starEach [.Name y p2] X.env=(false,eval (.Name y p2) X.env)::starEach [] X.env) (hpl:(backTo pos<|starEach [.Name y p2] X.env).any (·.1)=false):
 AE X kd (.Call (.Name x p) [a,.Name y p2] [] pos) (Vc fa c):=by with_unfolding_all exact(yk (RL (SX hkd) hg hm hv (Wf ha (Wf (JT (v:=.ty c) hg2 hm2 hv2 rfl hn2 hdb2) RZ he2) he) hn hdb he hpl) λσ H Q h=>by
 obtain⟨F,B,s,as,r,i,R,e,q⟩:=h;obtain⟨_,k,e⟩:=bS_<|e;obtain⟨⟨d,t⟩,l,e⟩:=bS_ e;obtain⟨m,e⟩:=zr e;cases e;exact wZ R k λv b n g f o=>⟨v,c,_,d,rfl,hc,xj.vw g f l,m,q _ [] b n g (.lf<|.bl _) o⟩)
noncomputable def vH:MG:=λos es=>match es with | [o]=>if os.length<sizeLine then some (os++[o],.lf true .non)else none|_=>none
noncomputable def Ww(i:Int)(n:Nat):Nat:=if i<0 then(i+(n:Int)).toNat else min i.toNat n
def Bh:MG:=λos es=>match es with | [.lf _<|.int i,o]=>if(-(2 ^ 63)<=i/\i<2 ^ 63)/\os.length<sizeLine then some (os.take (Ww i os.length)++o::os.drop (Ww i os.length),.lf true .non)else none|_=>none
def tB:n_ X kd Fh vH:=by
 intro F B G l f p q r g o s t H Q h c b d e k;unfold vH at e
 split at e
 . obtain⟨i,e⟩:=zr e;cases e;cases b with
   |cons j n=>
    cases n;rw[zyE]at d k;exact⟨l,f,_,rfl,rfl,h,by rw[c.length];exact i,k _ _ _ [] (c.append<|RoL.one j) (.lf .non) ⋯ (by rwa [zyE])⟩
 . cases e
def oC:V->List V->Hp->VK->Prop:=λx vs H Q=>∃l xs i y,x = .ref l/\vs=[.int i,y]/\H l=some (.lst xs) /\ -(2 ^ 63)<=i/\i<2 ^ 63/\xs.length<sizeLine/\Q .non (upd H l<|.lst (xs.take (Ww i xs.length)++y::xs.drop (Ww i xs.length)))
def uJ:kz X "list.insert" oC:=by
 intro c s σ H x p v A Q I f g h;obtain⟨l,B,i,y,rfl,rfl,d,j,k,C,q⟩:=h;cases f;obtain⟨u,w,rfl,m,b⟩:=g.two;obtain⟨t,rfl⟩:=m;obtain⟨z,a,n,r,o,e⟩:=I.lstM d;refine call_meets F.slot_list_insert ⟨_,e,rfl⟩ F.entry_list_insert (F.args_list_insert_3 _ _ _) (AutoSeq1.list_insert_list_int_val_1 l a.toArray n i t w (by rw[fitsIndex_both j k];exact zyV)<|by rw[zzH];exact q0I C o) ⟨e, ?_⟩;refine⟨.non,_,I.lset (its':=a.take (Ww i a.length)++w::a.drop (Ww i a.length)) d e ?_ ((r.take _).append<|.cons b<|r.drop _) ?_,rfl, ?_⟩
 . show((a.toArray.extract 0<|Ww i a.toArray.size).push w++a.toArray.extract _)=_;simp;exact List.take_of_length_le ⋯
 . rw[zzJ,zzT,zzS,List.length_drop];omega
 . rwa [<-o]
def Dj:n_ X kd oC Bh:=by
 intro F B G l r C s D t o E I H Q u g b h e k;unfold Bh at e
 split at e
 . rename_i J i K;obtain⟨c,e⟩:=zr e;cases e;cases b with
   |cons v d=>
    cases d with
    |cons d w=>
     cases w;cases v with
     |lf x=>
      cases x;rw[zyE]at h k;obtain⟨f,j,y,z,A⟩:=g.part _;have n:=g.length;rename_i q;refine⟨l,r,i,_,rfl,rfl,u,c.1.1,c.1.2,by rw[n];exact c.2, ?_⟩;rw[n];subst y;have p:((f++j)++q).Perm (f++(q++j)):=by
       rw[zxA];exact(List.perm_append_comm).append_left f
      refine k _ _ _ [] (z.append<|.cons d A) (.lf .non) (λa m=>?_) (by rw[zyE];exact p.nodup_iff.mp h);rw[zyE]at m;exact p.mem_iff.mpr m
 . cases e
def SC{i:Nat}{id}(hm:kz X id r)(hr:n_ X kd r gg)(slot:Slot "list" name id)(hty:typeOf (.builtin id)=pure (.type "method_descriptor"))(ho:PE X (.Name x p) (W5 i))(ha:AD X kd (e::es) fd)
 (hbase:attributeBase (.Name x p) name X.env (eval (.Name x p) X.env)=eval (.Name x p) X.env)
 (hfew:((backTo cpos<|starEach (e::es) X.env).all (λx=>!x.1)&&(backToKw cpos<|keywordEach [] X.env).all (λx=>x.1.isSome)
  && decide ((e::es).length+([]:List Keyword).length+(if([]:List Keyword).isEmpty then 0 else 1)<30))=true)
 (hline:(apos.endLine==cpos.line)=true) (hs:starEach (e::es) X.env=(false,eval e X.env)::starEach es X.env) (hplain:(backTo cpos<|starEach es X.env).any (·.1)=false):
 AE X kd (.Call (.Attribute (.Name x p) name apos) (e::es) [] cpos) (wQ i fd gg):=by with_unfolding_all exact(yk (Aq PySem.F.plainAttrs_list slot hty hm ho ha hbase hfew hline hs hplain) λσ H Q h=>qZ hr h)
end
inductive Ty where
 |str|lst|dct|int
noncomputable def Ty.nm:Ty->String
 | .str=>"str" | .lst=>"list" | .dct=>"dict" | .int=>"int"
noncomputable def Ic:Ty->D->Bool
 | .str,.str _=>true
 | .lst,.lst _=>true
 | .dct,.dct _=>true
 | .int,.int _=>true
 |_,_=>false
def jZ(X:Cx)(T:String)(x:V)(H:Hp):Prop:=∀(pins:List (Addr×Obj)) (σ:St) (s:Shared) (v:Value),Inv X pins σ H s->RelV x v->s.TypeIs v T/\∀a,v = .ref a->∃ob,s.heap.get? a=some ob/\ob.dict=none
def ij(X:Cx)(T:String)(r:V->List V->Hp->VK->Prop)(to:TE)(t:TA):TE:=λσ H Q=>to σ H λx H1=>jZ X T x H1/\t σ H1 λxs H2=>r x xs H2 Q
section
variable{X:Cx}{kd:KD}{o e:Expr}{es:List Expr}{to:TE}{t:TA}{name:Str}{apos cpos:Pos}{T id:String}{r:V->List V->Hp->VK->Prop}
def nk(pa:PlainAttrs T)(slot:Slot T name id)(hty:typeOf (.builtin id)=pure (.type "method_descriptor"))(hm:kH X id r)(ho:PE X o to)(ha:PA X (e::es) t)
 (hbase:attributeBase o name X.env (eval o X.env)=eval o X.env)
 (hfew:((backTo cpos<|starEach (e::es) X.env).all (λx=>!x.1)&&(backToKw cpos<|keywordEach [] X.env).all (λx=>x.1.isSome)
  && decide ((e::es).length+([]:List Keyword).length+(if([]:List Keyword).isEmpty then 0 else 1)<30))=true)
 (hline:(apos.endLine==cpos.line)=true) (hs:starEach (e::es) X.env=(false,eval e X.env)::starEach es X.env) (hplain:(backTo cpos<|starEach es X.env).any (·.1)=false):
 PE X (.Call (.Attribute o name apos) (e::es) [] cpos) (ij X T r to t):=by
 intro a s σ H Q I h;refine wpAny_Call_method_late hbase hfew hline rfl<|wA (ho a s σ H _ I h) λv f ⟨x,g,b,c,i,j⟩=>?_;obtain⟨k,l⟩:=i _ _ _ _ b c;refine⟨T,id,pa,slot,hty,k,l, ?_⟩;have d:=ha cpos a f σ g _ b j;rw[hs]at d ⊢;refine Calls.callWith_builtin ⋯ (Calls.evalArgs_plain ?_);exact wA d λm n ⟨p,q,u,w,y⟩=>hm a n σ q x p v m Q u c w y
def jU(X:Cx)(kd:KD)(id:String)(g:D->List D->Option R0):Prop:=
 kH X id (λx xs H Q=>∃O d ds r,(∀a,O a->H a≠none)/\Vw X.K kd O H x d/\VwL X.K kd O H xs ds/\g d ds=some r/\RQ X.K kd O H Q r)
def rW(hk:KdOk X kd){O}(h:Vw X.K kd O H x d)(e:Ic ty d=true):jZ X ty.nm x H:=by
 intro pins σ s v I rx;cases h with
 |str z=>
  obtain⟨t,rfl⟩:=rx;cases ty<;>first|(cases e;done)|exact⟨typeIs_str s z t,λ_ e=>nomatch e⟩
 |int z=>
  obtain⟨t,rfl⟩:=rx;cases ty<;>first|(cases e;done)|exact⟨typeIs_int s z t,λ_ e=>nomatch e⟩
 |lst hr rl=>
  cases rx;obtain⟨its,_,pl,_⟩:=I.list hr.sq;cases ty<;>first|(cases e;done)|skip
  refine⟨pl.isList.typeIs,λa e=>?_⟩;cases e;obtain⟨o,n,e,c,hd,_⟩:=pl;exact⟨o,e,hd⟩
 |dct hr rm=>
  cases rx;obtain⟨z,hd,vs,rel,dd⟩:=PH I hk hr;cases ty<;>first|(cases e;done)|skip
  refine⟨dd.typeIs,λb q=>?_⟩;cases q;obtain⟨ob,_,_,h1,h2,_⟩:=dd;exact⟨ob,h1,h2.2.1⟩
 |non=>cases ty<;>cases e
 |bl=>cases ty<;>cases e
 |tup=>cases ty<;>cases e
 |cl=>cases ty<;>cases e
 |ob=>cases ty<;>cases e
def Tz(ty:Ty)(fa:EF)(fr:AF)(g:D->List D->Option R0):EF:=λas=>(fa as).bind λp=>(p.1.frz.view p.2).bind λw=>if Ic ty w.1=true then(fr p.2).bind λq=>(p.1.frz.view q.2).bind λx=>(views q.2 q.1).bind λy=>(g x.1 y.1).bind λr=>(wrap (meet x.2 y.2) r).bind λz=>some (z,q.2)else none
def tM(hk:KdOk X kd)(h:al X.K kd (Tz ty fa fr g) σ H Q):
 ij X ty.nm (λx xs H Q=>∃O d ds r,(∀a,O a->H a≠none)/\Vw X.K kd O H x d/\VwL X.K kd O H xs ds/\g d ds=some r/\RQ X.K kd O H Q r) (al X.K kd fa) (Iq X.K kd fr) σ H Q:=by
 obtain⟨F,B,U,as,r,o,R,e,q⟩:=h;obtain⟨⟨p,c⟩,s,e⟩:=bS_<|e;obtain⟨_,t,e⟩:=bS_ e;obtain⟨f,e⟩:=ite_some' e;obtain⟨⟨u,y⟩,A,e⟩:=bS_ e;obtain⟨⟨d,Y⟩,C,e⟩:=bS_ e;obtain⟨⟨D,E⟩,G,e⟩:=bS_ e;obtain⟨I,J,e⟩:=bS_ e;obtain⟨z,L,e⟩:=bS_ e;cases e;refine wZ R s λv i Z m b M=>⟨rW hk (xj.vw m b t) f,F,B,i,c,u,_,m,A,λvs j H2 R2 k n=>?_⟩;exact⟨_,d,D,I,R2.tr _,(xj.vw R2 (b.grow n) C).less Q1.meet1,(Vg R2 k G).less Q1.meet2,J,ZT R2 L λw N P S l T=>q w N j P S l<|(M.trans n).trans T⟩
def Cb(hk:KdOk X kd)(hm:jU X kd id g)(pa:PlainAttrs ty.nm)(slot:Slot ty.nm name id)(hty:typeOf (.builtin id)=pure (.type "method_descriptor"))(ho:AE X kd a fa)(ha:AA X kd (e::es) fr)
 (hbase:attributeBase a name X.env (eval a X.env)=eval a X.env)
 (hfew:((backTo cpos<|starEach (e::es) X.env).all (λx=>!x.1)&&(backToKw cpos<|keywordEach [] X.env).all (λx=>x.1.isSome)
  && decide ((e::es).length+([]:List Keyword).length+(if([]:List Keyword).isEmpty then 0 else 1)<30))=true)
 (hline:(apos.endLine==cpos.line)=true) (hs:starEach (e::es) X.env=(false,eval e X.env)::starEach es X.env) (hplain:(backTo cpos<|starEach es X.env).any (·.1)=false):
 AE X kd (.Call (.Attribute a name apos) (e::es) [] cpos) (Tz ty fa fr g):=by with_unfolding_all exact(yk (nk pa slot hty hm ho ha hbase hfew hline hs hplain) λσ H Q h=>tM hk h)
end
section
variable{K:zzA}{kd:KD}{F B G:Addr->Prop}{T:List Addr}{ad:Ad}{as:AS}{σ:St}{H H':Hp}
inductive RPs(K:zzA)(kd:KD)(F B G:Addr->Prop)(H:Hp):List (V×V)->List (Key×O)->Prop
 |nil:RPs K kd F B G H [] []
 |cons {k:Key}{v:V}{o:O}{ps:List (V×V)}{kos:List (Key×O)}:wC K kd F B G H v o []->RPs K kd F B G H ps kos->RPs K kd F B G H ((kV k,v)::ps) ((k,o)::kos)
end
abbrev Fn:=List (Bool×D)->Option O
section
variable{P:Program}{w:World}{K:zzA}{mg:Str->Option Value}{base:Heap}{kd:KD}
def Ju:FnOk P w K mg base ZP k f fd ps (Qc K kd λ_=>none):=
 ⟨λc H Q E h=>(by obtain⟨_,_,_,_,_,e,_⟩:=h;cases e),λA a s H b d c Q E _ _ _ _ h=>(by obtain⟨_,_,_,_,_,e,_⟩:=h;cases e)⟩
def NM(hr:Room k A):A.units+100<cLine:=by have:=hr.un;omega
def sX(P:Program)(w:World)(K:zzA)(kd:KD):Prop:=∀X:Cx,X.prog=P->X.w=w->X.K=K->KdOk X kd
theorem XI{O}:∀ns:List Int,RpL K kd O H (ns.map V.int)<|ns.map D.int
 | []=>.nil
 |_::r=>.cons (.int _)<|XI r
def uY{ns:List Int}(hg:g [(true,.lst<|ns.map D.int)]=some (.lf true<|.bl true))(hS:Sr K H a (ns.map V.int)):Qc K kd g [.ref a] H (λv _=>v = .bl true) E:=by
 refine⟨λ_=>False,[_],.lf true _,⋯,.cons ?_ .nil,hg,λv T e _ _ _ _ b=>?_⟩
 . rcases hS with h|⟨c,n,k,z,r⟩
   . exact .lst (λz=>z.2) h<|XI ns
   . exact .lstK k z r<|XI ns
 . cases b with
   |lf d=>cases d;rfl
end
namespace Bt
theorem len:bootBuiltins "len"=some (.builtin "len"):=⋯
theorem max:bootBuiltins "max"=some (.builtin "max"):=⋯
theorem min:bootBuiltins "min"=some (.builtin "min"):=⋯
theorem sum:bootBuiltins "sum"=some (.builtin "sum"):=⋯
theorem divmod:bootBuiltins "divmod"=some (.builtin "divmod"):=⋯
theorem isinstance:bootBuiltins "isinstance"=some (.builtin "isinstance"):=⋯
theorem int:bootBuiltins "int"=some (.type "int"):=⋯
theorem bool:bootBuiltins "bool"=some (.type "bool"):=⋯
theorem list:bootBuiltins "list"=some (.type "list"):=⋯
theorem tuple:bootBuiltins "tuple"=some (.type "tuple"):=⋯
theorem dict:bootBuiltins "dict"=some (.type "dict"):=⋯
def n(x)(h:(x==("__name__":Str))=false):x≠"__name__":=λe=>by subst e;simp at h
end Bt
def WD(f:EF)(as:AS)(st:Bool)(d:D):Prop:=f as=some (.ow<|.lf st d,as)
def WT(f:TF)(as:AS)(b:Bool):Prop:=f as=some (b,as)
def WA(f:AF)(as:AS)(rs:List (Bool×D)):Prop:=f as=some (rs.map λx=>.ow<|.lf x.1 x.2,as)
def WO(f:DF)(as:AS)(os:List O):Prop:=f as=some (os,as)
section
variable{as:AS}{f a b:EF}{s t:Bool}{x y z:D}{i j:Int}
def zb:WD (fC x) as true x:=rfl
def za{i:Nat}(h:as[i]? = some (some<|.lf s x)):WD (fV i) as s x:=by unfold WD fV;rw[h]
def AK(ha:WD a as s x)(hb:WD b as t y)(hg:g x y=some (.im z)):WD (f2 a b g) as (zB z||(s&&t)) z:=by
 unfold WD f2 at *;rw[ha];show((b as).bind _)=_;rw[hb];show((g x y).bind _)=_;rw[hg];show(if _=true then _ else _:Option RV).bind _=_;rw[if_pos<|by unfold meet;simp];rfl
def om(ha:a as=some (.ow oa,as))(hb:b as=some (.ow ob,as))(hg:g oa.toD ob.toD=some (.im z)):WD (f2 a b g) as (zB z||(oa.str&&ob.str)) z:=by
 unfold WD f2 at *;rw[ha];show((b as).bind _)=_;rw[hb];show((g oa.toD ob.toD).bind _)=_;rw[hg];show(if _=true then _ else _:Option RV).bind _=_;rw[if_pos<|by unfold meet;simp];rfl
def zY(ha:WD a as s x)(hb:WD b as t y)(hg:g x y=some (.im z))(e:zB z=true):WD (f2 a b g) as true z:=by
 have:=AK ha hb hg;rwa [e]at this
def zM(ha:WD a as s (.int i))(hb:WD b as t (.int j)):WD (f2 a b<|ZM .Add) as true (.int<|i+j):=zY ha hb rfl rfl
def x5(ha:WD a as s (.int i))(hb:WD b as t (.int j)):WD (f2 a b<|ZM .Sub) as true (.int<|i-j):=zY ha hb rfl rfl
def KO(ha:WD a as s (.int i))(hb:WD b as t (.int j))(h:j.natAbs<2 ^ 64):WD (f2 a b<|ZM .Mult) as true (.int<|i*j):=zY ha hb (by show(if _ then _ else _)=_;rw[if_pos<|.inr h]) rfl
def yZ(ha:WD a as s (.int i))(hb:WD b as t (.int j))(h1:i.natAbs<big)(h2:j.natAbs<big):WD (f2 a b<|ZM .Mult) as true (.int<|i*j):=zY ha hb (by show(if _ then _ else _)=_;rw[if_pos<|.inl ⟨h1,h2⟩]) rfl
def we(ha:WD a as s (.int i))(hb:WD b as t (.int j))(h1:0<j)(h2:j.natAbs<big):WD (f2 a b<|ZM .FloorDiv) as true (.int<|i/j):=zY ha hb (by show(if _ then _ else _)=_;rw[if_pos ⟨h1,h2⟩]) rfl
def ya(ha:WD a as s (.int i))(hb:WD b as t (.int j))(h1:0<j):WD (f2 a b<|ZM .Mod) as true (.int<|i%j):=zY ha hb (by show(if _ then _ else _)=_;rw[if_pos h1]) rfl
def OW(ha:WD a as s (.int i))(hb:WD b as t (.int j))(h1:0<=j/\j<=1000000/\i.natAbs<2 ^ 64):WD (f2 a b<|ZM .Pow) as true (.int<|i ^ j.toNat):=zY ha hb (by show(if _ then _ else _)=_;rw[if_pos h1]) rfl
def Gs(ha:WD a as s x)(hb:WD b as t y)(h:Yj 60 x y=some c):WD (f2 a b<|zw .Eq) as true (.bl c):=zY ha hb (by show(Yj 60 x y).bind _=_;rw[h];rfl) rfl
def E9(ha:WD a as s x)(hb:WD b as t y)(h:Yj 60 x y=some c):WD (f2 a b<|zw .NotEq) as true (.bl<|!c):=zY ha hb (by show(Yj 60 x y).bind _=_;rw[h];rfl) rfl
def ND(ha:WD a as s (.int i))(hb:WD b as t (.int j)):WD (f2 a b<|zw .Lt) as true (.bl<|decide (i<j)):=zY ha hb rfl rfl
def oV(ha:WD a as s (.int i))(hb:WD b as t (.int j)):WD (f2 a b<|zw .Gt) as true (.bl<|decide (j<i)):=zY ha hb rfl rfl
def px(ha:WD a as s (.int i))(hb:WD b as t (.int j)):WD (f2 a b<|zw .GtE) as true (.bl<|decide (j<=i)):=zY ha hb rfl rfl
def Dq(ha:WD a as s (.int i)):WD (f1 a P9) as true (.int (-i)):=by
 unfold WD f1 at *;rw[ha];rfl
def yF(h:WD f as s x)(e:truth x=some c):WT (fT f) as c:=by
 unfold WT fT;rw[h];show((truth x).bind _)=_;rw[e];rfl
def ZH(h:WT c as k):WT (wF c) as (!k):=by unfold WT wF at *;rw[h];rfl
def KA(h:WT c as k)(h2:k=true->WT e as l)(h3:k=false->l=false):WT (T5 c e) as l:=by
 unfold WT T5 at *;rw[h];cases k with
 |true=>exact h2 rfl
 |false=>rw[h3 rfl];rfl
def NA(h:WT c as k)(h2:k=false->WT e as l)(h3:k=true->l=true):WT (UP c e) as l:=by
 unfold WT UP at *;rw[h];cases k with
 |false=>exact h2 rfl
 |true=>rw[h3 rfl];rfl
def tV(h:WT c as true)(ha:WD a as s x):WD (FD c a b) as s x:=by unfold WD FD;rwa [h]
def sx(h:WT c as false)(hb:WD b as s x):WD (FD c a b) as s x:=by unfold WD FD;rwa [h]
def Ru(h:WD a as s (.bl k))(h2:k=true->WD b as true (.bl l))(h3:k=false->l=false):WD (Tg a b) as true (.bl l):=by
 unfold WD Tg at *;rw[h];cases k with
 |true=>exact h2 rfl
 |false=>rw[h3 rfl];rfl
def zo:WA aN as []:=rfl
def ze(ha:WD a as s x)(hr:WA fr as rs):WA (aC a fr) as ((s,x)::rs):=by
 unfold WA aC at *;rw[ha];show((fr as).bind _)=_;rw[hr];rfl
theorem Yo:∀rs:List (Bool×D),Z7 as (rs.map λx=>.ow<|.lf x.1 x.2)=some (rs.map λx=>(zB x.2||x.1,x.2))
 | []=>rfl
 |r::a=>by
  show(Z7 as _).bind _=_;rw[Yo a];rfl
theorem XG:∀rs:List (Bool×D),views as (rs.map λx=>.ow<|.lf x.1 x.2)=some (rs.map (·.2),some (rs.all (·.1)))
 | []=>rfl
 |r::a=>by
  show(views as _).bind _=_;rw[XG a];rfl
def Kv(ha:WA fr as rs)(hg:g (rs.map λx=>(zB x.2||x.1,x.2))=some (.lf s x)):WD (zd fr g) as s x:=by
 unfold WD zd;rw[ha];show(Z7 as _).bind _=_;rw[Yo];show(g _).bind _=_;rw[hg];rfl
def vL(ha:WA fr as rs)(hg:g (rs.map λx=>(zB x.2||x.1,x.2))=some o):zd fr g as=some (.ow o,as):=by
 unfold zd;rw[ha];show(Z7 as _).bind _=_;rw[Yo];show(g _).bind _=_;rw[hg];rfl
def Fm(ha:WA fr as rs)(hg:g (rs.map (·.2))=some (.im x)):WD (fP fr g) as (zB x||rs.all (·.1)) x:=by
 unfold WD fP;rw[ha];show(views as _).bind _=_;rw[XG];show(g _).bind _=_;rw[hg];show(if _=true then _ else _:Option RV).bind _=_;rw[if_pos ⋯];rfl
def yX(ha:WA fr as rs)(hg:g (rs.map (·.2))=some (.im x))(e:zB x=true):WD (fP fr g) as true x:=by
 have:=Fm ha hg;rwa [e]at this
def yG:WO dN as []:=rfl
def zE{os}(ha:WD a as s x)(hr:WO fr as os):WO (dC a fr) as (.lf s x::os):=by
 unfold WO dC at *;rw[ha];show((fr as).bind _)=_;rw[hr];rfl
def YQ{os}(h:WO fr as os)(hl:os.length<=sizeLine):zZ fr as=some (.ow<|.nd .ls os,as):=by
 unfold zZ;rw[h];show(if os.length<=sizeLine then _ else _)=_;rw[if_pos hl]
def zt{f g}(h1:f as=some (.nx as1))(h2:g as1=o):zh f g as=o:=by unfold zh;rwa [h1]
def vY{f g}(h1:f as=some (.rt o)):zh f g as=some (.rt o):=by unfold zh;rw[h1];rfl
def xf{f g}(h:WT c as true)(h1:f as=o):xk c f g as=o:=by unfold xk;rwa [h]
def zu{f g}(h:WT c as false)(h1:g as=o):xk c f g as=o:=by unfold xk;rwa [h]
def zD{i:Nat}{st}(h:WD f as s x)(hi:i<as.length):zm st i f as=some (.nx<|as.set i<|some<|.lf s x):=by
 unfold zm;rw[h];cases st<;>exact if_pos hi
def w9{i:Nat}(h:f as=some (.ow o,as))(hi:i<as.length):zm false i f as=some (.nx<|as.set i<|some o):=by
 unfold zm;rw[h];exact if_pos hi
def CG{i:Nat}(h:f as=some (.ow o,as))(hi:i<as.length):zm true i f as=some (.nx<|as.set i<|some o.frz):=by
 unfold zm;rw[h];exact if_pos hi
def x6(h:WD f as true x):zy f as=some (.rt<|.lf true x):=by unfold zy;rw[h];rfl
def xO(hl:ds.length=m)(h:c (vU n ds)=some (.rt o)):xY n m c ds=some o:=by unfold xY;rw[if_pos hl,h];rfl
theorem yW{f}(I:Nat->AS->Prop):∀(xs:List xi) (k:Nat) (as:AS),(∀i x as,xs[i]? = some x->I (k+i) as->∃as1,g x as=some as1/\∃as2,f as1=some (.nx as2)/\I (k+i+1) as2)->I k as->∃as',forL g f xs as=some (.nx as')/\I (k+xs.length) as'
 | [],k,as,_,h=>⟨as,rfl,h⟩
 |x::r,k,as,d,h=>by
  obtain⟨a,j,b,l,m⟩:=d 0 x as rfl h;obtain⟨c,n,o⟩:=yW I r (k+1) b (λi y as e q=>by
   obtain⟨u,p,v,s,t⟩:=d _ y as e (by rwa [show k+(i+1)=k+1+i from q0c]);exact⟨u,p,v,s,by rwa [show k+1+i+1=k+(i+1)+1 by omega]⟩) m
  refine⟨c, ?_,by rwa [zzT,show k+_=k+1+r.length from q0c]⟩;show(g x as).bind _=_;rw[j];show(f a).bind _=_
  rwa [l]
def yn{f}(h:fi as=some (xs,as'))(h2:forL g f xs as'=o):yx fi g f as=o:=by unfold yx;rwa [h]
def y_{lo}{n i:Nat}{x}(h:(yR lo n)[i]? = some x):x=(true,.int<|lo+i)/\i<n:=by
 unfold yR at h;rw[zzI]at h;cases e:(List.range n)[i]? with
 |none=>rw[e]at h;cases h
 |some k=>
  rw[e]at h;obtain⟨a,b⟩:=zzG.mp e;rw[zyU]at a;rw[List.getElem_range]at b;subst b;exact⟨(zzZ h).symm,a⟩
def y6(h:WA fr as [(u,.int j)])(h0:0<=j)(h1:j<1000000):yu fr yH as=some (yR 0 j.toNat,as):=by
 unfold yu;rw[h];show((if -_<=j/\j<2 ^ 62 then some _ else none).bind _)=_;rw[if_pos ⋯];rfl
def SR(ha:a as=some (.ow o,as))(hr:WA fr as rs):WA (aC a fr) as ((o.str,o.toD)::rs):=by
 unfold WA aC at *;rw[ha];show((fr as).bind _)=_;rw[hr];rfl
def EH{i:Nat}(h:as[i]? = some (some o)):RV.view as (.bo i)=some (o.toD,o.kl):=by simp only[RV.view,h]
def Dv{i:Nat}(h:as[i]? = some (some o)):C4 as (.bo i)=some (o.frz,as.set i<|some o.frz):=by simp only[C4,h]
def JX{i:Nat}(h:as[i]? = some (some o))(hs:o.str=true):O4 as (.bo i)=some o:=by simp only[O4,h,hs,if_true]
def Nh{i:Nat}{os}(h:as[i]? = some (some<|.nd k os)):fV i as=some (.bo i,as):=by unfold fV;rw[h]
def jd{i:Nat}{os}(h:as[i]? = some (some<|.nd .ls os)):WD (fP (aC (fV i) aN) yo) as true (.int os.length):=by
 have e:views as [.bo i]=some ([.lst<|O.toDs os],meet (O.nd .ls os).kl<|some true):=by
  show(RV.view as _).bind _=_;rw[EH h];rfl
 unfold WD fP aC;rw[Nh h];simp only[zyL,aN,RV.frz,e];rw[show yo [.lst _]=some _ by show some _=_;rw[ZU]];rfl
def iI{i:Nat}{os}(h:as[i]? = some (some<|.nd .ls os))(hl:os.all O.isLf=true)(hb:WD b as t y)(hg:zx (.lst<|O.toDs os) y=some (.im z)):WD (f2 (fV i) b zx) as (zB z||(O.strs os&&t)) z:=by
 unfold WD f2 at *;rw[Nh h];show((b as).bind _)=_;rw[hb];show((RV.view as<|.bo i).bind _)=_;rw[EH h];have e:(O.nd .ls os).kl=some (O.strs os):=by simp only[O.kl,hl,if_true]
 rw[e];show((zx (.lst _) y).bind _)=_;rw[hg];show(if _=true then _ else _:Option RV).bind _=_;rw[if_pos<|by unfold meet;simp];rfl
def Sn{i:Nat}(h:as[i]? = some (some<|.lf s<|.lst ds)):Yi (fV i) as=some (kids s ds,as):=by
 unfold Yi fV;rw[h];rfl
def vP{f}(h1:g d as=some as1)(h2:f as1=some (.nx as2))(h3:forL g f r as2=o):forL g f (d::r) as=o:=by
 show(g d as).bind _=_;rw[h1];show(f as1).bind _=_
 rwa [h2]
def Os{f}(h1:g d as=some as1)(h2:f as1=some (.rt o)):forL g f (d::r) as=some (.rt o):=by
 show(g d as).bind _=_;rw[h1];show(f as1).bind _=_;rw[h2];rfl
def Oc{i:Nat}{os}(h:as[i]? = some (some<|.nd .ls os))(hl:os.length<sizeLine)(ha:WD a as s x):yc (wQ i (dC a dN) vH) as=some (.nx<|as.set i<|some<|.nd .ls<|os++[.lf s x]):=by
 unfold yc wQ;rw[h];have e:=zE ha yG;rw[e];show(Option.bind (match as[i]? with|some (some<|.nd .ls os)=>_|_=>none) _)=_;rw[h];show((vH os _).bind _).bind _=_;have e2:vH os [.lf s x]=some _:=if_pos hl;rw[e2];rfl
def Es(h:f as=some (.ow o,as))(hg:g (o.str,o.toD) as=some as'):YI f g as=some (.nx as'):=by
 unfold YI;rw[h];show(g _ as).bind _=_;rw[hg];rfl
def VR{i:Nat}(h:as[i]? = some (some o))(hs:o.str=true):zy (fV i) as=some (.rt o):=by
 cases o with
 |lf a d=>unfold zy fV;rw[h];have:=hs;subst this;rfl
 |nd k b=>
  unfold zy;rw[Nh h];show(O4 as _).bind _=_;rw[JX h hs];rfl
def uM{os}(h:WO fr as os)(hl:os.length<=sizeLine)(ha:os.all O.isLf=true):WD (yf fr) as (O.strs os) (.tup<|O.toDs os):=by
 unfold WD yf;rw[h];show(if os.length<=sizeLine then some _ else _)=_;rw[if_pos hl];unfold Wy;rw[if_pos ha]
def sE(ha:a as=some (.ow oa,as1))(hb:b as1=some (.ow ob,as2))(hg:g oa.toD ob.toD=some (.fl zs)):f2 a b g as=some (.ow<|.nd .ls<|zs.map<|B4<|oa.str&&ob.str,as2):=by
 unfold f2;rw[ha];show((b as1).bind _)=_;rw[hb];show((g oa.toD ob.toD).bind _)=_;rw[hg];show(if _=true then _ else _:Option RV).bind _=_;rw[if_pos<|by unfold meet;simp];rfl
def Xq(ha:WD a as true x)(hb:WD b as true y)(hg:g x y=some (.im z)):WD (f2 a b g) as true z:=by
 have:=AK ha hb hg
 rwa [show(zB z||_)=true by simp]at this
def uw{i:Nat}{os}(h:as[i]? = some (some<|.nd .ls os))(hl:os.all O.isLf=true)(hs:O.strs os=true)(hb:WD b as true y)(hg:zx (.lst<|O.toDs os) y=some (.im z)):WD (f2 (fV i) b zx) as true z:=by
 have:=iI h hl hb hg
 rwa [hs,show(zB z||_)=true by simp]at this
def Lc:∀zs:List D,zs.map (B4 true)=zs.map (O.lf true)
 | []=>rfl
 |z::r=>⋯
def Ij(ha:a as=some (.ow oa,as1))(hb:b as1=some (.ow ob,as2))(hg:g oa.toD ob.toD=some (.fl zs))(h1:oa.str=true)(h2:ob.str=true):f2 a b g as=some (.ow<|.nd .ls<|zs.map<|O.lf true,as2):=by
 have:=sE ha hb hg
 rwa [h1,h2,show(true&&true)=true from rfl,Lc]at this
def ZA{os}(ha:a as=some (.ow o,as1))(hr:fr as1=some (os,as2)):dC a fr as=some (o::os,as2):=by
 unfold dC;rw[ha];show((fr as1).bind _)=_;rw[hr];rfl
def add_lists(h:xs.length+ys.length<=sizeLine):ZM .Add (.lst xs) (.lst ys)=some (.fl<|xs++ys):=if_pos h
def Gz(lo)(n:Nat):yR lo (n+1)=(true,.int lo)::yR (lo+1) n:=by
 unfold yR;rw[List.range_succ_eq_map,zyS,zyB]
 congr 1
 . simp
 . apply List.map_congr_left;intro i _;show(true,D.int _)=_
   congr 2
   omega
def Nl(ha:WA fr as rs)(hg:g (rs.map (·.2))=some (.im x))(e:rs.all (·.1)=true):WD (fP fr g) as true x:=by
 have:=Fm ha hg;rwa [e,zyD]at this
def Ie(ha:WD a as s y)(ht:Ic ty y=true)(hr:WA fr as rs)(hg:g y (rs.map (·.2))=some (.im x))(e:zB x=true):WD (Tz ty a fr g) as true x:=by
 unfold WD Tz;rw[ha];show(if Ic ty y=true then _ else _:Option _)=_;rw[if_pos ht,hr];simp only[zyL,XG];show((g y _).bind _)=_;rw[hg];show(if _=true then _ else _:Option RV).bind _=_;rw[if_pos<|by rw[e];rfl];show some (RV.ow<|.lf _ x,as)=_;rw[e];rfl
def IL(h:WD f as s x)(e:Q7 (s,x)=some ds):xX f as=some (ds,as):=by
 unfold xX;rw[h];show(Q7 (s,x)).bind _=_;rw[e];rfl
def QC{g fe as0 as1 y r os}(h1:g y as0=some as1)(h2:WD fe as1 true x)(h3:xv g yK fe as0 r=some os):xv g yK fe as0 (y::r)=some (.lf true x::os):=by
 show(g y as0).bind _=_;rw[h1];show(fe as1).bind _=_;rw[h2];rw[h3];rfl
def VW{fi cap g tt fe xs os}(h1:fi as=some (xs,as))(hl:xs.length<=sizeLine)(h2:xv g tt fe (Zv cap as) xs=some os):zX fi cap g tt fe as=some (.ow<|.nd .ls os,as):=by
 unfold zX;rw[h1];show(if xs.length<=sizeLine then _ else _)=_;rw[if_pos hl];rw[h2];rfl
end
def W6(h:Nat.ble n 1000=true):n<=sizeLine:=Nat.le_of_lt<|Qm<|Nat.le_of_ble_eq_true h
def zg(h:Nat.ble (a+1) b=true):a<b:=Nat.le_of_ble_eq_true h
def zG(h0 : -(10 ^ 200)<i)(h1:i<10 ^ 200):i.natAbs<big:=by
 have:10 ^ 200<big:=by decide +kernel
 have e:((10 ^ 200:Nat):Int)=10 ^ 200:=by norm_cast
 omega
def GC(K:zzA)(kd:KD)(mg:Str->Option Value)(x:Str)(d:D):Prop:=∃v u,mg x=some u/\RelV v u/\∀(O:Addr->Prop) (H:Hp),Rp K kd O H v d
section
variable{X:Cx}{kd:KD}{K:zzA}{mg:Str->Option Value}
def Di(h:GC X.K kd X.mg x d)(hg:Gl X x)(hd:(x==("__debug__":Str))=false):AE X kd (.Name x pos) (fC d):=by
 (
 obtain⟨v,u,h1,h2,h3⟩:=h;exact Rn (C7 hg h1 h2 hd) h3)
theorem GC.int(h:mg x=some (.int i t)):GC K kd mg x (.int i):=⟨.int i,_,h,⟨t,rfl⟩,λ_ _=>.int i⟩
def kQ(K:zzA)(g:Fn):Sp:=λvs H Q E=>∀kd:KD,Qc K kd g vs H Q E
end
def GQ(fa fb fc:EF)(g g':D->D->Option R0):EF:=λas=>(fa as).bind λp=>(fb p.2).bind λq=>(p.1.frz.view q.2).bind λx=>(q.1.frz.view q.2).bind λy=>(g x.1 y.1).bind λr=>match r with
 | .im (.bl true)=>(fc q.2).bind λt=>(q.1.frz.view t.2).bind λy'=>(t.1.frz.view t.2).bind λz=>(g' y'.1 z.1).bind λr'=>(wrap (meet y'.2 z.2) r').bind λo=>some (o,t.2)
 | .im (.bl false)=>some (.ow<|.lf true<|.bl false,q.2)
 |_=>none
section
variable{X:Cx}{kd:KD}{a b c:Expr}{fa fb fc:EF}{pos:Pos}
def Se(ho:sy X kd (compareOp op) g)(ho':sy X kd (compareOp op') g')(ha:AE X kd a fa)(hb:AE X kd b fb)(hc:AE X kd c fc)(hm:lastMarks [op,op'] [b,c]=false):
 AE X kd (.Compare a [op,op'] [b,c] pos) (GQ fa fb fc g g'):=by with_unfolding_all exact(yk (Oq ho ho' ha hb hc hm) λσ H Q h=>by
 obtain⟨F,B,ad,as,r,O,R,e,q⟩:=h;obtain⟨_,S,e⟩:=bS_<|e;obtain⟨_,T,e⟩:=bS_ e;obtain⟨⟨x,U⟩,V,e⟩:=bS_ e;obtain⟨⟨y,W⟩,Y,e⟩:=bS_ e;obtain⟨K,Z,e⟩:=bS_ e;refine wZ R S λv ad1 H1 R1 k L=>wZ R1 T λu l H2 R2 d m=>⟨_,x,y,K,R2.tr _,(xj.vw R2 (k.grow m) V).less Q1.meet1,(xj.vw R2 d Y).less Q1.meet2,Z, ?_⟩
 match K,e with
 | .im (.bl true),e=>
  obtain⟨⟨t,as3⟩,h6,e⟩:=bS_<|e;obtain⟨⟨y',n⟩,h7,e⟩:=bS_ e;obtain⟨⟨z',s⟩,h8,e⟩:=bS_ e;obtain⟨r1,h9,e⟩:=bS_ e;obtain⟨o,A,e⟩:=bS_ e;cases e;intro w M C D;cases D;obtain⟨E,f⟩:=R2.more C;refine⟨true,rfl, ?_⟩;refine wZ E h6 λw' G H4 i I N=>⟨_,y',z',r1,i.tr _,(xj.vw i ((d.grow f).grow N) h7).less Q1.meet1,(xj.vw i I h8).less Q1.meet2,h9, ?_⟩;exact ZT i A λw T' H' R' J g'=>q w T' G H' R' J<|(((L.trans m).trans f).trans N).trans g'
 | .im (.bl false),e=>
  cases e;intro w M C D;cases D;obtain⟨E,f⟩:=R2.more C;refine⟨false,rfl, ?_⟩;exact q _ [] l M E (.lf<|.bl _)<|(L.trans m).trans f)
end
inductive Ents(w:World):List DictEntry->List (Key×V)->Prop
 |nil:Ents w [] []
 |str {x:Str}{t:Tok}{v:V}{u:Value}{r:List DictEntry}{s:List (Key×V)}:RelV v u->Ents w r s->Ents w (⟨PyData.keyHash w.params x,.str x t,u⟩::r) ((.inr x,v)::s)
theorem Ents.keys:∀{es:List DictEntry}{kvs:List (Key×V)},Ents w es kvs->∀e ∈ es,∃k,(xR P w).is k e.key=true/\e.hash=(xR P w).hash k
 |_,_,.nil,_,m=>nomatch m
 |_,_,.str (x:=x) (t:=t) _ r,e,m=>by
  rcases zzC.mp m with rfl|m
  . exact⟨.inr x,X1 P w x t,rfl⟩
  . exact r.keys e m
theorem Ents.pairs:∀{es:List DictEntry}{kvs:List (Key×V)},Ents w es kvs->∃vs,KV kvs vs/\Pairs (xR P w) es vs/\vs.map (·.1)=kvs.map (·.1)
 |_,_,.nil=>⟨[],.nil,.nil,rfl⟩
 |_,_,.str (x:=x) (t:=t) (u:=u) h r=>by
  obtain⟨a,b,c,d⟩:=r.pairs;exact⟨(.inr x,u)::a,.cons ⟨rfl,h⟩ b,.cons (X1 P w x t) rfl c,by rw[zyS,zyS,d]⟩
structure DctAt(w:World)(K:zzA)(a:Addr)(kvs:List (Key×V)):Prop where
 ex:∃es ep,K.lookup a=some {cls:=.type "dict",data:=.dict es ep}/\Ents w es.toList kvs
 nd:(kvs.map (·.1)).Nodup
 le:kvs.length<=sizeLine
 ns:(a==sysModules)=false
noncomputable def kdL(l:List (Addr×List (Key×V)))(c:Str->Addr:=λ_=>0):KD:=⟨λa k=>l.lookup a=some k,c⟩
def lookup_mem{l:List (Addr×List (Key×V))}(h:l.lookup a=some k):(a,k) ∈ l:=by
 induction l with
 |nil=>cases h
 |cons p r b=>
  rw[List.lookup_cons]at h
  by_cases e:a=p.1
  . subst e;rw[beq_self_eq_true]at h;cases h;exact zzF
  . rw[show _=false from beq_eq_false_iff_ne.mpr e]at h;exact zzD _<|b h
def uO{K}(h:∀p ∈ l,DctAt w K p.1 p.2):sX P w K (kdL l c):=λX n o r=>by
 subst o;subst r;refine⟨λa k v b d=>zzZ<|b.symm.trans d,λa k b=>?_,λa k y b f=>?_⟩
 . obtain⟨g,i,e,_⟩:=(h _<|lookup_mem b).ex;exact⟨_,e⟩
 . have q:=h _<|lookup_mem b;obtain⟨g,i,e,j⟩:=q.ex;obtain⟨s,d,t,u⟩:=j.pairs;refine⟨q.le,q.ns,s,d,_,g,i,f _ _ e,⟨rfl,rfl,rfl⟩,rfl,λx m=>j.keys x (by simpa using m),t,by rw[u];exact q.nd⟩
noncomputable def isStar:Expr->Bool
 | .Starred .. => true
 |_=>false
def Gm(h:isStar a=false):starEach (a::es) env=(false,eval a env)::starEach es env:=by
 cases a<;>first|rfl|cases h
section
variable{as:AS}{f a b c:EF}{s t u:Bool}{x y z:D}{i j k:Int}
def tZ(h:WD f as s (.bl q)):WD (BN f) as true (.bl<|!q):=by
 unfold WD BN at *;rw[h];rfl
def BR(h1:g w as0=some as1)(h2:WT tt as1 false)(h3:xv g tt fe as0 r=o):xv g tt fe as0 (w::r)=o:=by
 show(g w as0).bind _=_;rw[h1];show(tt as1).bind _=_
 rwa [h2]
def WE(f:EF)(as:AS)(x:D):Prop:=∃o,f as=some (.ow o,as)/\o.str=true/\o.toD=x
def RE(r:Option O)(x:D):Prop:=∃o,r=some o/\o.str=true/\o.toD=x
def WD.e(h:WD f as true x):WE f as x:=⟨_,h,rfl,rfl⟩
def RE.of(h:r=some (.lf true x)):RE r x:=⟨_,h,rfl,rfl⟩
def xB{os}(h:WO fr as os)(hl:os.length<=sizeLine)(hs:O.strs os=true)(e:D.lst (O.toDs os)=x):WE (zZ fr) as x:=⟨_,YQ h hl,hs,e⟩
def yV(h:WE a as x)(hr:WA fr as rs):WA (aC a fr) as ((true,x)::rs):=by
 obtain⟨o,b,c,rfl⟩:=h;have:=SR b hr
 rwa [c]at this
def y8(ha:WE a as x)(hg:RE (g [(true,x)]) z):WE (zd (aC a aN) g) as z:=by
 obtain⟨o,b,c,d⟩:=hg;exact⟨o,vL (yV ha zo) (by show g [(zB x||true,x)]=_;rwa [zyD]),c,d⟩
def yM(ha:WE a as x)(hb:WE b as y)(hg:RE (g [(true,x),(true,y)]) z):WE (zd (aC a<|aC b aN) g) as z:=by
 obtain⟨o,c,d,e⟩:=hg;exact⟨o,vL (yV ha<|yV hb zo) (by show g [(zB x||true,x),(zB y||true,y)]=_;rwa [zyD,zyD]),d,e⟩
def zW(ha:WE a as x)(hb:WE b as y)(hc:WE c as w)(hg:RE (g [(true,x),(true,y),(true,w)]) z):WE (zd (aC a<|aC b<|aC c aN) g) as z:=by
 obtain⟨o,d,e,f⟩:=hg;exact⟨o,vL (yV ha<|yV hb<|yV hc zo) (by show g [(zB x||true,x),(zB y||true,y),(zB w||true,w)]=_;rwa [zyD,zyD,zyD]),e,f⟩
def O2(ha:WE a as x)(hg:g [(true,x)]=some (.lf s z)):WD (zd (aC a aN) g) as s z:=vL (yV ha zo) (by show g [(zB x||true,x)]=_;rwa [zyD])
def Mj(ha:WE a as x)(hb:WE b as y)(hg:g [(true,x),(true,y)]=some (.lf s z)):WD (zd (aC a<|aC b aN) g) as s z:=vL (yV ha<|yV hb zo) (by show g [(zB x||true,x),(zB y||true,y)]=_;rwa [zyD,zyD])
def HB(ha:WE a as x)(hb:WE b as y)(hc:WE c as w)(hg:g [(true,x),(true,y),(true,w)]=some (.lf s z)):WD (zd (aC a<|aC b<|aC c aN) g) as s z:=vL (yV ha<|yV hb<|yV hc zo) (by show g [(zB x||true,x),(zB y||true,y),(zB w||true,w)]=_;rwa [zyD,zyD,zyD])
def Fj(ha:WE a as x)(hb:WE b as y)(hg:g x y=some (.im z)):WD (f2 a b g) as true z:=by
 obtain⟨o,c,d,rfl⟩:=ha;obtain⟨p,e,f,rfl⟩:=hb;have:=om c e hg
 rwa [d,f,Bool.and_true,zyD]at this
def iJ(ha:WE a as x)(hb:WE b as y)(hg:g x y=some (.fl zs)):f2 a b g as=some (.ow<|.nd .ls<|zs.map<|O.lf true,as):=by
 obtain⟨o,c,d,rfl⟩:=ha;obtain⟨p,e,f,rfl⟩:=hb;exact Ij c e hg d f
theorem ZV:∀zs:List D,O.strs (zs.map<|O.lf true)=true
 | []=>rfl
 |_::r=>ZV r
theorem VN:∀zs:List D,O.toDs (zs.map<|O.lf true)=zs
 | []=>rfl
 |z::r=>congrArg _<|VN r
def SN(ha:WE a as x)(hb:WE b as y)(hg:g x y=some (.fl zs)):WE (f2 a b g) as (.lst zs):=⟨_,iJ ha hb hg,ZV zs,congrArg D.lst<|VN zs⟩
def y2(h:WE f as x)(hi:p<as.length):zm true p f as=some (.nx<|as.set p<|some<|.lf true x):=by
 obtain⟨o,a,b,rfl⟩:=h;have:=CG a hi
 rwa [show o.frz = .lf true o.toD by unfold O.frz;rw[b]]at this
def Hi(ha:WE a as x)(hb:WE b as y)(h:Yj 60 x y=some q):WD (f2 a b<|zw .Eq) as true (.bl q):=Fj ha hb (by show(Yj 60 x y).bind _=_;rw[h];rfl)
def M_(ha:WE a as x)(hb:WE b as y)(h:Yj 60 x y=some q):WD (f2 a b<|zw .NotEq) as true (.bl<|!q):=Fj ha hb (by show(Yj 60 x y).bind _=_;rw[h];rfl)
def K2(ha:WE a as x)(hg:g [x]=some (.im z)):WD (fP (aC a aN) g) as true z:=Nl (yV ha zo) hg rfl
def Hg{os}(ha:a as=some (.ow o,as))(hr:WO fr as os):WO (dC a fr) as (o::os):=ZA ha hr
def S_{os}(h:WO fr as os)(hl:os.length<=sizeLine):yf fr as=some (.ow<|Wy os,as):=by
 unfold yf;rw[h];show(if os.length<=sizeLine then some _ else _)=_;rw[if_pos hl]
def Fx{lo hi}(ha:WE a as y)(hl:fl as=some (lo,as))(hh:fh as=some (hi,as))(hg:g y lo hi=some (.fl zs)):WE (Xr a fl fh g) as (.lst zs):=by
 obtain⟨o,b,c,rfl⟩:=ha;refine⟨.nd .ls _, ?_,ZV zs,congrArg D.lst<|VN zs⟩;unfold Xr;rw[b];show((fl as).bind _)=_;rw[hl];show((fh as).bind _)=_;rw[hh];show((g o.toD lo hi).bind _)=_;rw[hg];show(if _=true then some (RV.ow<|.nd .ls<|zs.map<|B4<|(some o.str).getD false)else none:Option RV).bind _=_;rw[if_pos ⋯,c];show some (RV.ow<|.nd .ls<|zs.map<|B4 true,as)=_;rw[Lc]
def Ng:Wx (.lst<|xs++ys) (some (xs.length:Int)) none=some (.fl ys):=by
 show some _=_
 congr 2
 unfold cutD;rw[HT.YO,HT.PP,zzJ,Nat.min_eq_left ⋯,List.drop_left,List.take_of_length_le ⋯]
theorem Xs:∀ds:List D,kids true ds=ds.map λd=>(true,d)
 | []=>rfl
 |d::r=>by show(zB d||true,d)::kids true r=_;rw[Xs r,zyD];rfl
def rQ(h:WE f as (.lst ds)):xX f as=some (ds.map λd=>(true,d),as):=by
 obtain⟨o,a,b,c⟩:=h;unfold xX;rw[a];show(Q7 _).bind _=_;rw[b,c];show some _=_;rw[Xs]
def EK(h:WD f as true (.lst ds)):Yi f as=some (ds.map λd=>(true,d),as):=by
 unfold Yi;rw[h];show some (kids true ds,as)=_;rw[Xs]
end
section
variable{X:Cx}{kd:KD}
def mX:D->Option R0
 | .str x=>if x.length<=640 then(PySem.intText? x).bind λn=>some (.im<|.int n)else none
 |d=>lu d
def PC:List D->Option R0:=Du mX
def Eo:ZW X kd (.type "int") PC:=by
 intro c s σ H m e Q I r h;obtain⟨O,o,z,p,f,a,q⟩:=h;obtain⟨x,d,rfl,g,a⟩:=Qx f a;cases g with
 |str y=>
  obtain⟨j,a⟩:=ite_some' a;obtain⟨n,k,a⟩:=bS_ a;cases a;obtain⟨u,rfl,l⟩:=vals1 r;obtain⟨t,rfl⟩:=l;exact PySem.W.KIN.call_text k j ⟨.int _,H,I.tok _,⟨_,rfl⟩,z9 q<|.int _⟩
 |int i=>cases a;exact T6 c s σ H _ e Q I r (.inl ⟨_,rfl,z9 q<|.int _⟩)
 |bl b=>cases a;exact T6 c s σ H _ e Q I r (.inr ⟨_,rfl,z9 q<|.int _⟩)
 |_=>cases a
end
section
variable{X:Cx}{pins:List (Addr×Obj)}{σ:List (Option V)}{H:Hp}{s:Shared}{h':Heap}
def Vj{t':Nat}{ch:List Addr}(I:Inv X pins σ H s)(hf:∀b ∈ ch,Uw X pins H b)(k:∀b u,b ∉ ch->s.heap.get? b=some u->h'.get? b=some u)(hp:s.heap.objs.size<=T)
 (new:vM X.prog X.w (upd H T o) h' T o):Inv X pins σ (upd H T o) {s with heap:=h',toks:=t'}:=by
 have hn:=I.hok.fresh hp;have nT:∀b u,s.heap.get? b=some u->b≠T:=λb u e z=>absurd (zzK (zxG e)<|by rwa [z])<|Nat.lt_irrefl _;have nc:∀b u,H b=some u->b ∉ ch:=λb u e z=>by have:=(hf b z).1;rw[e]at this;cases this
 refine I.step (g':=s.gens) (d':=s.drawn) (λb hb=>?_) (λb o _ _ hc e _=>k b o hc e) (λb o _ _ hc e _=>⟨o.slots,k b o hc e⟩) (λb o _ e n=>by rwa [zJ<|nT b o e])
  (λb o hc e=>⟨o,k b o hc e⟩) (λb xs e=>by rwa [zJ<|zV e hn]) (λb o u e=>by rwa [zJ<|zV e hn]) (λb ps e=>⟨#[],by rw[zJ<|zV e hn,e];simp⟩) (λm hm=>?_) (λb u e=>?_) I.bare
 . obtain⟨f0,f1,f2,f3,f4,f5⟩:=hf b hb;exact⟨f3,f1,f4,f5⟩
 . obtain⟨o,es,ep,ho,r⟩:=hm;exact⟨o,es,ep,k _ o (λz=>(hf _ z).2.1 rfl) ho,r⟩
 . by_cases hb:b=T
   . subst hb;rw[yg]at e;cases e;exact new
   . rw[zJ hb]at e;refine(I.hok b u e).stay (λc v hc q=>k c v ?_ q) (λc q=>by rwa [zJ<|zV q hn]) λc xs q=>by rwa [zJ<|zV q hn]
     rcases hc with z|z
     . rw[z];exact nc b u e
     . exact nc c _ z
end
section
variable{as:AS}{f a b:EF}{s t:Bool}{x y z:D}
def uf(h:WE f as (.tup ds)):xX f as=some (ds.map λd=>(true,d),as):=by
 obtain⟨o,a,b,c⟩:=h;unfold xX;rw[a];show(Q7 _).bind _=_;rw[b,c];show some _=_;rw[Xs]
def S9:Wx (.lst<|xs++ys) none (some (xs.length:Int))=some (.fl xs):=by
 show some _=_
 congr 2
 unfold cutD;rw[HT.YO,HT.PP,zzJ,Nat.min_eq_left ⋯,List.drop_zero,Nat.sub_zero,List.take_left]
end
def Pz{t':Nat}{ch:List Addr}(I:Inv X pins σ H s)(hf:∀b ∈ ch,Uw X pins H b)(k:∀b u,b ∉ ch->s.heap.get? b=some u->h'.get? b=some u):Inv X pins σ H {s with heap:=h',toks:=t'}:=by
 have nc:∀b u,H b=some u->b ∉ ch:=λb u e z=>by have:=(hf b z).1;rw[e]at this;cases this
 refine I.step (g':=s.gens) (d':=s.drawn) (λb hb=>?_) (λb o _ _ hc e _=>k b o hc e) (λb o _ _ hc e _=>⟨o.slots,k b o hc e⟩) (λb o _ e n=>n)
  (λb o hc e=>⟨o,k b o hc e⟩) (λb xs e=>e) (λb o u e=>e) (λb ps e=>⟨#[],⋯⟩) (λm hm=>?_) (λb u e=>?_) I.bare
 . obtain⟨f0,f1,f2,f3,f4,f5⟩:=hf b hb;exact⟨f3,f1,f4,f5⟩
 . obtain⟨o,es,ep,ho,r⟩:=hm;exact⟨o,es,ep,k _ o (λz=>(hf _ z).2.1 rfl) ho,r⟩
 . refine(I.hok b u e).stay (λc v hc q=>k c v ?_ q) (λc q=>q) λc xs q=>q
   rcases hc with z|z
   . rw[z];exact nc b u e
   . exact nc c _ z
section
variable{X:Cx}{tg:Expr}
def Bp(I l1 l2:Nat)(h1:l1<I)(h2:l2<I):ZipApart (I+4) (I+2) (I+3) I (I+1) l1 l2:=by
 constructor<;>(show(_:Nat)≠_;omega)
end
section
variable{X:Cx}{kd:KD}{tg e:Expr}{fa:EF}
noncomputable def Qt(st:Bool):List D->List D->List xi
 |x::r,y::t=>(st,.tup [x,y])::Qt st r t
 |_,_=>[]
theorem V_(st):∀(xs ys:List D),(Qt st xs ys).length=min xs.length ys.length
 | [],_=>⋯
 |_::_,[]=>⋯
 |_::r,_::t=>by simp only[Qt,zzT,V_ st r t];omega
theorem Pa{st}:∀{xs ys:List D}{i:Nat}{y:xi},(Qt st xs ys)[i]? = some y->∃d e,xs[i]? = some d/\ys[i]? = some e/\y=(st,.tup [d,e])
 | [],_,_,_,h=>by simp[Qt]at h
 |_::_,[],_,_,h=>by simp[Qt]at h
 |x::r,y::t,0,z,h=>by
  cases h;exact⟨x,y,rfl,rfl,rfl⟩
 |x::r,y::t,i+1,z,h=>by
  simp only[Qt]at h;obtain⟨d,e,h1,h2,h3⟩:=Pa h;exact⟨d,e,⋯,⋯,h3⟩
end
def IV{K O}(h:RpL K kd O H vs ds)(hv:zQ vs us)(e:Xw ds=some ns):IntsAre us ns:=
 RpL.ind (P:=λvs ds=>∀us ns,zQ vs us->Xw ds=some ns->IntsAre us ns) (λus ns hv e=>by cases e;cases hv;exact .nil) (λ{v d vs ds} a _ ih us ns hv e=>by
  cases hv with
  |cons b t=>
   cases a with
   |int x=>
    obtain⟨ys,h1,h2⟩:=bS_<|e;cases h2;obtain⟨tk,rfl⟩:=b;exact .cons _ _ (ih _ _ t h1)
   |_=>cases e) h us ns hv e
def Ll(f:D->Option Bool):List D->Option Nat
 | []=>none
 |x::r=>(f x).bind λb=>if b=true then(anyF f r).bind λ_=>some 0 else(Ll f r).bind λj=>some<|j+1
def Mn(d:D):List D->Option R0:=Du λx=>(sr d).bind λds=>(Ll (λy=>Yj 50 y x) ds).bind λj=>if ds.length<=1000 then some (.im<|.int j)else none
theorem LS:∀{ds:List D}{j:Nat},Ll f ds=some j->∀d ∈ ds,∃c,f d=some c
 | [],_,h,_,m=>nomatch m
 |x::r,j,h,d,m=>by
  obtain⟨b,e,h⟩:=bS_<|h
  rcases zzC.mp m with rfl|m
  . exact⟨b,e⟩
  . cases b with
    |true=>
     obtain⟨c,a,_⟩:=bS_<|h;exact Yl a d m
    |false=>
     obtain⟨k,a,_⟩:=bS_<|h;exact LS a d m
section
variable{X:Cx}{kd:KD}{pins:List (Addr×Obj)}{σ:St}{H:Hp}{s:Shared}{O:Addr->Prop}
def JU(I:Inv X pins σ H s)(hk:KdOk X kd)(hv:zQ vs us)(h:RpL X.K kd O H vs ds)(e:Ll (λy=>Yj n y x) ds=some j):∃h:j<us.length,Ag X.K kd O H n x us[j]=true/\∀m (hm:m<us.length),m<j->Ag X.K kd O H n x us[m]=false:=
 RpL.ind (P:=λvs ds=>∀us j,zQ vs us->Ll _ ds=some j->∃h:j<us.length,Ag X.K kd O H n x us[j]=true/\∀m hm,m<j->Ag X.K kd O H n x us[m]=false) (λus j hv e=>by cases e) (λ{v d vs ds} a _ ih us j hv h=>by
  cases hv with
  |cons r t=>
   obtain⟨b,h1,h⟩:=bS_<|h;cases b with
   |true=>
    obtain⟨c,h2,h3⟩:=bS_<|h;cases h3;exact⟨⋯,KQ I hk r a h1,λm hm hlt=>⋯⟩
   |false=>
    obtain⟨k,h2,h3⟩:=bS_<|h;cases h3;obtain⟨hk',e1,e2⟩:=ih _ _ t h2;refine⟨by simpa using hk',⋯,λm hm hlt=>?_⟩;cases m with
    |zero=>exact KQ I hk r a h1
    |succ m=>simpa using e2 m _ ⋯) h us j hv e
def Sg(hk:KdOk X kd)(hu:X.A.units+100<cLine):jU X kd "list.index" Mn:=by
 intro k s σ H x Y v Z Q I C r h;obtain⟨O,d,ds,r0,ht,D,E,a,q⟩:=h;obtain⟨y',y,rfl,G,a⟩:=Qx E a;obtain⟨es,J,b⟩:=bS_<|a;cases Qs J
 . obtain⟨j,l,a⟩:=bS_ b;obtain⟨hz,a⟩:=zr a;cases a;obtain⟨u,rfl,L⟩:=vals1 r;cases D with
   |lst M c=>
    cases C;obtain⟨e,f,N,_⟩:=I.list M.sq;obtain⟨⟨cls,P,o,R⟩,p,t,n,z⟩:=N.isList;subst t z;obtain⟨S,T,U⟩:=JU I hk f c l;have B:=f.length;have g:=c.length;refine call_meets PySem.F.slot_list_index ⟨_,p,rfl⟩ PySem.F.entry_list_index ⋯
     (SeqAt.list_indexAt _ e.toArray n P R _ _ j ⋯ (by omega) ⋯ ⋯)
     ⟨p,λw W=>Vm I hk (by show X.A.units+1+50<cLine;exact q0d hu) G L f c (LS l) w (by simpa using W),⟨.int j,H,I.tok _,⟨_,rfl⟩,z9 q<|.int _⟩⟩
end
noncomputable def wj(n:Nat)(os:List O):AS:=os.map some++List.replicate (n-os.length) none
theorem Ft:∀(ls:List O) {vs:List V}{fp:List Addr},ls.all O.isLf=true->RoL L N H vs ls fp->fp=[]
 | [],_,_,_,r=>by cases r;rfl
 |o::ls,_,_,h,r=>by
  rw[List.all_cons,zyC]at h;cases r with
  |cons a r=>
   cases a with
   |lf _=>rw[Ft ls h.2 r];rfl
   |_=>exact absurd h.1 (by simp[O.isLf])
def Jh(h:RoL L N H vs ls fp):vs.length=ls.length:=RoL.length h
theorem Fw:∀(ls:List O) {vs:List V}{fp:List Addr}{i:Nat}{o:O},ls.all O.isLf=true->RoL L N H vs ls fp->ls[i]? = some o->∃v,vs[i]? = some v/\Ro L N H v o []
 | [],_,_,_,_,_,_,e=>by simp at e
 |d::ls,_,_,i,o,h,r,e=>by
  rw[List.all_cons,zyC]at h;cases r with
  |cons a r=>
   cases i with
   |zero=>
    simp at e;subst e;cases a with
    |lf z=>exact⟨_,rfl,.lf z⟩
    |_=>exact absurd h.1 (by simp[O.isLf])
   |succ i=>
    obtain⟨v,b,c⟩:=Fw ls h.2 r ⋯;exact⟨v,⋯,c⟩
def Ri{K}(ht:∀a,F a->H a≠none)(hn:T.Nodup)(hT:∀a ∈ T,H a≠none/\¬F a)(hl:ls.all O.isLf=true)(hN:(o::ls).length<=N.length)(ro:vB K kd F (λ_=>False) (· ∈ T) H vs (o::ls) T):
 Rel K kd F (λ_=>False) [] (λi=>if i=0 then T else[]) (wj N.length (o::ls)) (L2.start N vs) H:=by
 have b:=Jh ro;have n:∀a,Gw [] (λi=>if i=0 then T else[]) a ↔ a ∈ T:=λa=>⟨λz=>z.elim ⋯ λ⟨i,y⟩=>by
  by_cases e:i=0
  . subst e;simpa using y
  . simp[e]at y,λz=>.inr ⟨0,⋯⟩⟩
 have p:∀f a,Lv F (λ_=>False) _ f a->Lv F (λ_=>False) _ f a:=λf a z=>z.imp id (n a).mp;refine⟨by unfold wj L2.start;simp[b];omega,λi c=>?_,λi=>?_,λi j a x y=>?_,zyJ,(λ_ _ _ z=>nomatch z),ht,⋯,λa z=>hT a<|(n a).mp z,λi s e=>?_⟩
 . have:i≠0:=λz=>by subst z;unfold wj at c;simp at c
   simp[this]
 . by_cases e:i=0
   . subst e;simpa using hn
   . simp[e]
 . have g:i=0:=by
    by_cases e:i=0
    . exact e
    . simp[e]at x
   have h:j=0:=by
    by_cases e:j=0
    . exact e
    . simp[e]at y
   rw[g,h]
 . unfold wj at e;unfold L2.start
   by_cases c:i<(o::ls).length
   . rw[zyP (by rwa [zzB]),zzI]at e;obtain⟨d,k,l⟩:=zzX.mp e;subst l;rw[zyP<|by rwa [zzB,b]];cases ro with
     |cons a r=>
      rename_i v q A t;have u:=Ft ls hl r;subst u;cases i with
      |zero=>
       simp at k;subst k;exact⟨v,rfl,by simpa using wC.lv p a⟩
      |succ i=>
       obtain⟨w,g,h⟩:=Fw ls hl r ⋯;exact⟨w,by simp[g],by simpa using wC.lv p h⟩
   . rw[zyR<|by rw[zzB];exact q0G b c]at e;have:=zyA e;have l:=(List.mem_replicate.mp this).2;subst l;have m:i≠0:=λz=>by subst z;exact c ⋯
     show _=[];rw[if_neg m]
section
variable{K:zzA}{kd:KD}{F B G:Addr->Prop}{H:Hp}
theorem NQ{st}(h:L st v d):∀(os:List O) {vs:List V}{fp:List Addr},RoL L N H vs os fp->RoL L N H (vs++[v]) (os++[.lf st d]) fp
 | [],_,_,r=>by cases r;exact .cons (.lf h) .nil
 |o::b,_,_,r=>by
  cases r with
  |cons a r=>
   exact .cons a<|NQ h b r
end
def G5:typeLookup (.type "list") "keys"=pure none:=⋯
def Ez
 (hx:s.heap.get? a=some o) (hc:o.cls = .type "list") (hdat:o.data = .seq xs k) (hd:o.dict=none) (hA:A.handled=none)
 (h:∀h' tk,(∀b o,s.heap.get? b=some o->h'.get? b=some o)->Q none {s with heap:=h',toks:=tk}):
 wpAny (model prog w) A (getAttr? (.ref a) "keys") Q E s:=by
 obtain⟨c,dct,dat,sl⟩:=o;simp only at hc hdat hd;subst hc hdat hd;obtain⟨hp,g,d,tk,os⟩:=s;have hT:∀tk',(⟨hp,g,d,tk',os⟩:Shared).TypeIs (.ref a) "list":=λ_=>⟨_,hx,rfl⟩;have f1:=sub_AttributeError;have f3:=F.slot_list_getattribute.lookup;have f4:=F.slot_list_getattribute.bind<|.ref a;have f5:=am_list_getattr_none;unfold getAttr? getAttrBy? getAttrBy
 repeat (any_goals (first|assumption|exact hT _|((with_reducible show wpAny _ _ (call _ _ _) _ _ _);refine call_meets F.slot_list_getattribute (hT _) am_entry_list_getattribute (F.args_list_getattribute_2 _ _) (meets_getattribute_miss_list a xs k sl "keys" _ G5<|by decide +kernel) ⟨hx,hA,λh' tk' e hx'=>?_⟩)|wp_step))
 obtain⟨t',u',he⟩:=hx'.there;unfold getattributeRaised
 repeat (any_goals (first|assumption|wp_step))
 exact h _ _ hx'.keeps
def vA:plainId "dict.update.loop"=true:=by decide +kernel
def XZ:entryFor table "dict.update.loop"=some Builtin.«dict.update.loop» := ⋯
section
variable{prog:Program}{w:World}{κ:Type}[DecidableEq κ]{knd:KeyKind prog w κ}{A:Around}{R:Result->Shared->Prop}{d I l:Addr}{items:Array Value}{N:Nat}
noncomputable def putAll(kvs:List (κ×Value)):List (κ×Value)->List (κ×Value)
 | []=>kvs
 |p::r=>putAll (stored kvs p.1 p.2) r
def Ei(kvs)(k:κ)(v):(stored kvs k v).length<=kvs.length+1:=by
 unfold stored
 split
 . rw[zzB];exact q0U
 . rw[zzJ];exact zzN _
def Oy(hh:A.handled=none)(hdN:N<=d)(hIN:N<=I)(hdI:d≠I)(hlN:l<N):∀(rest:List (κ×Value)) (i:Nat) (s:Shared) (kvs:List (κ×Value)),s.heap.IsListIter I l i->s.heap.IsList l items->s.heap.DictOf knd d kvs->kvs.length+rest.length<=sizeLine->
 (∀j p,rest[j]? = some p->∃q key,items[i+j]? = some (.ref q)/\q<N/\IsTup s.heap q #[key,p.2]/\knd.is p.1 key=true)->items[i+rest.length]? = none->
 (∀h' tk,h'.DictOf knd d (putAll kvs rest)->(∀b o,b<N->s.heap.get? b=some o->h'.get? b=some o)->R (.ok<|.ret .none) {s with heap:=h',toks:=tk})->
 codeAny (model prog w) A (.builtin "dict.update.loop" ⟨[.ref d,.ref I,rawInt i,.none],[]⟩) R s:=by
 intro rest
 induction rest with
 |nil=>
  intro i s kvs hit hl hm hz hp he hR;refine codeAny_builtin XZ ?_;rw[Around.under_plainId vA _];refine zxD<|wpAny_pyNext_list_end hh hit hl he λh' hx=>?_;refine zxD<|zxE<|zxE ?_;obtain⟨o,es,ep,ho,r⟩:=hm;exact hR h' s.toks ⟨o,es,ep,hx d o hdI ho,r⟩ λb o hb e=>hx b o (zzQ<|zzK hb hIN) e
 |cons p rest ih=>
  intro i s kvs hit hl hm hz hp he hR;obtain⟨q,key,hq,hqN,ht,hkey⟩:=hp 0 p rfl;refine codeAny_builtin XZ ?_;rw[Around.under_plainId vA _];refine zxD<|wpAny_pyNext_list_item hit hl hq λh' hit' hs=>?_;have sm:∀b o,b≠I->s.heap.get? b=some o->h'.get? b=some o:=λb o hb e=>(hs.2 b hb).trans e;obtain⟨oq,hoq,hcq,nq,hdq⟩:=ht;have hoq':=sm q oq (zzQ<|zzK hqN hIN) hoq;have hm':h'.DictOf knd d kvs:=let⟨o,es,ep,ho,r⟩:=hm;⟨o,es,ep,sm d o hdI ho,r⟩;have hl':h'.IsList l items:=let⟨o,ho,r⟩:=hl;⟨o,sm l o (zzQ<|zzK hlN hIN) ho,r⟩;have hT:({s with heap:=h'}:Shared).TypeIs (.ref q) "tuple":=⟨oq,hoq',hcq⟩;refine zxD<|zxI<|zxD<|wpAny_tryCatch ?_;unfold Builtin.Dict.pairItems;refine zxD<|wpAny_typeOf hT ?_;rw[if_pos<|by decide];refine zxD<|wpAny_seqItems hoq' hdq<|zxE ?_;refine zxI<|wpAny_dictSet_pairs hkey hm' λh'' hm'' hs''=>?_;have sm2:∀b o,b≠d->h'.get? b=some o->h''.get? b=some o:=λb o hb e=>(hs''.2 b hb).trans e;refine zxE ⟨plainId_quiet vA _, ?_⟩;have hit'':h''.IsListIter I l (i+1):=let⟨o,ho,r⟩:=hit';⟨o,sm2 I o (Ne.symm hdI) ho,r⟩;have hl'':h''.IsList l items:=let⟨o,ho,r⟩:=hl';⟨o,sm2 l o (zzQ<|zzK hlN hdN) ho,r⟩;have keep:=λb o hb e=>sm2 b o (zzQ<|zzK hb hdN)<|sm b o (zzQ<|zzK hb hIN) e;have:=ih (i+1) {s with heap:=h'',toks:=s.toks+1} _ hit'' hl'' hm'' (by have:=Ei kvs p.1 p.2;simp only[zzT]at hz;omega)
   (λj p' hj=>by
    obtain⟨q',key',a1,a2,⟨o',a3,a4⟩,a5⟩:=hp (j+1) p' (by simpa using hj);exact⟨q',key',by rw[show i+1+j=i+(j+1) from q0k];exact a1,a2,⟨o',keep q' o' a2 a3,a4⟩,a5⟩)
   (by rw[show i+1+rest.length=i+(p::rest).length by simp only[zzT];exact q0k];exact he)
   (λh3 tk hm3 k3=>hR h3 tk hm3 λb o hb e=>k3 b o hb<|keep b o hb e)
  exact this
end
def Pr{κ:Type}[DecidableEq κ]{knd:KeyKind prog w κ}{n:Nat}{ps}(hh:A.handled=none)
 (ho:s.heap.get? l=some o) (hc:o.cls = .type "list") (hd:o.data = .seq items n) (hn:o.dict=none) (hsz:ps.length<=sizeLine)
 (hp:∀(j:Nat) (p:κ×Value),ps[j]? = some p->∃(q:Addr) (key:Value),items[j]? = some (Value.ref q)/\IsTup s.heap q #[key,p.2]/\knd.is p.1 key=true) (he:items[ps.length]? = none)
 (h:∀h' tk,h'.DictOf knd s.heap.objs.size (putAll [] ps)->(∀b o,s.heap.get? b=some o->h'.get? b=some o)->Q (.ref s.heap.objs.size) {s with heap:=h',toks:=tk}):wpAny (model prog w) A (call (.type "dict") [.ref l]) Q E s:=by
 refine callType_codes (Q₁:=λd z=>d = .ref s.heap.objs.size/\z={s with heap:=s.heap.push {cls:=.type "dict",data:=.dict #[]}}) F.kt_called_dict (F.kt_typeCall_dict_1 _) F.entry_dict_init (kt_code_dict_new _ ⟨rfl,rfl⟩) ?_
 rintro d z ⟨rfl,rfl⟩
 have a:(s.heap.push {cls:=.type "dict",data:=.dict #[]}).DictOf knd s.heap.objs.size []:=Heap.DictOf.new s.heap;have f:∀b o,s.heap.get? b=some o->(s.heap.push {cls:=.type "dict",data:=.dict #[]}).get? b=some o:=λb o e=>zxF _ e;have C:({s with heap:=s.heap.push {cls:=.type "dict",data:=.dict #[]}}:Shared).TypeIs (.ref l) "list":=⟨o,f l o ho,hc⟩;refine⟨a.typeIs,F.args_dict_init_2 _ _, ?_⟩;refine zxD ?_;refine zxD<|wpAny_notOrdered_dict a.typeIs ?_;refine zxE ?_;show wpAny _ _ (Builtin.Dict.updateFrom "dict.__init__" s.heap.objs.size _ [] .none) _ _ _;refine zxD<|wpAny_typeOf C ?_;refine zxD<|Ez (f l o ho) hc hd hn hh λg v i=>?_;refine zxD<|wpAny_rule ?_;have k:=i l o<|f l o ho;have x:g.IsList l items:=⟨o,k,hc,n,hd⟩;refine zxD<|wpAny_pyIter_list x ?_;have t:∀b o,g.get? b=some o->(g.push {cls:=.type "list_iterator",data:=.fields #[.ref l,.int 0 0]}).get? b=some o:=λb o e=>zxF _ e;have m:s.heap.objs.size<g.objs.size:=by
  obtain⟨u,_,_,c,_⟩:=a;exact zxG<|i _ _ c
 refine zxE ⟨plainId_quiet vA _, ?_⟩;refine Oy (A:=A.in1) (knd:=knd) hh (zzN _) (Nat.le_of_lt m) (zzQ m) (zxG ho) ps 0 {s with heap:=g.push {cls:=.type "list_iterator",data:=.fields #[.ref l,.int 0 0]},toks:=v} [] ⟨_,zxH _ rfl,rfl,rfl⟩ ⟨o,t l o k,hc,n,hd⟩ ?_ (by rw[List.length_nil];omega) (λj p D=>?_) (by rwa [zyX]) λG H I J=>?_
 . obtain⟨u,K,L,c,r⟩:=a;exact⟨u,K,L,t _ _<|i _ _ c,r⟩
 . obtain⟨q,y,M,⟨u,B,O⟩,P⟩:=hp j p D;exact⟨q,y,by rw[zyX];exact M,zxG B,⟨u,t _ _<|i _ _<|f _ _ B,O⟩,P⟩
 . exact⟨rfl,h G H I λb o e=>J b o (zxG e)<|t _ _<|i _ _<|f _ _ e⟩
def QO:List D->Option (List<|Key×D)
 | []=>some []
 |d::r=>(ku d).bind λl=>(DY l).bind λp=>(JL p.1).bind λk=>(QO r).bind λt=>some ((k,p.2)::t)
def mN:D->Option R0
 | .dct kvs=>some<|.fd kvs
 | .lst ds=>(QO ds).bind λkvs=>if(kvs.map (·.1)).Nodup then some (.fd kvs)else none
 |_=>none
def L7:List D->Option R0:=Du mN
theorem RN[DecidableEq κ]:∀(ps acc:List (κ×Value)),((acc++ps).map (·.1)).Nodup->putAll acc ps=acc++ps
 | [],a,_=>(zyE a).symm
 |p::r,a,h=>by
  have b:stored a p.1 p.2=a++[p]:=by
   unfold stored;rw[if_neg];rw[zyM]at h;obtain⟨_,_,c⟩:=zxC.mp h;intro z;obtain⟨q,m,e⟩:=List.any_eq_true.mp z;exact c q.1 (List.mem_map_of_mem m) p.1 (zzF ..)<|of_decide_eq_true e
  show putAll _ r=_;rw[b,RN r _ (by rwa [zxA]),zxA];rfl
section
variable{X:Cx}{kd:KD}{O:Addr->Prop}{pins:List (Addr×Obj)}{σ:St}{H:Hp}{s:Shared}
theorem Rh(I:Inv X pins σ H s):∀{vs:List V}{us:List Value}{ds:List D}{dk:List (Key×D)},RpL X.K kd O H vs ds->zQ vs us->QO ds=some dk->
 ∃(kvs:List (Key×V)) (ps:List (Key×Value)),KV kvs ps/\RpM X.K kd O H kvs dk/\ps.length=us.length/\ps.map (·.1)=dk.map (·.1)/\kvs.length=ps.length/\
  ∀(j:Nat) (p:Key×Value),ps[j]? = some p->∃(q:Addr) (key:Value),us[j]? = some (Value.ref q)/\IsTup s.heap q #[key,p.2]/\(xR X.prog X.w).is p.1 key=true
 |_,_,[],_,b,r,e=>by
  cases b;cases r;cases e;exact⟨[],[],.nil,.nil,rfl,rfl,rfl,λj p h=>by simp at h⟩
 |_,_,d::i,dk,b,r,e=>by
  cases b with
  |cons l b=>
   cases r with
   |cons m r=>
    obtain⟨l0,n,o⟩:=bS_<|e;obtain⟨_,x,y⟩:=bS_ o;cases Hw n;cases KU x
    . obtain⟨c,z,e⟩:=bS_ y;obtain⟨t,A,e⟩:=bS_ e;cases e;obtain⟨f,B,C,E,F,G,J,L⟩:=Rh I b r A;cases l.vw with
      | tup M N a=>
            rename_i q ws;cases a with
            |cons P a=>
             cases a with
             |cons Q a=>
              cases a;rename_i R g;have S:=OV P.vw z;subst S;obtain⟨T,U,W,_⟩:=I.tuple N;obtain⟨Y,Z,rfl,r1,r2⟩:=vals2 U;cases m;refine⟨_::f,(c,Z)::B,.cons ⟨rfl,r2⟩ C,.cons Q E,congrArg _ F,congrArg _ G,congrArg _ J,λj p h=>?_⟩;cases j with
              |zero=>
               simp at h;subst h;exact⟨q,Y,rfl,W,EV r1⟩
              |succ j=>simpa using L j p ⋯
def ME(hc:X.calm=true)(hk:KdOk X kd):ZW X kd (.type "dict") L7:=by
 intro c s σ H xs A Q I r h;obtain⟨O,ds,z,B,C,b,q⟩:=h;obtain⟨x,d,rfl,D,b⟩:=Qx C b;cases D with
 |dct e E=>exact BL hk c s σ H _ A Q I r ⟨O,[.dct _],z,B,.cons (.dct e E) .nil,b,q⟩
 |lst e F=>
  obtain⟨dk,G,b⟩:=bS_<|b;obtain⟨J,b⟩:=zr b;cases b;obtain⟨u,rfl,K⟩:=vals1 r;cases K;obtain⟨L,m,⟨o,n,M,f,g,i⟩,hz⟩:=I.list e.sq;obtain⟨k,t,N,P,R,S,a5,T⟩:=Rh I F m G;have v:=m.length;refine Pr (knd:=xR X.prog X.w) (ps:=t) (I.ok.hd hc) M f i g ⋯ (λj p U=>?_) (by rw[R];simp) λh' V y W=>?_
  . obtain⟨Y,l,Z,b2,b3⟩:=T j p U;exact⟨Y,l,by simpa using Z,b2,b3⟩
  . rw[RN t []<|by rwa [List.nil_append,S]]at y;exact⟨.ref _,_,I.laid (t':=V) W (zzN _)<|Oo ⋯ (beq_eq_false_iff_ne.mpr<|Ne.symm<|zzQ I.big) N y,rfl,S5 q P _<|I.hok.fresh<|zzN _⟩
 |_=>cases b
end
noncomputable def ID:List D->Option R0
 | [.int i,.int j]=>if 0<j/\j<1073741824 then some (.im<|.tup [.int<|i/j,.int<|i%j])else none
 |_=>none
def qB{α:Type}{P:List α->Prop}(h:∀a,P [a]):∀us:List α,us.length=1->P us
 | [a],_=>h a
def nE{α:Type}{P:List α->Prop}(h:∀a b,P [a,b]):∀us:List α,us.length=2->P us
 | [a,b],_=>h a b
def rB{α:Type}{P:List α->Prop}(h:∀a b c,P [a,b,c]):∀us:List α,us.length=3->P us
 | [a,b,c],_=>h a b c
def pG{α:Type}{P:List α->Prop}(h:∀a b c d,P [a,b,c,d]):∀us:List α,us.length=4->P us
 | [a,b,c,d],_=>h a b c d
def rM{α:Type}{P:List α->Prop}(h:∀a b c d e,P [a,b,c,d,e]):∀us:List α,us.length=5->P us
 | [a,b,c,d,e],_=>h a b c d e
section
variable{X:Cx}{kd:KD}
def FP:ZW X kd (.builtin "divmod") ID:=by
 intro a s σ H j c Q I r h;obtain⟨O,k,z,d,e,b,q⟩:=h;unfold ID at b
 split at b
 . obtain⟨f,rfl⟩:=zr b;obtain⟨x,y,rfl,g,i⟩:=E2 e;cases g;cases i;exact N1 a s σ H _ c Q I r ⟨_,_,rfl,f,Pj d q<|.cons (.int _)<|.cons (.int _) .nil⟩
 . cases b
def aI:AE X kd (.Constant (.int c) j pos) (fC<|.int c):=Rn um λ_ _=>.int _
def aS:AE X kd (.Constant (.str c) j pos) (fC<|.str c):=Rn D7 λ_ _=>.str _
def aZ:AE X kd (.Constant .none j pos) (fC .non):=Rn A9 λ_ _=>.non
def aB:AE X kd (.Constant (.bool c) j pos) (fC<|.bl c):=Rn oI λ_ _=>.bl _
def ax{K}(hkd:sX P w K kd)(ha:AE X kd a fa)(hb:AE X kd b fb)(h1:X.prog=P:=by rfl)(h2:X.w=w:=by rfl)(h3:X.K=K:=by rfl)(hm:KJ b:=by exact λ_ _=>rfl):AE X kd (.Subscript a b pos) (f2 fa fb zx):=rN (lY<|hkd _ h1 h2 h3) ha hb hm
def sv(z)(i:Nat)(hN:X.N.Nodup)(he:AE X kd e fa)(hi:X.N[i]? = some x:=by rfl)(hx:Loc X.env.scope x:=by first|exact Or.inl rfl|exact Or.inr rfl)(hs:swapsWith e (some<|.Name x pos') pos.line X.env=pure false:=by rfl)(hf:X.fn x=true\/X.env.scope.names.lookup x=some .local:=by first|exact Or.inl rfl|exact Or.inr rfl):
 Lw X kd (.Assign [.Name x pos'] e pos) (zm z i fa):=HF hN hi hx he hs hf
def an(i:Nat)(hN:X.N.Nodup)(hi:X.N[i]? = some x:=by rfl)(hx:Loc X.env.scope x:=by first|exact Or.inl rfl|exact Or.inr rfl)(hf:X.fn x=true\/X.env.scope.names.lookup x=some .local:=by first|exact Or.inl rfl|exact Or.inr rfl):AG X kd (.Name x pos) [i] (gN i):=FJ hN hi hx hf
def av(i:Nat)(hN:X.N[i]? = some x:=by rfl)(hv:n3 X.env.scope x:=by first|exact Or.inl rfl|exact Or.inr (Or.inl rfl)|exact Or.inr (Or.inr rfl))(hd:(x==("__debug__":Str))=false:=by decide)
 (hcd:(x==("__classdict__":Str))=false:=by decide):AE X kd (.Name x pos) (fV i):=D1<|OC hN hv hd hcd
end
noncomputable def N4{α:Type}:List Str->List α->Str->Option α
 | [],_,_=>none
 |_,[],_=>none
 |n::ns,a::as,f=>if f=n then some a else N4 ns as f
theorem ZD(f):∀(ns:List Str) (vs:List V),(ns.zip vs).lookup f=N4 ns vs f
 | [],_=>rfl
 |_::_,[]=>rfl
 |n::a,v::b=>by
  show List.lookup f (_::a.zip b)=if f=n then some v else N4 a b f
  rw[List.lookup_cons]
  by_cases h:f=n
  . rw[if_pos h,beq_iff_eq.mpr h]
  . rw[if_neg h,beq_eq_false_iff_ne.mpr h];exact ZD f a b
theorem Sd{K O}:∀{ns:List Str}{vs:List V}{ds:List D},RpL K kd O H vs ds->N4 ns ds f=some d->∃v,N4 ns vs f=some v/\Rp K kd O H v d
 | [],_,_,_,e=>by cases e
 |_::_,_,_,.nil,e=>by cases e
 |n::a,_,_,.cons (v:=v) (d:=b) (vs:=c) (ds:=g) h r,e=>by
  have e:(if f=n then some b else N4 a g f)=some d:=e;show ∃w,(if f=n then some v else N4 a c f)=some w/\_
  by_cases q:f=n
  . rw[if_pos q]at e ⊢;cases e;exact⟨v,rfl,h⟩
  . rw[if_neg q]at e ⊢;exact Sd r e
theorem VZ:∀{ns:List Str}{vs:List α},f ∉ ns->N4 ns vs f=none
 | [],_,_=>rfl
 |_::_,[],_=>rfl
 |n::a,v::b,h=>by
  show(if f=n then some v else N4 a b f)=_;rw[if_neg λe=>h<|by rw[e];exact zzF];exact VZ λm=>h<|zzD _ m
theorem RC:∀{ns:List Str}{vs:List V},ns.length=vs.length->f ∉ ns->Wc f v (ns.zip vs)=(ns++[f]).zip (vs++[v])
 | [],[],_,_=>rfl
 | [],_::_,h,_=>by cases h
 |_::_,[],h,_=>by cases h
 |n::a,w::b,h,c=>by
  show(if n=f then _::a.zip b else _::Wc f v (a.zip b))=_::(a++_).zip (b++_);rw[if_neg λe=>c (by rw[e];exact zzF),RC (Nat.succ.inj h) λm=>c<|zzD _ m]
def zU(cs:List Str)(f:Str):D->Option R0
 | .ob c ns ds=>if c ∈ cs then(N4 ns ds f).bind λd=>some (.im d)else none
 |_=>none
def CF(K:zzA)(kd:KD)(cs:List Str)(f:Str):Prop:=∀c ∈ cs,Cls K (kd.c c)/\yC K (kd.c c) f
section
variable{X:Cx}{kd:KD}{a e o:Expr}{es:List Expr}{fa fo fe:EF}{fr:AF}{pos pos' apos:Pos}{m f:Str}{cs:List Str}
def ui(hc:CF X.K kd cs f)(ha:AE X kd a fa)(hb:attributeBase a f X.env (eval a X.env)=eval a X.env):AE X kd (.Attribute a f pos) (f1 fa<|zU cs f):=by
 with_unfolding_all exact(yk (G_ ha hb) λσ H Q h=>by
  obtain⟨F,B,P,as,r,m,R,e,q⟩:=h;obtain⟨_,o,e⟩:=bS_<|e;obtain⟨⟨x,S⟩,s,e⟩:=bS_ e;obtain⟨z,b,e⟩:=bS_ e;obtain⟨y,t,e⟩:=bS_ e;cases e;refine wZ R o λv c u k g A=>?_;have C:=xj.vw k g s;have D:=ZT k t λw E G I i J=>q w E c G I i<|A.trans J;cases C with
  |ob L T M=>
   obtain⟨l,b⟩:=ite_some' b;obtain⟨d,N,b⟩:=bS_ b;cases b;obtain⟨w,O,j⟩:=Sd M N;exact⟨_,_,_,_,w,rfl,L,(hc _ l).1,(hc _ l).2,(ZD _ _ _).trans O,D w u (λ_ _ z=>z) j⟩
  |_=>cases b)
def Jb(X:Cx)(m:Str)(ta:TE)(t:TA):TE:=λσ H Q=>ta σ H λx H1=>∃a C dx fs k f fd ps sp,x = .ref a/\H1 a=some (.ins C dx fs)/\Cls X.K C/\Meth X.K C m f/\fs.lookup m=none/\
 FnOk X.prog X.w X.K X.mg X.base ZP k f fd ps sp/\Room k X.A/\Binds X.K fd ps []/\t σ H1 λvs H2=>sp (x::vs) H2 Q λ_ _ _=>False
def N_(he:PE X o ta)(hx:vV ZP X λ_ _ _=>False)(ha:PA X (e::es) t)
 (hst:starEach (e::es) X.env=(false,eval e X.env)::starEach es X.env) (hpl:(backTo pos<|starEach es X.env).any (·.1)=false)
 (ht:eval (.Call (.Attribute o m apos) (e::es) [] pos) X.env=(do
  let ov <-eval o X.env
  standAt apos.atName
  let(f,first) <-holding [ov] (getMethod ov m pl)
  callWith pos f first (backTo pos<|starEach (e::es) X.env) (backToKw pos<|keywordEach [] X.env))):
 PE X (.Call (.Attribute o m apos) (e::es) [] pos) (Jb X m ta t):=by
 intro b s σ H Q I h;refine W.methodCall_KW (wA (he b s σ H _ I h) λu j hq0=>?_) ht;obtain⟨x,n,d,p,a,C,E,G,k,f,fd,J,K,v,w,c,g,l,F,y,z,q⟩:=hq0;subst v;obtain rfl:u=Value.ref a:=p;refine Mr d w c g l ?_;refine W.callWith_K I.ok.mod.kin g.kp (wA (ha pos b j σ n _ d q) λA L ⟨B,M,i,r,D⟩=>⟨i.kIn, ?_⟩) hst hpl;refine HA (vs:=.ref a::B) F y z .nil hx i (.cons rfl r) ?_
 rwa [zyE]
end
noncomputable def ES:List (Str×Fn)->Str->Option Fn
 | [],_=>none
 |p::r,c=>if c=p.1 then some p.2 else ES r c
def MT(P:Program)(w:World)(K:zzA)(mg:Str->Option Value)(base:Heap)(kd:KD)(m:Str)(k:Nat)(tbl:List (Str×Fn)):Prop:=
 ∀c g,ES tbl c=some g->∃k' f fd ps,k'<=k/\Cls K (kd.c c)/\Meth K (kd.c c) m f/\FnOk P w K mg base ZP k' f fd ps (Qc K kd g)/\Binds K fd ps []
section
variable{P:Program}{w:World}{K:zzA}{mg:Str->Option Value}{base:Heap}{kd:KD}{m:Str}{k:Nat}{tbl:List (Str×Fn)}
def Yd:MT P w K mg base kd m k []:=λc g h=>by cases h
def IK(hk:k'<=k)(cl:Cls K (kd.c c))(me:Meth K (kd.c c) m f)(F:FnOk P w K mg base ZP k' f fd ps (Qc K kd g))(b:Binds K fd ps [])(h:MT P w K mg base kd m k tbl):MT P w K mg base kd m k ((c,g)::tbl):=λc' g' e=>by
 have e:(if c'=c then some g else ES tbl c')=some g':=e
 by_cases q:c'=c
 . rw[if_pos q]at e;cases e;subst q;exact⟨k',f,fd,ps,hk,cl,me,F,b⟩
 . rw[if_neg q]at e;exact h c' g' e
end
noncomputable def jE(m:Str):D->Option Str
 | .ob c ns _=>if m ∈ ns then none else some c
 |_=>none
def Z1(tbl:List (Str×Fn))(m:Str)(fo:EF)(fr:AF):EF:=λas=>(fo as).bind λp=>(p.1.frz.view p.2).bind λw=>(jE m w.1).bind λc=>(ES tbl c).bind λg=>(fr p.2).bind λq=>(Z7 q.2 (p.1.frz::q.1)).bind λx=>(g x).bind λo=>some (.ow o,q.2)
section
variable{X:Cx}{kd:KD}{a e o:Expr}{es:List Expr}{fa fo fe:EF}{fr:AF}{pos pos' apos:Pos}{m f:Str}{cs:List Str}{tbl:List (Str×Fn)}{k:Nat}
def pO(hT:MT X.prog X.w X.K X.mg X.base kd m k tbl)(hr:Room k X.A)(ht:∀σ H Q,Iq X.K kd fr σ H Q->t σ H Q)(h:al X.K kd (Z1 tbl m fo fr) σ H Q):Jb X m (al X.K kd fo) t σ H Q:=by
 obtain⟨F,B,ad,as,r,E,R,e,q⟩:=h;obtain⟨⟨p,i⟩,G,e⟩:=bS_<|e;obtain⟨⟨w,lv⟩,I,e⟩:=bS_ e;obtain⟨c,a,e⟩:=bS_ e;obtain⟨g,J,e⟩:=bS_ e;obtain⟨⟨L,j⟩,M,e⟩:=bS_ e;obtain⟨N,O,e⟩:=bS_ e;obtain⟨o,P,e⟩:=bS_ e;cases e;refine wZ R G λv l H1 z d S=>?_;have T:=xj.vw z d I;cases T with
 | @ob a' dx U C V W Y hl rl=>
  have a:(if m ∈ C then none else some U)=some c:=a
  by_cases n:m ∈ C
  . rw[if_pos n]at a;cases a
  . rw[if_neg n]at a;cases a;obtain⟨Z,f,fd,ps,s,cl,me,F1,b⟩:=hT _ _ J;refine⟨_,_,_,_,Z,f,fd,ps,_,rfl,Y,cl,me,(ZD _ _ _).trans<|VZ n,F1,hr.mono s,b,ht _ _ _ ⟨F,B,l,i,L,j,z,M,λvs u H2 R2 x D=>?_⟩⟩;exact⟨_,N,o,R2.trk true,U3 R2 (.cons (d.grow D) x) O,P,Eb R2 λw T' H' R' y g'=>q w T' u H' R' y<|(S.trans D).trans g'⟩
 |_=>cases a
def uz(hT:MT X.prog X.w X.K X.mg X.base kd m k tbl)(hr:Room k X.A)(hx:vV ZP X λ_ _ _=>False)(ho:AE X kd o fo)(ha:AA X kd (e::es) fr)
 (hst:starEach (e::es) X.env=(false,eval e X.env)::starEach es X.env) (hpl:(backTo pos<|starEach es X.env).any (·.1)=false)
 (ht:eval (.Call (.Attribute o m apos) (e::es) [] pos) X.env=(do
  let ov <-eval o X.env
  standAt apos.atName
  let(f,first) <-holding [ov] (getMethod ov m pl)
  callWith pos f first (backTo pos<|starEach (e::es) X.env) (backToKw pos<|keywordEach [] X.env))):
 AE X kd (.Call (.Attribute o m apos) (e::es) [] pos) (Z1 tbl m fo fr):=by
 with_unfolding_all exact(yk (N_ ho hx ha hst hpl ht) λσ H Q h=>pO hT hr (λ_ _ _ z=>z) h)
end
abbrev Bc:=AS->Option AS
def bf(K:zzA)(kd:KD)(f:Bc):TS:=λD σ H=>∃F B ad as as',Rel K kd F B [] ad as σ H/\f as=some as'/\∀ad' H',Rel K kd F B [] ad' as' σ H'->Grow (Gw [] ad) H (Gw [] ad') H'->D.nx σ H'
@[irreducible] def oJ(X:Cx)(kd:KD)(st:List Stmt)(f:Bc):Prop:=Kt X st<|bf X.K kd f
@[irreducible] def sO(X:Cx)(kd:KD)(st:Stmt)(f:Bc):Prop:=PS X st<|bf X.K kd f
def Xn(i:Nat)(cs:List Str)(f:Str)(fe:EF):Bc:=λas=>(fe as).bind λp=>(W3 p.2 p.1).bind λx=>match x.2[i]? with
 |some (some (.nd (.ob c ns) os))=>if c ∈ cs/\f ∉ ns/\ns.length<1000 then some (x.2.set i<|some<|.nd (.ob c<|ns++[f])<|os++[.lf x.1.1 x.1.2])else none
 |_=>none
noncomputable def J5(fe:EF):Bc:=λas=>(fe as).bind λp=>some p.2
noncomputable def Za(f g:Bc):Bc:=λas=>(f as).bind g
section
variable{X:Cx}{kd:KD}{e o:Expr}{st:Stmt}{rest:List Stmt}{fe:EF}{f g:Bc}{pos pos':Pos}{cs:List Str}{n:Str}
def Jw(he:AE X kd e fe)(hs:swapsWith e none pos.line X.env=pure false):sO X kd (.Expr e pos) (J5 fe):=by
 with_unfolding_all exact(xy (V5 he hs) λD σ H h=>by
  obtain⟨F,B,c,as,o,R,e,q⟩:=h;obtain⟨⟨p,a⟩,d,e⟩:=bS_<|e;cases e;exact⟨F,B,c,as,p,a,R,d,λv j b f i k g=>q b f i.drop<|g.trans<|Grow.less Gw.drop⟩)
def xC(hc:CF X.K kd cs n)(ho:PE X o (W5 j))(he:AE X kd e fe)(hs:swapsWith e (some<|.Attribute o n pos') pos.line X.env=pure false):sO X kd (.Assign [.Attribute o n pos'] e pos) (Xn j cs n fe):=by
 with_unfolding_all exact(xy (Oz ho he hs) λD σ H h=>by
  obtain⟨F,B,P,as,o,R,e,q⟩:=h;obtain⟨⟨p,t⟩,Q,e⟩:=bS_<|e;obtain⟨⟨⟨A,d⟩,w⟩,S,e⟩:=bS_ e;cases f:w[j]? with
  |none=>rw[f]at e;cases e
  |some T=>
   rw[f]at e
   match T,e,f with
   |some (.nd (.ob c E) G),e,f=>
    obtain⟨⟨I,U,V⟩,e⟩:=zr e;cases e;refine⟨F,B,P,as,p,t,R,Q,λv T1 W J Y x Z=>?_⟩;obtain⟨b,R2,rp,le⟩:=Yh Y x S;obtain⟨v0,g,i⟩:=R2.sl j _ f;refine⟨v0,g, ?_⟩;generalize k:b j=fp1 at i;cases i with
    |ob hC L s rl=>
     rename_i l M C O fp;have ec:=hC.cl_eq;subst ec;have r:=R2.nd j;rw[k]at r;have y : vB X.K kd F B (Gw [] b) J (O++[v]) (G++[.lf A d]) fp:=by
            have:=rl.append<|RoL.one<|Ro.lf rp
            rwa [zyE]at this
     refine⟨l,_,M,_,rfl,L,(hc _ I).1,(hc _ I).2,by rw[List.length_zip,s,Nat.min_self,<-s];exact V, ?_⟩;rw[RC s U];obtain⟨R4,g4⟩:=R2.mut (n:=.nd (.ob c<|E++[n]) _) (zzG.mp f).1 k g (fp':=fp) (λa m=>m) (by rw[zyE];exact(zzW.mp r).2) (by rw[L];simp) λH' G' z gr kp=>.ob (.cl c) z (by rw[zzJ,zzJ,s];rfl)<|vB.grow gr kp y;exact q _ _ R4<|(Z.trans<|Grow.less le).trans g4)
def CH(h:sO X kd st f):oJ X kd [st] f:=by
 with_unfolding_all exact(Vn h)
def SO(h1:sO X kd st f)(h2:oJ X kd rest g):oJ X kd (st::rest) (Za f g):=by
 with_unfolding_all exact(Zq (ZK h1 h2) λD σ H h=>by
  obtain⟨F,B,d,as,o,R,e,q⟩:=h;obtain⟨c,i,e⟩:=bS_<|e;exact⟨F,B,d,as,c,R,i,λa n j k=>⟨F,B,a,c,o,j,e,λb l R2 m=>q b l R2<|k.trans m⟩⟩)
end
noncomputable def mG(c:Str):O:=.nd (.ob c []) []
noncomputable def M0(x:Bool×D):O:=.lf x.1 x.2
noncomputable def slot0:AS->Option O
 |some o::_=>if o.str=true then some o else none
 |_=>none
def sJ(c:Str)(n m:Nat)(f:Bc)(ds:List (Bool×D)):Option O:=if ds.length+1=m then(f<|wj n (mG c::ds.map M0)).bind slot0 else none
def sA(K:zzA)(kd:KD)(c:Str)(g:Fn):Sp:=λvs H Q _=>∃F x dx vs' ds o,vs = .ref x::vs'/\H x=some (.ins (kd.c c) dx [])/\(∀a,F a->H a≠none)/\¬F x/\RpI K kd F (λ_=>False) (· = x) H vs' ds/\g ds=some o/\
 ∀T H',T.Nodup->(∀a ∈ T,a=x\/H a=none)->(∀b u,H b=some u->b≠x->H' b=some u)->(∀a ∈ T,H' a≠none)->Ro (λ_ v d=>Rp K kd (XE F (· ∈ T)) H' v d) (λa=>¬XE F (· ∈ T) a) H' (.ref x) o T->Q .non H'
def OJ{K}(h:RpI K kd F B G H vs ds):vB K kd F B G H vs (ds.map M0) []:=by
 induction h with
 |nil=>exact .nil
 |cons a _ b=>exact RoL.cons (Ro.lf a) b
def FK(ds:List (Bool×D)):(ds.map M0).all O.isLf=true:=by
 induction ds with
 |nil=>rfl
 |cons x r a=>exact a
section
variable{P:Program}{w:World}{K:zzA}{mg:Str->Option Value}{base:Heap}
def MR{st}{k:Nat}(Fn:Fun K x qual st f fd)(S:FnScope N ps (zH st))(hps:ps.length<=N.length)
 (hb:∀(cdv:Value) (A:Around) (outer:List Env) (s:Shared) (H:Hp) (E:XK),Room k (A.deeper<|envOfC qual (zH st) s.heap.objs.size f cdv)->oJ (QL ZP P w K mg base N qual (zH st) f cdv A outer s H E).nox kd (wH st) b):
 FnOk P w K mg base ZP (k+1) f fd ps (sA K kd c<|sJ c N.length ps.length b):=by
 with_unfolding_all (
 refine Fn.ok S (λvs H Q E h=>?_) λcdv A outer s H vs Q E hr h=>⟨_,hb cdv A outer s H E hr, ?_⟩
 . obtain⟨F,x,dx,vs',ds,o,rfl,_,_,_,rp,e,_⟩:=h;obtain⟨hl,_⟩:=ite_some'<|e;rw[zzT,rp.length,hl]
 . obtain⟨F,x,dx,vs',ds,o,rfl,hx,ht,hF,rp,e,q⟩:=h;obtain⟨hl,e⟩:=ite_some'<|e;obtain⟨as',e1,e2⟩:=bS_ e;have ro:vB K kd F (λ_=>False) (· ∈ [x]) H (V.ref x::vs') (mG c::ds.map M0) [x]:=by
    have e0:(λa=>a ∈ [x])=(λa=>a=x):=⋯;rw[e0];exact RoL.cons (Ro.ob (.cl c) hx rfl .nil)<|OJ rp
   have R0:=Ri (N:=N) ht ⋯ (λa m=>by rw[zzR.mp m,hx];exact⟨⋯,hF⟩) (FK ds) (by rw[zzT,zzB];exact q1C hl hps) ro;have gw:∀a,Gw [] (λi=>if i=0 then[x]else[]) a->a=x:=λa z=>z.elim ⋯ λ⟨i,y⟩=>by
    by_cases e:i=0
    . subst e;simpa using y
    . simp[e]at y
   refine⟨F,λ_=>False,_,_,as',R0,e1,λad' H' R' g'=>?_⟩
   match as',e2,R' with
   |some o'::r,e2,R'=>
    obtain⟨hs,e2⟩:=zr<|e2;subst e2;obtain⟨v,hv,ro'⟩:=R'.sl 0 _ rfl;have hv0:(L2.start N (V.ref x::vs'))[0]? = some _:=rfl;cases hv;have rt:=K6 R' (R'.nd 0) (λa m=>.inr ⟨0,m⟩) ro' hs;exact q _ H' rt.nd (λa m=>(g'.own a<|.inr ⟨0,m⟩).imp (gw a) id) (λb u h hb=>g'.keep b u h λz=>hb<|gw b z) rt.tr rt.ro)
end
section
variable{X:Cx}{kd:KD}{e:Expr}{es:List Expr}{fr:AF}{pos p:Pos}{g:Fn}
def DK(h:al X.K kd (zd fr g) σ H Q):Ab (kd.c c) (sA X.K kd c g) [] E (Iq X.K kd fr) σ H Q:=by
 obtain⟨F,B,G,as,r,I,R,e,q⟩:=h;obtain⟨⟨p,J⟩,L,e⟩:=bS_<|e;obtain⟨M,A,e⟩:=bS_ e;obtain⟨o,C,e⟩:=bS_ e;cases e;refine⟨F,B,G,as,p,_,R,L,λN d f n i O x j l s P=>?_⟩;rw[zyE];have k:∀b u,f b=some u->upd (upd f j<|.own x) x (.ins (kd.c c) j []) b=some u:=λb u h=>by rwa [zJ<|zV h l,zJ<|zV h s]
 have D:∀b,upd _ x _ b=none->f b=none:=λb h=>by
  cases e:f b with
  |none=>rfl
  |some u=>rw[k b u e]at h;cases h
 refine⟨Lv F B _ true,x,j,N,M,o,rfl,yg,λa z y=>n.trk true a z<|D a y,λz=>n.trk true x z l, ?_,C,λT t S U V Y Z=>⟨rfl, ?_⟩⟩
 . have ra:=U3 n i A;clear e C A i
   induction ra with
   |nil=>exact .nil
   |cons h _ ih=>
    refine .cons ?_ ih;exact Rp.grow (W:=λ_=>False) (W':=_) ⟨λb u h _=>k b u h,λb e=>.inr<|by rwa [e]⟩<|h.less λa z=>z.elim ⋯ λy=>y.elim
 . exact Eb n (λw T' t R' v g'=>q w T' d t R' v<|O.trans g') _ T t S (λa m=>(U a m).elim (λe=>by rwa [e])<|D a) (λb u h=>V b u (k b u h)<|zV h l) Y Z
def I_(hC:kd.c c=C)(M:Mk X.K C f)(F:FnOk X.prog X.w X.K X.mg X.base ZP k f fdt ps (sA X.K kd c g))(hr:Room (k+1) X.A)(hg:Gl X x)(hm:X.mg x=some (.ref C))(hb:Binds X.K fdt ps [])(hx:vV ZP X λ_ _ _=>False)
 (ha:AA X kd (e::es) fr) (hdb:(x==("__debug__":Str))=false) (he:starEach (e::es) X.env=(false,eval e X.env)::starEach es X.env) (hpl:(backTo pos<|starEach es X.env).any (·.1)=false):
 AE X kd (.Call (.Name x p) (e::es) [] pos) (zd fr g):=by
 subst hC
 with_unfolding_all exact(yk (II M F hr hg hm hb .nil hx ha hdb he hpl) λσ H Q h=>DK h)
end
noncomputable def P2(mg:Str->Option Value):Str->Addr:=λx=>match mg x with
 |some (.ref a)=>a
 |_=>0
def KP(h:mg x=some (.ref a)):P2 mg x=a:=by
 unfold P2;rw[h]
structure CI(K:zzA)(kd:KD)(mg:Str->Option Value)(c:Str)(C:Addr):Prop where
 eq:kd.c c=C
 cl:Cls K C
 mks:W.makesIn K C=true
 kp:W.keepIn K (.ref C)=true
 mg:mg c=some (.ref C)
section
variable{P:Program}{w:World}{K:zzA}{mg:Str->Option Value}{base:Heap}{kd:KD}{m f:Str}{k:Nat}{tbl:List (Str×Fn)}{cs:List Str}{c:Str}{C:Addr}
def DE{k':Nat}{f}(ci:CI K kd mg c C)(me:Meth K C m f)(F:FnOk P w K mg base ZP k' f fd ps (Qc K kd g))(hk:k'<=k)(b:Binds K fd ps [])(h:MT P w K mg base kd m k tbl):MT P w K mg base kd m k ((c,g)::tbl):=by
 have e:=ci.eq;subst e;exact IK hk ci.cl me F b h
def wO:CF K kd [] f:=λc h=>nomatch h
def x_(ci:CI K kd mg c C)(n:yC K C f)(h:CF K kd cs f):CF K kd (c::cs) f:=λb a=>by
 have e:=ci.eq;subst e
 rcases zzC.mp a with rfl|a
 . exact⟨ci.cl,n⟩
 . exact h b a
def CI.mk'{f}(ci:CI K kd mg c C)(me:Meth K C "__init__" f):Mk K C f:=⟨ci.mks,me.at_,me.fn,ci.kp⟩
end
def V1{prog w A E s it l}{i:Nat}{items x Q}(hit:s.heap.IsTupleIter it l i)(hl:s.heap.IsTuple l items)(hx:items[i]? = some x)
 (h:∀h':Heap,h'.IsTupleIter it l (i+1)->Heap.SameBut it s.heap h'->Q x {s with heap:=h'}):wpAny (model prog w) A (Builtin.SmallTypes.nextOf<|.ref it) Q E s:=by
 obtain⟨o,ho,hc,hd⟩:=id hit;obtain⟨ol,hol,hcl,nl,hdl⟩:=hl;refine zxD<|wpAny_callSpecial?_slot hit.typeIs F.slot_tuple_iterator_next<|zxL F.slot_tuple_iterator_next hit.typeIs F.entry_tuple_iterator_next ?_;unfold Builtin.«tuple_iterator.__next__»
 wp_walk using wpAny_field ho hd rfl,wpAny_seqItems hol hdl
 rw[hdl]
 wp_walk
 rw[zyI,hx];refine zxD<|wpAny_setField ho hd (by simp) ?_;refine zxE ⟨x,rfl,zxE<|h _ ⟨_,Heap.get?_update_self _ ho<|Obj.isFreed_of_fields<|Obj.data_mapFields hd _,(Obj.cls_mapFields o _).trans hc,(Obj.data_mapFields hd _).trans<|by simp[rawInt]⟩<|Heap.SameBut.update _ _ _⟩
def Qn{prog w A E s it l}{i:Nat}{items Q}(hh:A.handled=none)(hit:s.heap.IsTupleIter it l i)(hl:s.heap.IsTuple l items)(hx:items[i]? = none)
 (h:∀(h':Heap) (e:Addr),Heap.ExtBut it s.heap h'->(∃o,h'.get? e=some o/\o.cls = .type "StopIteration")->E (.ref e) {s with heap:=h'}):wpAny (model prog w) A (Builtin.SmallTypes.nextOf<|.ref it) Q E s:=by
 obtain⟨o,ho,hc,hd⟩:=id hit;obtain⟨ol,hol,hcl,nl,hdl⟩:=hl;refine zxD<|wpAny_callSpecial?_slot hit.typeIs F.slot_tuple_iterator_next<|zxL F.slot_tuple_iterator_next hit.typeIs F.entry_tuple_iterator_next ?_;unfold Builtin.«tuple_iterator.__next__»
 wp_walk using wpAny_field ho hd rfl,wpAny_seqItems hol hdl
 rw[hdl]
 wp_walk
 rw[zyI,hx];refine zxD (wpAny_rule<|zxD<|wpAny_setField ho hd (by simp) ?_)
 wp_walk
 refine wpAny_raiseNew_none hh<|h _ _ (((Heap.SameBut.update _ _ _).extBut.push _).push _) ⟨_,zxH _ rfl,rfl⟩
def Xc(b:Bool)(h:Heap)(it l:Addr)(k:Nat):Prop:=if b=true then h.IsTupleIter it l k else h.IsListIter it l k
def UX(b:Bool)(h:Heap)(l:Addr)(xs:Array Value):Prop:=if b=true then h.IsTuple l xs else h.IsList l xs
def wW{prog w A E s it l}{i:Nat}{items x Q}:∀{b:Bool},Xc b s.heap it l i->UX b s.heap l items->items[i]? = some x->
 (∀h':Heap,Xc b h' it l (i+1)->Heap.SameBut it s.heap h'->Q x {s with heap:=h'})->wpAny (model prog w) A (Builtin.SmallTypes.nextOf<|.ref it) Q E s
 |true,h1,h2,h3,h4=>V1 h1 h2 h3 h4
 |false,h1,h2,h3,h4=>wpAny_nextOf_list_item h1 h2 h3 h4
def YB{prog w A E s it l}{i:Nat}{items Q}(hh:A.handled=none):∀{b:Bool},Xc b s.heap it l i->UX b s.heap l items->items[i]? = none->
 (∀(h':Heap) (e:Addr),Heap.ExtBut it s.heap h'->(∃o,h'.get? e=some o/\o.cls = .type "StopIteration")->E (.ref e) {s with heap:=h'})->wpAny (model prog w) A (Builtin.SmallTypes.nextOf<|.ref it) Q E s
 |true,h1,h2,h3,h4=>Qn hh h1 h2 h3 h4
 |false,h1,h2,h3,h4=>wpAny_nextOf_list_end hh h1 h2 h3 h4
def Xc.ext{a h h' it l}{k:Nat}:∀{b:Bool},Xc b h it l k->Heap.ExtBut a h h'->it≠a->Xc b h' it l k
 |true,x,e,n=>Heap.IsTupleIter.extBut x e n
 |false,x,e,n=>Heap.IsListIter.extBut x e n
def UX.ext{a h h' l xs}:∀{b:Bool},UX b h l xs->Heap.ExtBut a h h'->l≠a->UX b h' l xs
 |true,x,e,n=>Heap.IsTuple.extBut x e n
 |false,x,e,n=>Heap.IsList.extBut x e n
def Xc.at{h h' it l}{k:Nat}(k':∀o,h.get? it=some o->h'.get? it=some o):∀{b:Bool},Xc b h it l k->Xc b h' it l k
 |true,⟨o,e,c⟩=>⟨o,k' o e,c⟩
 |false,⟨o,e,c⟩=>⟨o,k' o e,c⟩
theorem Xc.push{h it l}{k:Nat}{o b}(x:Xc b h it l k):Xc b (h.push o) it l k:=x.at λ_ e=>zxF _ e
def Tb{M A E s a Q}(h:Q (s.heap.get? a) s):wpAny M A (loadIfAlive a) Q E s:=λΓ p hΓ=>⋯
def Lr(h:Heap)(z TI TO:Addr)(f0:Value)(f1:Bool):Prop:=h.get? z=some {cls:=.type "zip",data:=.fields #[f0,.bool f1,.bool false,.ref TI,.ref TO]}
def Zf(f0:Value):Prop:=f0 = .none\/∃n:Int,f0=rawInt n
def Fs{prog w A E s z TI TO f0 f1 Q}(hz:Lr s.heap z TI TO f0 f1)(hf:Zf f0)(h1:Q true s)(h2:∀h' f1',Lr h' z TI TO f0 f1'->Heap.SameBut z s.heap h'->Q false {s with heap:=h'}):
 wpAny (model prog w) A (Builtin.SmallTypes.ownedTupleIsFree<|.ref z) Q E s:=by
 rcases hf with rfl|⟨n,rfl⟩
 . exact zxD<|wpAny_field hz rfl rfl<|zxE h1
 . refine zxD<|wpAny_field hz rfl rfl ?_;refine zxD<|Tb ?_;cases e:s.heap.get? n.toNat with
   |none=>exact zxE h1
   |some o=>
    refine zxD<|wpAny_field hz rfl rfl ?_;cases f1 with
    |true=>exact zxE (h2 s.heap true hz<|Heap.SameBut.refl _ _)
    |false=>exact zxD (wpAny_setField_rec hz ⋯ λh' hz' hs=>zxE<|h2 h' true hz' hs)
def Hh{b1 b2 prog w A E s z TI TO i1 i2 l1 l2}{k1 k2:Nat}{xs ys}{x y a b f0:Value}{f1:Bool}{Q:Value->Shared->Prop}(D:ZipApart z TI TO i1 i2 l1 l2)
 (hz:Lr s.heap z TI TO f0 f1) (hf:Zf f0) (hTI:IsPair s.heap TI (.ref i1) (.ref i2)) (hTO:IsPair s.heap TO a b) (h1:Xc b1 s.heap i1 l1 k1) (h2:Xc b2 s.heap i2 l2 k2) (q1:UX b1 s.heap l1 xs) (q2:UX b2 s.heap l2 ys) (hx:xs[k1]? = some x) (hy:ys[k2]? = some y)
 (h:∀(h':Heap) (g0:Value) (g1:Bool),Lr h' z TI TO g0 g1->Zf g0->(∃p q,IsPair h' TO p q)->Xc b1 h' i1 l1 (k1+1)->Xc b2 h' i2 l2 (k2+1)->IsPair h' s.heap.objs.size x y->(∀c o,c≠z->c≠TO->c≠i1->c≠i2->s.heap.get? c=some o->h'.get? c=some o)->Q (.ref s.heap.objs.size) {s with heap:=h'}):
 wpAny (model prog w) A (Builtin.«zip.__next__» {pos:=[.ref z]}) (λfin s'=>∃v,fin=Fin.done (Flow.ret v)/\Q v s') E s:=by
 change wpAny (model prog w) A (bind (field (.ref z) 2) _) _ E s;refine zxD<|wpAny_field hz rfl rfl ?_;refine zxD<|wpAny_field hz rfl rfl<|zxD<|wpAny_seqItems hTI rfl ?_;refine zxD<|Fs hz hf ?_ λh₁ g1 z1 hs₁=>?_
 . rw[if_pos rfl];refine zxD<|wpAny_rule<|zxD<|wpAny_field hz rfl rfl ?_;refine zxD<|wpAny_setField_rec hz (by simp) λh₁ hz₁ hs₁=>?_;refine zxD ?_;rw[show(#[Value.ref i1,Value.ref i2].toList.zipIdx)=[(Value.ref i1,0),(Value.ref i2,1)]from rfl,List.forIn_cons];have x1:=h1.ext hs₁.extBut D.i1z;have y1:=q1.ext hs₁.extBut D.l1z;refine zxD<|zxD<|wpAny_onRaise ?_;refine zxD<|wW x1 y1 hx λh₂ x2 hs₂=>zxE ?_;have t2:IsPair h₂ TO a b:=hs₂.extBut TO _ D.TOi1<|hs₁.extBut TO _ D.TOz hTO;refine zxD<|wpAny_seqItems t2 rfl<|zxD<|wpAny_updateSeq_pair t2 λh₃ t3 hs₃=>?_;refine zxD<|wpAny_letGo<|zxE ?_;have x3:=((h2.ext hs₁.extBut D.i2z).ext hs₂.extBut D.i12.symm).ext hs₃.extBut D.TOi2.symm;have y3:=((q2.ext hs₁.extBut D.l2z).ext hs₂.extBut D.l2i1).ext hs₃.extBut D.l2TO;change wpAny (model prog w) A (forIn [(Value.ref i2,1)] _ _) _ E _;rw[List.forIn_cons];refine zxD<|zxD<|wpAny_onRaise ?_;refine zxD<|wW x3 y3 hy λh₄ x4 hs₄=>zxE ?_;have t4:IsPair h₄ TO x b:=hs₄.extBut TO _ D.TOi2 t3;refine zxD<|wpAny_seqItems t4 rfl<|zxD<|wpAny_updateSeq_pair t4 λh₅ t5 hs₅=>?_;refine zxD<|wpAny_letGo<|zxE ?_;change wpAny (model prog w) A (forIn [] _ _) _ E _;rw[List.forIn_nil];refine zxE ?_;have t5:IsPair h₅ TO x y:=t5;refine zxD<|wpAny_seqItems t5 rfl<|zxD<|wpAny_newTuple ?_;have e5:h₅.objs.size=s.heap.objs.size:=hs₅.1.trans<|hs₄.1.trans<|hs₃.1.trans<|hs₂.1.trans hs₁.1;have z1:Lr h₁ z TI TO .ellipsis f1:=hz₁;have z5:Lr h₅ z TI TO .ellipsis f1:=hs₅.extBut z _ D.TOz.symm<|hs₄.extBut z _ D.i2z.symm<|hs₃.extBut z _ D.TOz.symm<|hs₂.extBut z _ D.i1z.symm z1;refine zxD ?_;refine zxD<|wpAny_setField_rec (zxF _ z5) (by simp) λh₇ z7 hs₇=>?_;refine wpAny_setField_rec z7 (by simp) λh₆ z6 hs₆'=>zxE ⟨_,rfl, ?_⟩;have hs₆:=hs₇.trans hs₆';have lt:=λc o q n=>hs₆.extBut c o n<|zxF _ q;have nz:h₅.objs.size≠z:=λe=>by
    have:=zxG z5;rw[<-e]at this;exact Nat.lt_irrefl _ this
   rw[e5];refine h h₆ (rawInt (h₅.objs.size:Int)) false z6 (.inr ⟨_,rfl⟩) ⟨_,_,lt TO _ t5 D.TOz⟩ ?_ ?_ ?_ λc o c1 c2 c3 c4 q=>?_
   . have:=((x2.ext hs₃.extBut D.TOi1.symm).ext hs₄.extBut D.i12).ext hs₅.extBut D.TOi1.symm;exact(Xc.push this).ext hs₆.extBut D.i1z
   . exact(Xc.push<|x4.ext hs₅.extBut D.TOi2.symm).ext hs₆.extBut D.i2z
   . rw[<-e5];exact hs₆.extBut _ _ nz<|zxH _ rfl
   . exact lt c o (hs₅.extBut c o c2<|hs₄.extBut c o c4<|hs₃.extBut c o c2<|hs₂.extBut c o c3<|hs₁.extBut c o c1 q) c1
 . rw[if_neg<|by simp];change wpAny (model prog w) A (bind (forIn #[Value.ref i1,Value.ref i2] _ _) _) _ E _;rw[<-Array.forIn_toList,List.forIn_cons];have x1:=h1.ext hs₁.extBut D.i1z;have y1:=q1.ext hs₁.extBut D.l1z;refine zxD<|zxD<|zxD<|zxI ?_;refine zxD<|wW x1 y1 hx λh₂ x2 hs₂=>zxE<|zxE ?_;change wpAny (model prog w) A (forIn [Value.ref i2] _ _) _ E _;rw[List.forIn_cons];have x3:=(h2.ext hs₁.extBut D.i2z).ext hs₂.extBut D.i12.symm;have y3:=(q2.ext hs₁.extBut D.l2z).ext hs₂.extBut D.l2i1;refine zxD<|zxD<|zxI ?_;refine zxD<|wW x3 y3 hy λh₄ x4 hs₄=>zxE<|zxE ?_;change wpAny (model prog w) A (forIn [] _ _) _ E _;rw[List.forIn_nil];refine zxE<|zxD<|wpAny_newTuple ?_ (show 2<=sizeLine by decide);refine zxE ⟨_,rfl, ?_⟩;have e4:h₄.objs.size=s.heap.objs.size:=hs₄.1.trans<|hs₂.1.trans hs₁.1;have z4:Lr h₄ z TI TO f0 g1:=hs₄.extBut z _ D.i2z.symm<|hs₂.extBut z _ D.i1z.symm z1;have t4:IsPair h₄ TO a b:=hs₄.extBut TO _ D.TOi2<|hs₂.extBut TO _ D.TOi1<|hs₁.extBut TO _ D.TOz hTO;rw[e4];refine h _ f0 g1 (zxF _ z4) hf ⟨_,_,zxF _ t4⟩ (Xc.push<|x2.ext hs₄.extBut D.i12) (Xc.push x4) ?_ λc o c1 c2 c3 c4 q=>zxF _<|hs₄.extBut c o c4<|hs₂.extBut c o c3<|hs₁.extBut c o c1 q;rw[<-e4];exact zxH _ rfl
def JQ{b1 b2 prog w A E s z TI TO i1 i2 l1 l2}{k1 k2:Nat}{xs ys a b f0 f1 Q}(hh:A.handled=none)(D:ZipApart z TI TO i1 i2 l1 l2)
 (hz:Lr s.heap z TI TO f0 f1) (hf:Zf f0) (hTI:IsPair s.heap TI (.ref i1) (.ref i2)) (hTO:IsPair s.heap TO a b) (h1:Xc b1 s.heap i1 l1 k1) (h2:Xc b2 s.heap i2 l2 k2) (q1:UX b1 s.heap l1 xs) (q2:UX b2 s.heap l2 ys) (hx:xs[k1]? = none\/ys[k2]? = none)
 (h:∀(h':Heap) (e:Addr),(∀c o,c≠z->c≠TO->c≠i1->c≠i2->s.heap.get? c=some o->h'.get? c=some o)->(∃o,h'.get? e=some o/\o.cls = .type "StopIteration")->E (.ref e) {s with heap:=h'}):
 wpAny (model prog w) A (Builtin.«zip.__next__» {pos:=[.ref z]}) Q E s:=by
 have fin:∀(h':Heap) (e:Addr),(∃f g,Lr h' z TI TO f g)->(∀c o,c≠z->c≠TO->c≠i1->c≠i2->s.heap.get? c=some o->h'.get? c=some o)->(∃o,h'.get? e=some o/\o.cls = .type "StopIteration")->
  wpAny (model prog w) A (setField (.ref z) 0 Value.none) (λ_ s''=>E (.ref e) s'') E {s with heap:=h'}:=λh' e ⟨f,g,hf⟩ kk ⟨o,ho,hc⟩=>by
  refine wpAny_setField_rec (s:={s with heap:=h'}) hf (by simp) λh'' z'' hs=>?_;have ne:e≠z:=λe'=>by
   subst e';have:=(hf).symm.trans ho;cases this;exact absurd (show Value.type "zip"=Value.type "StopIteration" from hc) (by decide)
  exact h h'' e (λc o c1 c2 c3 c4 q=>hs.extBut c o c1<|kk c o c1 c2 c3 c4 q) ⟨o,hs.extBut e o ne ho,hc⟩
 change wpAny (model prog w) A (bind (field (.ref z) 2) _) _ E s;refine zxD<|wpAny_field hz rfl rfl ?_;refine zxD<|wpAny_field hz rfl rfl<|zxD<|wpAny_seqItems hTI rfl ?_;refine zxD<|Fs hz hf ?_ λh₁ g1 z1 hs₁=>?_
 . rw[if_pos rfl];refine zxD<|wpAny_rule<|zxD<|wpAny_field hz rfl rfl ?_;refine zxD<|wpAny_setField_rec hz (by simp) λh₁ hz₁ hs₁=>?_;refine zxD ?_;rw[show(#[Value.ref i1,Value.ref i2].toList.zipIdx)=[(Value.ref i1,0),(Value.ref i2,1)]from rfl,List.forIn_cons];have z1:=hz₁;have x1:=h1.ext hs₁.extBut D.i1z;have y1:=q1.ext hs₁.extBut D.l1z;refine zxD<|zxD<|wpAny_onRaise ?_;cases e1:xs[k1]? with
   |none=>exact zxD (YB hh x1 y1 e1 λh' e ex ho=>fin h' e ⟨_,_,ex z _ D.i1z.symm z1⟩ (λc o c1 c2 c3 c4 q=>ex c o c3<|hs₁.extBut c o c1 q) ho)
   |some x=>
    have hy:ys[k2]? = none:=hx.resolve_left (by rw[e1];simp);refine zxD<|wW x1 y1 e1 λh₂ x2 hs₂=>zxE ?_;have t2:=hs₂.extBut TO _ D.TOi1<|hs₁.extBut TO _ D.TOz hTO;refine zxD<|wpAny_seqItems t2 rfl<|zxD<|wpAny_updateSeq_pair t2 λh₃ t3 hs₃=>?_;refine zxD<|wpAny_letGo<|zxE ?_;have x3:=((h2.ext hs₁.extBut D.i2z).ext hs₂.extBut D.i12.symm).ext hs₃.extBut D.TOi2.symm;have y3:=((q2.ext hs₁.extBut D.l2z).ext hs₂.extBut D.l2i1).ext hs₃.extBut D.l2TO;change wpAny (model prog w) A (forIn [(Value.ref i2,1)] _ _) _ E _;rw[List.forIn_cons];refine zxD<|zxD<|wpAny_onRaise ?_;exact zxD<|YB hh x3 y3 hy λh' e ex ho=>fin h' e ⟨_,_,ex z _ D.i2z.symm<|hs₃.extBut z _ D.TOz.symm<|hs₂.extBut z _ D.i1z.symm z1⟩
     (λc o c1 c2 c3 c4 q=>ex c o c4<|hs₃.extBut c o c2<|hs₂.extBut c o c3<|hs₁.extBut c o c1 q) ho
 . rw[if_neg<|by simp];change wpAny (model prog w) A (bind (forIn #[Value.ref i1,Value.ref i2] _ _) _) _ E _;rw[<-Array.forIn_toList,List.forIn_cons];have x1:=h1.ext hs₁.extBut D.i1z;have y1:=q1.ext hs₁.extBut D.l1z;refine zxD<|zxD<|zxD<|zxI ?_;cases e1:xs[k1]? with
   |none=>exact zxD (YB hh x1 y1 e1 λh' e ex ho=>h h' e (λc o c1 c2 c3 c4 q=>ex c o c3<|hs₁.extBut c o c1 q) ho)
   |some x=>
    have hy:ys[k2]? = none:=hx.resolve_left (by rw[e1];simp);refine zxD<|wW x1 y1 e1 λh₂ x2 hs₂=>zxE<|zxE ?_;change wpAny (model prog w) A (forIn [Value.ref i2] _ _) _ E _;rw[List.forIn_cons];have x3:=(h2.ext hs₁.extBut D.i2z).ext hs₂.extBut D.i12.symm;have y3:=(q2.ext hs₁.extBut D.l2z).ext hs₂.extBut D.l2i1;refine zxD<|zxD<|zxI ?_;exact zxD<|YB hh x3 y3 hy λh' e ex ho=>h h' e (λc o c1 c2 c3 c4 q=>ex c o c4<|hs₂.extBut c o c3<|hs₁.extBut c o c1 q) ho
def Nz{b1 b2 prog w A E s z TI TO i1 i2 l1 l2}{k1 k2:Nat}{xs ys x y a b f0 f1 Q}(D:ZipApart z TI TO i1 i2 l1 l2)
 (hz:Lr s.heap z TI TO f0 f1) (hf:Zf f0) (hTI:IsPair s.heap TI (.ref i1) (.ref i2)) (hTO:IsPair s.heap TO a b) (h1:Xc b1 s.heap i1 l1 k1) (h2:Xc b2 s.heap i2 l2 k2) (q1:UX b1 s.heap l1 xs) (q2:UX b2 s.heap l2 ys) (hx:xs[k1]? = some x) (hy:ys[k2]? = some y)
 (h:∀(h':Heap) (g0:Value) (g1:Bool),Lr h' z TI TO g0 g1->Zf g0->(∃p q,IsPair h' TO p q)->Xc b1 h' i1 l1 (k1+1)->Xc b2 h' i2 l2 (k2+1)->IsPair h' s.heap.objs.size x y->(∀c o,c≠z->c≠TO->c≠i1->c≠i2->s.heap.get? c=some o->h'.get? c=some o)->Q (some<|.ref s.heap.objs.size) {s with heap:=h'}):
 wpAny (model prog w) A (pyNext<|.ref z) Q E s:=by
 have hT:s.TypeIs (.ref z) "zip":=⟨_,hz,rfl⟩;exact zxD<|wpAny_attempt<|wpAny_callSpecial?_slot hT F.slot_zip_next<|zxL F.slot_zip_next hT F.entry_zip_next (Hh D hz hf hTI hTO h1 h2 q1 q2 hx hy λh' g0 g1 a1 a2 a3 a4 a5 a6 a7=>zxE<|h h' g0 g1 a1 a2 a3 a4 a5 a6 a7)<|F.args_zip_next_1 _
def NV{b1 b2 prog w A E s z TI TO i1 i2 l1 l2}{k1 k2:Nat}{xs ys a b f0 f1 Q}(hh:A.handled=none)(D:ZipApart z TI TO i1 i2 l1 l2)
 (hz:Lr s.heap z TI TO f0 f1) (hf:Zf f0) (hTI:IsPair s.heap TI (.ref i1) (.ref i2)) (hTO:IsPair s.heap TO a b) (h1:Xc b1 s.heap i1 l1 k1) (h2:Xc b2 s.heap i2 l2 k2) (q1:UX b1 s.heap l1 xs) (q2:UX b2 s.heap l2 ys) (hx:xs[k1]? = none\/ys[k2]? = none)
 (h:∀h':Heap,(∀c o,c≠z->c≠TO->c≠i1->c≠i2->s.heap.get? c=some o->h'.get? c=some o)->Q none {s with heap:=h'}):wpAny (model prog w) A (pyNext<|.ref z) Q E s:=by
 have hT:s.TypeIs (.ref z) "zip":=⟨_,hz,rfl⟩;exact zxD<|wpAny_attempt<|wpAny_callSpecial?_slot hT F.slot_zip_next<|zxL F.slot_zip_next hT F.entry_zip_next (JQ hh D hz hf hTI hTO h1 h2 q1 q2 hx λh' e hk _=>zxD<|wpAny_isInstance ⋯ isSubtype_stop (zxE<|h h' hk))<|F.args_zip_next_1 _
def FX{prog w A E s z TI TO T f0 f1 Q}(tg)(hz:Lr s.heap z TI TO f0 f1)(hf:Zf f0)
 (h:∀(h':Heap) (g0:Value),Lr h' z TI TO g0 f1->Zf g0->Heap.SameBut z s.heap h'->Q () {s with heap:=h'}):wpAny (model prog w) A (letOwnedTupleGo tg (.ref z)<|.ref T) Q E s:=by
 have no:wpAny (model prog w) A _ Q E s:=zxE<|h s.heap f0 hz hf<|Heap.SameBut.refl _ _;have go:wpAny (model prog w) A (bind (load z) λo=>match o.cls,o.data with
  |Value.type n,Data.fields vs=>if(["enumerate","zip","dict_itemiterator","dict_reverseitemiterator","odict_iterator","itertools.zip_longest","itertools.pairwise"].contains n&&vs[0]? == some (rawInt T))=true then(do rule "for.unpacks-the-owned-tuple";updateField z 0 Value.none)else pure ()
  |_,_=>pure ()) Q E s:=by
  refine zxD<|wpAny_load hz ?_;show wpAny _ A (if _ then _ else _) Q E s
  split
  . refine zxD<|wpAny_rule ?_;exact wpAny_setField_rec hz ⋯ λh' z' hs=>h h' .none z' (.inl rfl) hs
  . exact no
 cases tg with
 |Tuple elts k pos=>exact go
 |List elts pos=>exact go
 |_=>exact no
noncomputable def ZR(b:Bool)(l:Addr):Obj:={cls:=.type (if b=true then "tuple_iterator" else "list_iterator"),data:=.fields #[.ref l,.int 0 0]}
def LC{prog w A E s l xs Q}:∀{b:Bool},UX b s.heap l xs->Q (.ref s.heap.objs.size) {s with heap:=s.heap.push (ZR b l)}->wpAny (model prog w) A (pyIter<|.ref l) Q E s
 |true,h1,h2=>wpAny_pyIter_tuple h1 h2
 |false,h1,h2=>wpAny_pyIter_list h1 h2
def UX.at{h h' l xs}(k:∀o,h.get? l=some o->h'.get? l=some o):∀{b:Bool},UX b h l xs->UX b h' l xs
 |true,⟨o,e,c⟩=>⟨o,k o e,c⟩
 |false,⟨o,e,c⟩=>⟨o,k o e,c⟩
def SL{b1 b2}(l1 l2)(xs ys):Meets (Builtin.«zip.__new__» {pos:=[.type "zip",.ref l1,.ref l2]}) λ_ R s=>UX b1 s.heap l1 xs/\UX b2 s.heap l2 ys/\
 ∀h':Heap,Lr h' (s.heap.objs.size+4) (s.heap.objs.size+2) (s.heap.objs.size+3) .none false->IsPair h' (s.heap.objs.size+2) (.ref s.heap.objs.size) (.ref<|s.heap.objs.size+1)->IsPair h' (s.heap.objs.size+3) .none .none->Xc b1 h' s.heap.objs.size l1 0->Xc b2 h' (s.heap.objs.size+1) l2 0->
  (∀c o,s.heap.get? c=some o->h'.get? c=some o)->R (.ok<|.ret<|.ref<|s.heap.objs.size+4) {s with heap:=h'}:=
 .of_wp λprog w A R s h=>by
  obtain⟨hp,g,d,tk,os⟩:=s;obtain⟨hl1,hl2,h⟩:=h;have hsub:=sub_zip;have p1:∀{Q:Value->Shared->Prop}{E:Value->Shared->Prop}{A:Around},Q (.ref hp.objs.size) ⟨hp.push<|ZR b1 l1,g,d,tk,os⟩->wpAny (model prog w) A (pyIter<|.ref l1) Q E ⟨hp,g,d,tk,os⟩:=λh=>LC hl1 h;have p2:∀{Q:Value->Shared->Prop}{E:Value->Shared->Prop}{A:Around},Q (.ref (hp.push<|ZR b1 l1).objs.size) ⟨(hp.push<|ZR b1 l1).push<|ZR b2 l2,g,d,tk,os⟩->wpAny (model prog w) A (pyIter<|.ref l2) Q E ⟨hp.push<|ZR b1 l1,g,d,tk,os⟩:=λh=>LC (s:=⟨hp.push<|ZR b1 l1,g,d,tk,os⟩) (hl2.at λo e=>zxF _ e) h
  wp_walk using p1,p2
  refine⟨_,rfl, ?_⟩;have s1:(hp.push<|ZR b1 l1).objs.size=hp.objs.size+1:=zxJ _ _;have s2:((hp.push<|ZR b1 l1).push<|ZR b2 l2).objs.size=hp.objs.size+2:=(zxJ _ _).trans (congrArg (· + 1) s1);generalize hh2:(hp.push<|ZR b1 l1).push (ZR b2 l2)=h2 at s2 ⊢;have i1:Xc b1 h2 hp.objs.size l1 0:=by
   have:h2.get? hp.objs.size=some (ZR b1 l1):=by rw[<-hh2];exact zxF _<|zxH _ rfl
   cases b1<;>exact⟨_,this,rfl,rfl⟩
  have i2:Xc b2 h2 (hp.objs.size+1) l2 0:=by
   have:h2.get? (hp.objs.size+1)=some (ZR b2 l2):=by rw[<-hh2,<-s1];exact zxH _ rfl
   cases b2<;>exact⟨_,this,rfl,rfl⟩
  have kp:∀c o,hp.get? c=some o->h2.get? c=some o:=λc o q=>by rw[<-hh2];exact zxF _<|zxF _ q
  rw[s1];change R (.ok<|.ret<|.ref ((h2.push {cls:=.type "tuple",data:=.seq #[.ref hp.objs.size,.ref<|hp.objs.size+1]}).push {cls:=.type "tuple",data:=.seq #[.none,.none]}).objs.size)
   ⟨((h2.push {cls:=.type "tuple",data:=.seq #[.ref hp.objs.size,.ref<|hp.objs.size+1]}).push {cls:=.type "tuple",data:=.seq #[.none,.none]}).push {cls:=.type "zip",data:=.fields #[.none,.bool false,.bool false,.ref h2.objs.size,.ref (h2.push {cls:=.type "tuple",data:=.seq #[.ref hp.objs.size,.ref<|hp.objs.size+1]}).objs.size]},g,d,tk,os⟩
  have g3:=zxH h2 (o:={cls:=.type "tuple",data:=.seq #[.ref hp.objs.size,.ref<|hp.objs.size+1]}) rfl;have s3:(h2.push {cls:=.type "tuple",data:=.seq #[.ref hp.objs.size,.ref<|hp.objs.size+1]}).objs.size=hp.objs.size+3:=(zxJ _ _).trans (congrArg (· + 1) s2);rw[s2]at g3;rw[s2,s3];have k3:∀c o,h2.get? c=some o->(h2.push {cls:=.type "tuple",data:=.seq #[.ref hp.objs.size,.ref<|hp.objs.size+1]}).get? c=some o:=λc o q=>zxF _ q;generalize (h2.push {cls:=.type "tuple",data:=.seq #[.ref hp.objs.size,.ref<|hp.objs.size+1]})=h3 at *;have g4:=zxH h3 (o:={cls:=.type "tuple",data:=.seq #[.none,.none]}) rfl;have s4:(h3.push {cls:=.type "tuple",data:=.seq #[.none,.none]}).objs.size=hp.objs.size+4:=(zxJ _ _).trans (congrArg (· + 1) s3);have k4:∀c o,h3.get? c=some o->(h3.push {cls:=.type "tuple",data:=.seq #[.none,.none]}).get? c=some o:=λc o q=>zxF _ q;rw[s3]at g4;rw[s4];generalize (h3.push {cls:=.type "tuple",data:=.seq #[.none,.none]})=h4 at *;have g5:=zxH h4 (o:={cls:=.type "zip",data:=.fields #[.none,.bool false,.bool false,.ref<|hp.objs.size+2,.ref<|hp.objs.size+3]}) rfl;rw[s4]at g5;exact h _ g5 (zxF _<|k4 _ _ g3) (zxF _ g4) (i1.at λo e=>zxF _<|k4 _ _<|k3 _ _ e) (i2.at λo e=>zxF _<|k4 _ _<|k3 _ _ e) λc o q=>zxF _<|k4 _ _<|k3 _ _<|kp c o q
def BC{b1 b2 prog w A E s l1 l2 xs ys Q}(hl1:UX b1 s.heap l1 xs)(hl2:UX b2 s.heap l2 ys)
 (h:∀h':Heap,Lr h' (s.heap.objs.size+4) (s.heap.objs.size+2) (s.heap.objs.size+3) .none false->IsPair h' (s.heap.objs.size+2) (.ref s.heap.objs.size) (.ref<|s.heap.objs.size+1)->IsPair h' (s.heap.objs.size+3) .none .none->Xc b1 h' s.heap.objs.size l1 0->Xc b2 h' (s.heap.objs.size+1) l2 0->
  (∀c o,s.heap.get? c=some o->h'.get? c=some o)->Q (.ref<|s.heap.objs.size+4) {s with heap:=h'}):wpAny (model prog w) A (call (.type "zip") [.ref l1,.ref l2]) Q E s:=
 callType_new F.called_zip (by decide) ⋯ (F.newCall_zip_2 _ _) (λobj=>F.args_object_init_3 obj _ _) F.entry_zip_new (SL l1 l2 xs ys)
  ⟨hl1,hl2,λh' a1 a2 a3 a4 a5 a6=>⟨⟨_,a1,rfl⟩,h h' a1 a2 a3 a4 a5 a6⟩⟩
def Ui{prog w A E s z TI TO f0 f1 Q}(hz:Lr s.heap z TI TO f0 f1)(h:Q (.ref z) s):wpAny (model prog w) A (pyIter<|.ref z) Q E s:=by
 have hT:s.TypeIs (.ref z) "zip":=⟨_,hz,rfl⟩;exact wpAny_pyIter_slot hT F.slot_zip_iter<|zxL F.slot_zip_iter hT F.entry_zip_iter (zxE ⟨.ref z,rfl,"zip",.builtin "zip.__next__",hT,F.slot_zip_next.lookup,h⟩)<|F.args_zip_iter_1 _
def Ta(K:zzA)(H:Hp):Bool->Addr->List V->Prop
 |true,a,xs=>Vd K H a xs
 |false,a,xs=>Xo K H a xs
def Ta.ok{X pins σ H s}(I:Inv X pins σ H s):∀{b:Bool}{a:Addr}{xs:List V},Ta X.K H b a xs->∃its:List Value,zQ xs its/\UX b s.heap a its.toArray
 |true,a,xs,h=>by obtain⟨its,rv,p,_⟩:=I.tuple h;exact⟨its,rv,p⟩
 |false,a,xs,h=>by obtain⟨its,rv,p,_⟩:=I.list h;exact⟨its,rv,p.isList⟩
def Ta.inj{X pins σ H s}(I:Inv X pins σ H s):∀{b:Bool}{a:Addr}{xs ys:List V},Ta X.K H b a xs->Ta X.K H b a ys->xs=ys
 |true,_,_,_,h,h'=>I.tuple_inj h h'
 |false,_,_,_,h,h'=>I.list_inj h h'
def UX.ex{h l xs}:∀{b:Bool},UX b h l xs->∃o,h.get? l=some o
 |true,⟨o,e,_⟩=>⟨o,e⟩
 |false,⟨o,e,_⟩=>⟨o,e⟩
def Xc.ex{h it l}{k:Nat}:∀{b:Bool},Xc b h it l k->∃o,h.get? it=some o/\∀v,o.data ≠ .cell v
 |true,⟨o,e,_,d⟩=>⟨o,e,λv z=>by rw[d]at z;cases z⟩
 |false,⟨o,e,_,d⟩=>⟨o,e,λv z=>by rw[d]at z;cases z⟩
def Jc(K:zzA)(b1 b2:Bool)(a b:Addr):It:=
 ⟨λi H=>∃xs ys x y,Ta K H b1 a xs/\Ta K H b2 b ys/\xs[i]? = some x/\ys[i]? = some y,
  λi H v H'=>∃T x y,H T=none/\v = .ref T/\H'=upd H T (.tup [x,y])/\(∀xs,Ta K H b1 a xs->xs[i]? = some x)/\∀ys,Ta K H b2 b ys->ys[i]? = some y,
  λi H=>∃xs ys,Ta K H b1 a xs/\Ta K H b2 b ys/\(xs.length<=i\/ys.length<=i)⟩
def Bz{P w K tg b1 b2}(a b z TI TO i1 i2)(D:ZipApart z TI TO i1 i2 a b):Turn P w K tg (Jc K b1 b2 a b) [z,TI,TO,i1,i2] z
 (λi h=>(∃f0 f1,Lr h z TI TO f0 f1/\Zf f0)/\IsPair h TI (.ref i1) (.ref i2)/\(∃p q,IsPair h TO p q)/\Xc b1 h i1 a i/\Xc b2 h i2 b i)where
 mem:=by simp
 obj:=λi h st c hc=>by
  obtain⟨⟨f0,f1,hz,_⟩,hTI,⟨p,q,hTO⟩,h1,h2⟩:=st;simp at hc
  rcases hc with rfl|rfl|rfl|rfl|rfl
  . exact⟨_,hz,λv z=>by cases z⟩
  . exact⟨_,hTI,λv z=>by cases z⟩
  . exact⟨_,hTO,λv z=>by cases z⟩
  . exact h1.ex
  . exact h2.ex
 keep:=λi h h' st kk=>by
  obtain⟨⟨f0,f1,hz,hf⟩,hTI,⟨p,q,hTO⟩,h1,h2⟩:=st;exact⟨⟨f0,f1,kk z (by simp) _ hz,hf⟩,kk TI (by simp) _ hTI,⟨p,q,kk TO (by simp) _ hTO⟩,h1.at λo e=>kk i1 (by simp) o e,h2.at λo e=>kk i2 (by simp) o e⟩
 item:=by
  intro X hP hw hK hc i pins s σ H E I hf st hg;subst hP hw hK;obtain⟨xs,ys,x,y,hq,hr,hx,hy⟩:=hg;obtain⟨its,rv,p⟩:=hq.ok I;obtain⟨jts,rw',p'⟩:=hr.ok I;obtain⟨u,hu,ru⟩:=rv.get hx;obtain⟨u',hu',ru'⟩:=rw'.get hy;obtain⟨⟨f0,f1,hz,zf⟩,hTI,⟨pp,qq,hTO⟩,h1,h2⟩:=st;refine Nz D hz zf hTI hTO h1 h2 p p' (by simpa using hu) (by simpa using hu') λh' g0 g1 z' zf' to' i1' i2' pr kk=>⟨_,rfl,FX tg z' zf' λh9 e0 z2 zf2 hs=>?_⟩;have hn:=I.hok.fresh<|zzN _;have fr:∀c o,s.heap.get? c=some o->c≠s.heap.objs.size:=λc o e z=>by
   have:=zxG e;rw[z]at this;exact Nat.lt_irrefl _ this
  have nz:=(fr z _ hz).symm;have k2:∀c o,c ∉ [z,TI,TO,i1,i2]->s.heap.get? c=some o->h9.get? c=some o:=λc o hb q=>by
   simp at hb;exact hs.extBut c o hb.1<|kk c o hb.1 hb.2.2.1 hb.2.2.2.1 hb.2.2.2.2 q
  have hTI2:=hs.extBut TI _ D.TIz<|kk TI _ D.TIz D.TITO D.TIi1 D.TIi2 hTI;obtain⟨p1,q1,to1⟩:=to';refine⟨.ref s.heap.objs.size,upd H s.heap.objs.size<|.tup [x,y],Vj (s:=s) (t':=s.toks) I hf k2 (zzN _) ⟨by show 2<=sizeLine;decide,[u,u'],.cons ru<|.cons ru' .nil,⟨_,hs.extBut _ _ nz pr,rfl,_,rfl⟩⟩,rfl,
   ⟨_,x,y,hn,rfl,rfl,λq hq'=>by rw[Ta.inj I hq' hq];exact hx,λq hq'=>by rw[Ta.inj I hq' hr];exact hy⟩,⟨⟨e0,g1,z2,zf2⟩,hTI2,⟨p1,q1,hs.extBut TO _ D.TOz to1⟩,i1'.ext hs.extBut D.i1z,i2'.ext hs.extBut D.i2z⟩,λc hc=>?_⟩
  have hcT:c≠s.heap.objs.size:=by
   simp at hc
   rcases hc with rfl|rfl|rfl|rfl|rfl
   . exact fr _ _ hz
   . exact fr _ _ hTI
   . exact fr _ _ hTO
   . obtain⟨o,e,_⟩:=h1.ex;exact fr _ _ e
   . obtain⟨o,e,_⟩:=h2.ex;exact fr _ _ e
  rw[zJ hcT];exact(hf c hc).1
 done:=by
  intro X hP hw hK hc i pins s σ H E I hf st hg;subst hP hw hK;obtain⟨xs,ys,hq,hr,hx⟩:=hg;obtain⟨its,rv,p⟩:=hq.ok I;obtain⟨jts,rw',p'⟩:=hr.ok I;have hl:=rv.length;have hl':=rw'.length;obtain⟨⟨f0,f1,hz,zf⟩,hTI,⟨pp,qq,hTO⟩,h1,h2⟩:=st;refine NV (I.ok.hd hc) D hz zf hTI hTO h1 h2 p p' (hx.imp (λh=>by simp;exact q0h hl h) λh=>by simp;exact q0h hl' h) λh' eb=>⟨rfl,Pz (t':=s.toks) I hf λc o hc q=>?_⟩;simp at hc;exact eb c o hc.1 hc.2.2.1 hc.2.2.2.1 hc.2.2.2.2 q
 self:=λ_ _ _ _ _ st h=>let⟨⟨_,_,hz,_⟩,_⟩:=st;Ui hz h
section
variable{X:Cx}{tg:Expr}
def tP(K:zzA)(ta:TA):TI:=λσ H R=>ta σ H λvs H1=>∃a b b1 b2,vs=[.ref a,.ref b]/\(∃xs,Ta K H1 b1 a xs)/\(∃ys,Ta K H1 b2 b ys)/\R (Jc K b1 b2 a b) H1
def EN{l l' ta p pos}(hg:Gl X "zip")(hm:X.mg "zip"=none)(ha:PA X [l,l'] ta)(hs:starEach [l,l'] X.env=[(false,eval l X.env),(false,eval l' X.env)])(hs2:starEach [l'] X.env=[(false,eval l' X.env)]):
 PI X tg (.Call (.Name "zip" p) [l,l'] [] pos) (tP X.K ta):=by
 intro pins s σ H R I h;refine Call_ (W_ I hg hm boot_zip<|PyProof.Rows.callWith_type1 (wA (ha pos pins s σ H _ I h) λus s1 ⟨vs,H1,I1,r1,q1⟩=>?_) (by rw[hs,hs2])<|by rw[hs2];rfl);obtain⟨a,b,b1,b2,rfl,⟨xs,hq⟩,⟨ys,hr⟩,q⟩:=q1;cases r1 with
 |cons r rr=>
  cases rr with
  |cons r' rr=>
   cases rr;cases r;cases r';obtain⟨its,rv,pl⟩:=hq.ok I1;obtain⟨jts,rw',pl'⟩:=hr.ok I1;obtain⟨o1,ho1⟩:=pl.ex;obtain⟨o2,ho2⟩:=pl'.ex;refine BC pl pl' λh' hZ hTI hTO hi1 hi2 hk=>?_;refine Ui hZ ⟨s1.heap.objs.size+4,[s1.heap.objs.size+4,s1.heap.objs.size+2,s1.heap.objs.size+3,s1.heap.objs.size,s1.heap.objs.size+1],_,_,H1,rfl,I1.kept (t':=s1.toks) hk,Bz a b _ _ _ _ _<|Bp _ _ _ (zxG ho1)<|zxG ho2,⟨⟨_,_,hZ,.inl rfl⟩,hTI,⟨_,_,hTO⟩,hi1,hi2⟩,λc hc=>?_,q⟩;have hb':s1.heap.objs.size<=c:=by
    simp at hc
    rcases hc with rfl|rfl|rfl|rfl|rfl<;>first|exact zzN _|exact Nat.le_add_right _ _
   exact I1.fpOk hb'<|I1.hok.fresh hb'
end
section
variable{X:Cx}{kd:KD}{tg e:Expr}{fa:EF}
def CV{K F B ad H a b b1 b2 vs ws st ds es}(hs:∀(ad3:Ad) (H3:Hp),Grow (Gw [] ad) H (Gw [] ad3) H3->Ta K H3 b1 a vs)(hs':∀(ad3:Ad) (H3:Hp),Grow (Gw [] ad) H (Gw [] ad3) H3->Ta K H3 b2 b ws)
 (r:RpL K kd (Lv F B (Gw [] ad) st) H vs ds) (r':RpL K kd (Lv F B (Gw [] ad) st) H ws es):ItOk K kd F B ad H (Jc K b1 b2 a b) (Qt st ds es):=⟨λad3 H3 g3 tr i=>by
 have hr3:=hs ad3 H3 g3;have hr4:=hs' ad3 H3 g3;have rl3:=RpL.grow g3 r;have rl4:=RpL.grow g3 r';have hlen:=V_ st ds es;have l1:=r.length;have l2:=r'.length;refine⟨λhi=>?_,λhi=>⟨_,_,hr3,hr4,⋯⟩,λv H4 hy=>?_⟩
 . obtain⟨u,hu,_⟩:=r.get<|zzE (show i<ds.length from q1e hi hlen);obtain⟨u',hu',_⟩:=r'.get<|zzE (show i<es.length from q1i hi hlen);exact⟨_,_,u,u',hr3,hr4,hu,hu'⟩
 . obtain⟨T,x,y,hn,rfl,rfl,hv,hv'⟩:=hy;refine⟨wD hn,λq hq=>?_⟩;obtain⟨d,e,hd,he,rfl⟩:=Pa hq;obtain⟨u,hu,ru⟩:=rl3.get hd;obtain⟨u',hu',ru'⟩:=rl4.get he;have:=hv _ hr3;rw[hu]at this;cases this;have:=hv' _ hr4;rw[hu']at this;cases this;exact .tup (λz=>tr _ _ z hn) (.inl yg)<|.cons (Rp.grow ⟨λb o q _=>wD hn b o q,λb z=>.inl z⟩ ru)<|.cons (Rp.grow ⟨λb o q _=>wD hn b o q,λb z=>.inl z⟩ ru') .nil⟩
def JN{K F H a b b1 b2 vs ws st ds es}(ft:∀a,F a->H a≠none)(hs:∀H3:Hp,(∀b u,H b=some u->H3 b=some u)->Ta K H3 b1 a vs)(hs':∀H3:Hp,(∀b u,H b=some u->H3 b=some u)->Ta K H3 b2 b ws)
 (r:RpL K kd (λa=>st=true/\F a) H vs ds) (r':RpL K kd (λa=>st=true/\F a) H ws es):ItC K kd F H (Jc K b1 b2 a b) (Qt st ds es):=⟨λH3 T k hT i=>by
 have hr3:=hs H3 k;have hr4:=hs' H3 k;have hlen:=V_ st ds es;have l1:=r.length;have l2:=r'.length;refine⟨λhi=>?_,λhi=>⟨_,_,hr3,hr4,⋯⟩,λv H4 hy=>?_⟩
 . obtain⟨u,hu,_⟩:=r.get<|zzE (show i<ds.length from q1e hi hlen);obtain⟨u',hu',_⟩:=r'.get<|zzE (show i<es.length from q1i hi hlen);exact⟨_,_,u,u',hr3,hr4,hu,hu'⟩
 . obtain⟨A,x,y,hn,rfl,rfl,hv,hv'⟩:=hy;have hnH:H A=none:=by
    cases e:H A with
    |none=>rfl
    |some u=>rw[k A u e]at hn;cases hn
   refine⟨wD hn,λq hq=>?_⟩;obtain⟨d,e,hd,he,rfl⟩:=Pa hq;obtain⟨u,hu,ru⟩:=r.get hd;obtain⟨u',hu',ru'⟩:=r'.get he;have:=hv _ hr3;rw[hu]at this;cases this;have:=hv' _ hr4;rw[hu']at this;cases this;have up:∀{v:V}{d:D},Rp K kd (λa=>st=true/\F a) H v d->Rp K kd (λa=>st=true/\(F a\/T a)) (upd H3 A<|.tup [x,y]) v d:=λrp=>
    (rp.since (λb o q=>wD hn b o<|k b o q) λa z=>(hT a z).1).less λa z=>z.2.elim (λy=>.inl ⟨z.1,y⟩) .inr
   exact .tup (λz=>z.2.elim (λy=>ft A y hnH) λy=>(hT A y).2 hn) (.inl yg)<|.cons (up ru)<|.cons (up ru') .nil⟩
noncomputable def Ck:RV->Option (Bool×Bool×List D)
 | .ow (.lf s (.lst l))=>some (s,false,l)
 | .ow (.lf s (.tup l))=>some (s,true,l)
 |_=>none
def Y_(fr:AF):IF:=λas=>(fr as).bind λp=>(DY p.1).bind λo=>(Ck o.1).bind λa=>(Ck o.2).bind λb=>some (Qt (a.1&&b.1) a.2.2 b.2.2,p.2)
def YV{K F B ad σ H v r x}(e:Ck r=some x)(rv:xj K kd F B [] ad σ H v r):∃a vs,v = .ref a/\Ta K H x.2.1 a vs/\(∀H3:Hp,(∀b u,¬Gw [] ad b->H b=some u->H3 b=some u)->Ta K H3 x.2.1 a vs)/\RpL K kd (Lv F B (Gw [] ad) x.1) H vs x.2.2:=by
 cases r with
 |bo i=>cases e
 |ow o=>
  cases o with
  |nd k os=>cases e
  |lf s d=>
   cases rv with
   |lf rp=>
    cases rp with
    |lst hn hr rl=>
     cases e;refine⟨_,_,rfl,.inl hr,λH3 k=>?_,rl⟩
     rcases hr with hr|⟨o,hr⟩
     . exact .inl<|.inl<|k _ _ (λz=>hn<|.inr z) hr
     . exact .inl (.inr ⟨o,k _ _ (λz=>hn<|.inr z) hr⟩)
    |lstK a b c rl=>cases e;exact⟨_,_,rfl,.inr ⟨_,_,_,a,rfl,rfl,rfl,b,c⟩,λH3 k=>.inr ⟨_,_,_,a,rfl,rfl,rfl,b,c⟩,rl⟩
    |tup hn hr rl=>
     cases e;refine⟨_,_,rfl,.inl hr,λH3 k=>?_,rl⟩
     rcases hr with hr|⟨o,hr⟩
     . exact .inl<|.inl<|k _ _ (λz=>hn<|.inr z) hr
     . exact .inl (.inr ⟨o,k _ _ (λz=>hn<|.inr z) hr⟩)
    |tupK a b c e' f rl=>cases e;exact⟨_,_,rfl,.inr ⟨_,_,_,a,b,c,e',f⟩,λH3 k=>.inr ⟨_,_,_,a,b,c,e',f⟩,rl⟩
    |_=>cases e
def IQ{F B G p q}:∀a,Lv F B G (p&&q) a->Lv F B G p a:=VB λz=>(Bool.and_eq_true_iff.mp z).1
def CD{F B G p q}:∀a,Lv F B G (p&&q) a->Lv F B G q a:=VB λz=>(Bool.and_eq_true_iff.mp z).2
def Jz{l l' fr p pos}(hg:Gl X "zip")(hm:X.mg "zip"=none)(ha:AA X kd [l,l'] fr)(hs:starEach [l,l'] X.env=[(false,eval l X.env),(false,eval l' X.env)])(hs2:starEach [l'] X.env=[(false,eval l' X.env)]):
 AI X kd tg (.Call (.Name "zip" p) [l,l'] [] pos) (Y_ fr):=by
 with_unfolding_all (
 intro pins s σ H R I h;obtain⟨F,B,ad,as,ds,as',Rl,e',q⟩:=h;obtain⟨⟨rs,as1⟩,h1,e'⟩:=bS_<|e';obtain⟨_,e1,e'⟩:=bS_ e';obtain⟨x1,e2,e'⟩:=bS_ e';obtain⟨x2,e3,e'⟩:=bS_ e';cases KU e1;cases e';refine EN hg hm ha hs hs2 pins s σ H R I ⟨F,B,ad,as,_,as1,Rl,h1,λvs ad1 H1 R1 rv1 g1=>?_⟩;cases rv1 with
 |cons r1 rr=>
  cases rr with
  |cons r2 rr=>
   cases rr;obtain⟨a,vs,rfl,sa,ka,ra⟩:=YV e2 r1;obtain⟨b,ws,rfl,sb,kb,rb⟩:=YV e3 r2;exact⟨a,b,_,_,rfl,⟨_,sa⟩,⟨_,sb⟩,q _ ad1 H1 R1 g1<|CV (λad3 H3 g3=>ka H3 λb u n h=>g3.keep b u h n) (λad3 H3 g3=>kb H3 λb u n h=>g3.keep b u h n) (ra.less IQ)<|rb.less CD⟩)
def J7{l l' fr p pos}(hg:Gl X "zip")(hm:X.mg "zip"=none)(ha:AA X kd [l,l'] fr)(hs:starEach [l,l'] X.env=[(false,eval l X.env),(false,eval l' X.env)])(hs2:starEach [l'] X.env=[(false,eval l' X.env)]):
 Jd X kd tg (.Call (.Name "zip" p) [l,l'] [] pos) (Y_ fr):=by
 with_unfolding_all (
 intro pins s σ H R I h;obtain⟨F,B,ad,as,ds,as',Rl,e',q⟩:=h;obtain⟨⟨rs,as1⟩,h1,e'⟩:=bS_<|e';obtain⟨_,e1,e'⟩:=bS_ e';obtain⟨x1,e2,e'⟩:=bS_ e';obtain⟨x2,e3,e'⟩:=bS_ e';cases KU e1;cases e';refine EN hg hm ha hs hs2 pins s σ H R I ⟨F,B,ad,as,_,as1,Rl,h1,λvs ad1 H1 R1 rv1 g1=>?_⟩;cases rv1 with
 |cons r1 rr=>
  cases rr with
  |cons r2 rr=>
   cases rr;obtain⟨a,vs,rfl,sa,ka,ra⟩:=YV e2 r1;obtain⟨b,ws,rfl,sb,kb,rb⟩:=YV e3 r2;refine⟨a,b,_,_,rfl,⟨_,sa⟩,⟨_,sb⟩,q _ ad1 H1 R1 g1<|JN (R1.trk true) (λH3 k=>ka H3 λb u n h=>k b u h) (λH3 k=>kb H3 λb u n h=>k b u h) (ra.less λa z=>?_)<|rb.less λa z=>?_⟩
   . have z1:=(Bool.and_eq_true_iff.mp z.1).1;rw[z1];exact z.2
   . have z1:=(Bool.and_eq_true_iff.mp z.1).2;rw[z1];exact z.2)
end
def D3:List D->Option R0:=Du λx=>(sr x).bind λds=>(Xw ds).bind λns=>some<|.im<|.int ns.sum
theorem Pk:∀{us:List Value}{ns:List Int},IntsAre us ns->∃ps:List (Int×Tok),us=ps.map (λp=>Value.int p.1 p.2)/\ps.map (·.1)=ns
 |_,_,.nil=>⟨[],rfl,rfl⟩
 |_,_,.cons a t h=>by
  obtain⟨b,rfl,rfl⟩:=Pk h;exact⟨(a,t)::b,rfl,rfl⟩
theorem NY{ps:List (Int×Tok)}:∀k,k<=ps.length->preSum (numAt ps.toArray) k=((ps.take k).map (·.1)).sum
 |0,_=>⋯
 |k+1,h=>by
  have a:=NY (ps:=ps) k ⋯;rw[List.take_add_one,zyM,List.sum_append];show preSum _ k+numAt ps.toArray k=_
  congr 1
  show((ps.toArray[k]?).map _).getD 0=_;rw[List.getElem?_toArray,zzE ⋯];simp
section
variable{X:Cx}{kd:KD}
def BJ(hc:X.calm=true):ZW X kd (.builtin "sum") D3:=by
 intro f s σ H E F Q I r h;obtain⟨O,G,J,K,i,a,q⟩:=h;obtain⟨x,d,rfl,j,a⟩:=Qx i a;obtain⟨l,k,b⟩:=bS_<|a;cases Qs k
 . obtain⟨m,n,c⟩:=bS_ b;cases c
   . cases j with
     |lst o p=>
      obtain⟨u,rfl,t⟩:=vals1 r;cases t;obtain⟨e,v,w,L⟩:=I.list o.sq;obtain⟨g,y,z⟩:=Pk<|IV p v n;refine sum_intListG (I.ok.hd hc) (xs:=g.toArray) ?_ λM A B C=>?_
      . have D:intItems g.toArray=e.toArray:=by rw[y];simp[intItems]
        rw[D];exact w.isList
      . refine⟨.int m.sum,H,I.kept (t':=A) C,⟨B, ?_⟩,z9 q<|.int _⟩;rw[zzH,NY _<|zzN _,List.take_length,z]
end
def B5(h:n<=1000000):n<=sizeLine:=zzO h (by decide)
section
variable{as:AS}{f fo a b:EF}{fr:AF}{s t:Bool}{x y z d:D}{c m:Str}{ns cs:List Str}{ds:List D}{tbl:List (Str×Fn)}{g:Fn}{o:O}
def Lo(h:WD fo as s (.ob c ns ds))(hc:c ∈ cs)(hl:N4 ns ds n=some d):WD (f1 fo<|zU cs n) as (zB d||s) d:=by
 unfold WD f1 at *;rw[h];show(if c ∈ cs then(N4 ns ds n).bind λd=>some _ else none:Option R0).bind _=_;rw[if_pos hc,hl];show(if _=true then _ else _:Option RV).bind _=_;rw[if_pos ⋯];rfl
def KC(ho:WD fo as s (.ob c ns ds))(hm:m ∉ ns)(ht:ES tbl c=some g)(hr:WA fr as rs)(hg:g ((s,.ob c ns ds)::rs.map λx=>(zB x.2||x.1,x.2))=some o):Z1 tbl m fo fr as=some (.ow o,as):=by
 unfold Z1;rw[ho];show(if m ∈ ns then none else some c:Option Str).bind _=_;rw[if_neg hm];show(ES tbl c).bind _=_;rw[ht];rw[hr];show((Z7 as _).bind _:Option _).bind _=_;rw[Yo];show(g ((s,.ob c ns ds)::_)).bind _=_;rw[hg];rfl
def FF(ho:WD fo as true (.ob c ns ds))(hm:m ∉ ns)(ht:ES tbl c=some g)(ha:WE a as x)(hg:RE (g [(true,.ob c ns ds),(true,x)]) z):WE (Z1 tbl m fo<|aC a aN) as z:=by
 obtain⟨o,b,d,e⟩:=hg;exact⟨o,KC ho hm ht (yV ha zo) (by show g [_,(zB x||true,x)]=_;rwa [zyD]),d,e⟩
def SU(ho:WD fo as true (.ob c ns ds))(hm:m ∉ ns)(ht:ES tbl c=some g)(ha:WE a as x)(hb:WE b as y)(hg:RE (g [(true,.ob c ns ds),(true,x),(true,y)]) z):WE (Z1 tbl m fo<|aC a<|aC b aN) as z:=by
 obtain⟨o,d,e,f⟩:=hg;exact⟨o,KC ho hm ht (yV ha<|yV hb zo) (by show g [_,(zB x||true,x),(zB y||true,y)]=_;rwa [zyD,zyD]),e,f⟩
def Ax(ho:WD fo as true (.ob c ns ds))(hm:m ∉ ns)(ht:ES tbl c=some g)(ha:WE a as x)(hb:WE b as y)(he:WE e as w)(hg:RE (g [(true,.ob c ns ds),(true,x),(true,y),(true,w)]) z):WE (Z1 tbl m fo<|aC a<|aC b<|aC e aN) as z:=by
 obtain⟨o,d,f,h⟩:=hg;exact⟨o,KC ho hm ht (yV ha<|yV hb<|yV he zo) (by show g [_,(zB x||true,x),(zB y||true,y),(zB w||true,w)]=_;rwa [zyD,zyD,zyD]),f,h⟩
inductive SqD:D->List D->Prop
 |l (ds:List D):SqD (.lst ds) ds
 |t (ds:List D):SqD (.tup ds) ds
theorem XB(st):∀(xs ys:List D),Qt st xs ys=(xs.zip ys).map λq=>(st,.tup [q.1,q.2])
 | [],_=>rfl
 |_::_,[]=>rfl
 |x::r,y::t=>congrArg _<|XB st r t
def SH(ha:WE a as x)(hb:WE b as y)(hx:SqD x xs)(hy:SqD y ys):Y_ (aC a<|aC b aN) as=some ((xs.zip ys).map λq=>(true,.tup [q.1,q.2]),as):=by
 have h:=yV ha<|yV hb zo;unfold Y_;rw[h,<-XB];cases hx<;>cases hy<;>rfl
theorem Gh:∀(l:List α),(∀q ∈ l,∃as1,gg (it q) as0=some as1/\WE fe as1 (h q))->∃os,xv gg yK fe as0 (l.map it)=some os/\O.strs os=true/\O.toDs os=l.map h
 | [],_=>⟨[],rfl,rfl,rfl⟩
 |q::l,H=>by
  obtain⟨a,d,e,f⟩:=Gh l λp m=>H p<|zzD _ m;obtain⟨b,g,o,i,c,j⟩:=H q zzF;refine⟨o::a, ?_,by show(o.str&&O.strs a)=_;rw[c,e];rfl,by show o.toD::O.toDs a=_;rw[j,f];rfl⟩;show xv gg yK fe as0 (it q::l.map it)=_;unfold xv;rw[g];show((fe b).bind _)=_;rw[i];show(if o.str=true then _ else _)=_;rw[if_pos c,d];rfl
theorem Gf:∀(l:List α),(∀q ∈ l,∃as1,gg (it q) as0=some as1/\WT tt as1 (p q)/\(p q=true->WE fe as1 (h q)))->∃os,xv gg tt fe as0 (l.map it)=some os/\O.strs os=true/\O.toDs os=(l.filter p).map h
 | [],_=>⟨[],rfl,rfl,rfl⟩
 |q::l,H=>by
  obtain⟨c,d,e,f⟩:=Gf l λp m=>H p<|zzD _ m;obtain⟨a,g,b,j⟩:=H q zzF;cases hp:p q with
  |false=>
   rw[hp]at b;refine⟨c,BR g b d,e, ?_⟩
   rwa [List.filter_cons_of_neg<|by simp[hp]]
  |true=>
   rw[hp]at b;obtain⟨o,k,i,n⟩:=j hp;refine⟨o::c, ?_,by show(o.str&&O.strs c)=_;rw[i,e];rfl, ?_⟩
   . unfold WT at b;show xv gg tt fe as0 (it q::l.map it)=_;unfold xv;rw[g];show(tt a).bind _=_;rw[b];show((fe a).bind _)=_;rw[k];show(if o.str=true then _ else _)=_;rw[if_pos i,d];rfl
   . rw[List.filter_cons_of_pos hp];show o.toD::O.toDs c=_;rw[n,f];rfl
def NN{os}(h1:fi as=some (xs,as))(hl:xs.length<=1000000)(h2:xv gg tt fe (Zv cap as) xs=some os)(hs:O.strs os=true)(e:O.toDs os=zs):WE (zX fi cap gg tt fe) as (.lst zs):=by
 refine⟨.nd .ls os, ?_,hs,congrArg D.lst e⟩;unfold zX;rw[h1];show(if xs.length<=sizeLine then _ else _)=_;rw[if_pos<|B5 hl,h2];rfl
def QK(l:List α)(h1:fi as=some (l.map it,as))(hl:l.length<=1000000)(H:∀q ∈ l,∃as1,gg (it q) (Zv cap as)=some as1/\WE fe as1 (h q)):WE (zX fi cap gg yK fe) as (.lst<|l.map h):=by
 obtain⟨d,a,b,c⟩:=Gh l H;exact NN h1 (by rwa [zzB]) a b c
def Ek(l:List α)(h1:fi as=some (l.map it,as))(hl:l.length<=1000000)(H:∀q ∈ l,∃as1,gg (it q) (Zv cap as)=some as1/\WT tt as1 (p q)/\(p q=true->WE fe as1 (h q))):WE (zX fi cap gg tt fe) as (.lst<|(l.filter p).map h):=by
 obtain⟨d,a,b,c⟩:=Gf l H;exact NN h1 (by rwa [zzB]) a b c
def Rt(r:Option Out)(x:D):Prop:=∃o,r=some (.rt o)/\o.str=true/\o.toD=x
def zN{n m:Nat}{c ds}(hl:ds.length=m)(h:Rt (c<|vU n ds) x):RE (xY n m c ds) x:=by
 obtain⟨o,a,b,d⟩:=h;exact⟨o,xO hl a,b,d⟩
def zc{f g}(h1:f as=some (.nx as1))(h2:Rt (g as1) x):Rt (zh f g as) x:=by
 obtain⟨o,e,h⟩:=h2;exact⟨o,zt h1 e,h⟩
def yj{f g}(h1:Rt (f as) x):Rt (zh f g as) x:=by
 obtain⟨o,e,h⟩:=h1;exact⟨o,vY e,h⟩
def yO{c f g}(h:WT c as true)(h1:Rt (f as) x):Rt (xk c f g as) x:=by
 obtain⟨o,e,a⟩:=h1;exact⟨o,xf h e,a⟩
def zF(h:WE f as x):Rt (zy f as) x:=by
 obtain⟨o,b,a,c⟩:=h;refine⟨o, ?_,a,c⟩;unfold zy;rw[b];show((if o.str=true then some o else none).bind _)=_;rw[if_pos a];rfl
theorem RE.lf(h:r=some (.lf true x)):RE r x:=⟨_,h,rfl,rfl⟩
def Ke{c}(h:WT c as true)(ha:WE a as x):WE (FD c a b) as x:=by
 obtain⟨o,d,e,f⟩:=ha;exact⟨o,by unfold FD;rw[h];exact d,e,f⟩
def G3{c}(h:WT c as false)(hb:WE b as x):WE (FD c a b) as x:=by
 obtain⟨o,d,e,f⟩:=hb;exact⟨o,by unfold FD;rw[h];exact d,e,f⟩
def VH{g}(ha:WE a as x)(hg:g [x]=some (.im z)):WE (fP (aC a aN) g) as z:=WD.e<|K2 ha hg
def D4{os}(h:WO fd as os)(hl:os.length<=1000000)(hs:O.strs os=true)(e:O.toDs os=zs):WE (yf fd) as (.tup zs):=by
 refine⟨Wy os,S_ h<|B5 hl, ?_, ?_⟩
 . unfold Wy;split
   . exact hs
   . exact hs
 . subst e;unfold Wy;split
   . rfl
   . rfl
def nG{os}(h:WE a as x)(hr:WO fd as os):∃o,o.str=true/\o.toD=x/\WO (dC a fd) as (o::os):=by
 obtain⟨o,b,c,d⟩:=h;exact⟨o,c,d,Hg b hr⟩
def yw(ha:WE a as x)(hb:WE b as y):WE (yf<|dC a<|dC b dN) as (.tup [x,y]):=by
 obtain⟨p,c,rfl,d⟩:=nG hb yG;obtain⟨o,e,rfl,f⟩:=nG ha d;exact D4 f ⋯ (by show(o.str&&(p.str&&true))=_;rw[e,c];rfl) rfl
def HD{g}(ha:WE a as x)(hb:WE b as y)(hg:g x y=some (.im z)):WE (f2 a b g) as z:=WD.e<|Fj ha hb hg
end
open AutoSeq1 (wpAny_loadPart')
section
variable{X:Cx}{kd:KD}
def sL(x:D)(lo hi:Option Int):Option R0:=(sr x).bind λxs=>if lo=none/\hi=some (-1)then some (.fl xs.reverse)else none
theorem L9:∀r:List Value,(List.range r.length).filterMap (λk=>r[k]?)=r
 | []=>rfl
 |a::r=>by
  rw[zzT,List.range_succ_eq_map,List.filterMap_cons,List.filterMap_map];show a::(List.range r.length).filterMap (λk=>r[k]?)=_;rw[L9 r]
theorem XM{α β:Type}{f g:α->Option β}:∀{l:List α},(∀a ∈ l,f a=g a)->l.filterMap f=l.filterMap g
 | [],_=>rfl
 |a::l,h=>by rw[List.filterMap_cons,List.filterMap_cons,h a zzF,XM λb hb=>h b<|zzD _ hb]
def Sz(l:List Value):slicePick l.toArray none none (some (-1))=l.reverse.toArray:=by
 have e:sliceBounds none none (some (-1)) l.toArray.size=((l.length:Int)-1, -1, -1):=⋯;unfold slicePick;rw[e];have e2:(sliceRange (l.length-1) (-1) (-1))=(List.range l.length).map λk=>l.length-1-k:=by
  unfold sliceRange;rw[if_neg<|by decide]
  rcases Nat.eq_zero_or_pos l.length with h|h
  . rw[h];rfl
  . rw[if_pos ⋯,Int.neg_neg,Int.ediv_one];have:((l.length:Int)-1 - -1 - -1-1).toNat=l.length:=⋯;show List.map _ _=_;rw[this];refine List.map_congr_left λk hk=>?_;have:=List.mem_range.mp hk;omega
 rw[e2]
 congr 1
 rw[List.filterMap_map];have e3:(List.range l.length).filterMap (λk=>l.toArray[l.length-1-k]?)=(List.range l.reverse.length).filterMap (λk=>l.reverse[k]?):=by
  rw[List.length_reverse];refine XM λk hk=>?_;rw[List.getElem?_reverse<|List.mem_range.mp hk];simp
 exact e3.trans<|L9 _
def I0{K O H vs ds}(r:RpL K kd O H vs ds):RpL K kd O H vs.reverse ds.reverse:=RpL.ind (P:=λvs ds=>RpL K kd O H vs.reverse ds.reverse) .nil (λa _ ih=>by
 rw[List.reverse_cons,List.reverse_cons];exact ih.append<|.cons a .nil) r
def Dx{e st te th p2 pos}(he:PE X e te)(hst:PO X (some st) th):PE X (.Subscript e (.Slice none none (some st) p2) pos)
 (ji (λx lo u H Q=>∃a xs,x = .ref a/\Xo X.K H a xs/\u=some (-1)/\∀p,H p=none->Q (.ref p) (upd H p<|.lst xs.reverse)) te Fl th):=by
 intro pins s σ H Q I h;refine Subscript_<|wA (he pins s σ H _ I h) λv s1 ⟨x,H1,I1,r1,q1⟩=>?_;refine wpAny_Slice ?_;refine zxE<|zxE<|wA (hst pins s1 σ H1 _ I1 q1) λvu s3 ⟨u,H3,I3,pu,q3⟩=>?_;have I4:Inv X pins σ H3 {s3 with heap:=s3.heap.push {cls:=.type "slice",data:=.fields #[.none,.none,vu]}}:=I3.kept (t':=s3.toks) λb ob q=>zxF _ q;obtain⟨a,xs,rfl,hx,rfl,q⟩:=q3;cases r1;obtain⟨its,r',pl,hz⟩:=I4.list hx;have hlen:=r'.length;refine tail_any pl.isList.typeIs slot_list_getitem.lookup (wpAny_getItem_list_slice pl.isList (Heap.IsSliceOf.new ..) .none .none pu (by decide) ?_<|by rw[zzH];exact q0h hlen hz) ⋯;rw[Sz];exact⟨.ref _,_,I4.lnew (t':=s3.toks) r'.reverse (by rwa [List.length_reverse]),rfl,q _ I4.fresh⟩
def ua{a st fa fs pos p2}(ha:AE X kd a fa)(hs:AE X kd st fs):AE X kd (.Subscript a (.Slice none none (some st) p2) pos) (Xr fa oN (oS fs) sL):=by with_unfolding_all exact(yk (Dx ha<|EZ hs) λσ H Q h=>by
 obtain⟨F,B,ad,as,r,as',R,e,q⟩:=h;obtain⟨⟨p,as1⟩,h1,e⟩:=bS_<|e;obtain⟨_,h2,e⟩:=bS_ e;cases h2;obtain⟨⟨u,as3⟩,h3,e⟩:=bS_ e;obtain⟨⟨d,lv⟩,h4,e⟩:=bS_ e;obtain⟨r',h5,e⟩:=bS_ e;obtain⟨z,h6,e⟩:=bS_ e;cases e;obtain⟨xs,h7,h5⟩:=bS_<|h5;obtain⟨c,e5⟩:=zr h5;cases e5;refine wZ R h1 λv ad1 H1 R1 rv1 g1=>⟨F,B,ad1,as1,u,_,R1,h3,λad3 H3 R3 g3=>?_⟩;have vx:=xj.vw R3 (rv1.grow g3) h4;have rq:=ZT R3 h6 λw T' H' R' rv' g'=>q w T' ad3 H' R' rv'<|(g1.trans g3).trans g';cases Qs h7;cases vx with
 |lst hr rl=>exact⟨_,_,rfl,hr.sq,c.2,QN rq<|I0 rl⟩)
end
def CQ(n:Nat)(K:zzA)(kd:KD)(F B:Addr->Prop)(ad:Ad)(σ:St)(H:Hp)(D:Ends):Out->Prop
 | .nx as'=>∀σ' ad' H',(∀i,i<n->σ'[i]? = σ[i]?)->Rel K kd F B [] ad' as' σ' H'->Grow (Gw [] ad) H (Gw [] ad') H'->D.nx σ' H'
 | .bk as'=>∀σ' ad' H',(∀i,i<n->σ'[i]? = σ[i]?)->Rel K kd F B [] ad' as' σ' H'->Grow (Gw [] ad) H (Gw [] ad') H'->D.bk σ' H'
 | .ct as'=>∀σ' ad' H',(∀i,i<n->σ'[i]? = σ[i]?)->Rel K kd F B [] ad' as' σ' H'->Grow (Gw [] ad) H (Gw [] ad') H'->D.ct σ' H'
 | .rt _=>False
def bp(n:Nat)(K:zzA)(kd:KD)(f:SF):TS:=λD σ H=>∃F B ad as o,Rel K kd F B [] ad as σ H/\f as=some o/\CQ n K kd F B ad σ H D o
@[irreducible] def AP(X:Cx)(kd:KD)(n:Nat)(st:Stmt)(f:SF):Prop:=PS X st<|bp n X.K kd f
@[irreducible] def O7(X:Cx)(kd:KD)(n:Nat)(st:List Stmt)(f:SF):Prop:=Kt X st<|bp n X.K kd f
def CQ.pre{n:Nat}{K ad ad1 D}(s:∀i,i<n->σ1[i]? = σ[i]?)(g:Grow (Gw [] ad) H (Gw [] ad1) H1)(h:CQ n K kd F B ad σ H D o):CQ n K kd F B ad1 σ1 H1 D o:=by
 cases o with
 |nx as=>exact λσ' ad' H' s' R g'=>h σ' ad' H' (λi hi=>(s' i hi).trans<|s i hi) R (g.trans g')
 |bk as=>exact λσ' ad' H' s' R g'=>h σ' ad' H' (λi hi=>(s' i hi).trans<|s i hi) R (g.trans g')
 |ct as=>exact λσ' ad' H' s' R g'=>h σ' ad' H' (λi hi=>(s' i hi).trans<|s i hi) R (g.trans g')
 |rt _=>exact h
section
variable{X:Cx}{kd:KD}{n:Nat}{e c tg iter:Expr}{st:Stmt}{rest sts body:List Stmt}{fa:EF}{ta:TF}{f g:SF}{pos pos':Pos}
def Jm:O7 X kd n [] xh:=by with_unfolding_all exact(Zq U8 λD σ H h=>by
 obtain⟨F,B,a,as,o,R,e,q⟩:=h;cases e;exact q σ a H (λ_ _=>rfl) R Grow.refl)
def OA(h1:AP X kd n st f)(h2:O7 X kd n rest g):O7 X kd n (st::rest) (zh f g):=by with_unfolding_all exact(Zq (ZK h1 h2) λD σ H h=>by
 obtain⟨F,B,ad,as,o,R,e,q⟩:=h;obtain⟨o1,e1,e⟩:=bS_<|e;refine⟨F,B,ad,as,o1,R,e1, ?_⟩;cases o1 with
 |nx as1=>exact λσ' ad' H' s' R' g'=>⟨F,B,ad',as1,o,R',e,q.pre s' g'⟩
 |bk as1=>cases e;exact q
 |ct as1=>cases e;exact q
 |rt r=>cases e;exact q)
def Iz(h1:AP X kd n st f):O7 X kd n [st] f:=by with_unfolding_all exact(Vn h1)
def nt(hc:AT X kd c ta)(ha:O7 X kd n sts f)(hb:O7 X kd n rest g):AP X kd n (.If c sts rest pos) (xk ta f g):=by with_unfolding_all exact(xy (EA hc ha hb) λD σ H h=>by
 obtain⟨F,B,i,as,o,R,e,q⟩:=h;obtain⟨⟨p,a⟩,j,e⟩:=bS_<|e;refine⟨F,B,i,as,p,a,R,j,λb k d g=>?_⟩;cases p with
 |true=>exact⟨F,B,b,a,o,d,e,q.pre (λ_ _=>rfl) g⟩
 |false=>exact⟨F,B,b,a,o,d,e,q.pre (λ_ _=>rfl) g⟩)
def JR(he:AE X kd e fa)(hs:swapsWith e none pos.line X.env=pure false):AP X kd n (.Expr e pos) (yc fa):=by with_unfolding_all exact(xy (V5 he hs) λD σ H h=>by
 obtain⟨F,B,c,as,o,R,e,q⟩:=h;obtain⟨⟨p,a⟩,d,e⟩:=bS_<|e;cases e;exact⟨F,B,c,as,p,a,R,d,λv j b f i k g=>q σ b f (λ_ _=>rfl) i.drop<|g.trans<|Grow.less Gw.drop⟩)
def sk{i:Nat}(hn:n<=i)(hN:X.N.Nodup)(hi:X.N[i]? = some x)(hx:Loc X.env.scope x)(he:AE X kd e fa)(hs:swapsWith e (some<|.Name x pos') pos.line X.env=pure false)(hf:X.fn x=true\/X.env.scope.names.lookup x=some .local):
 AP X kd n (.Assign [.Name x pos'] e pos) (zm z i fa):=by with_unfolding_all exact(xy (SY hN hi hx he hs hf) λD σ H h=>by
 obtain⟨F,B,c,as,o,R,e,q⟩:=h;obtain⟨⟨p,a⟩,d,e⟩:=bS_<|e;obtain⟨_,j,e⟩:=bS_ e;obtain⟨l,e⟩:=zr e;cases e;refine⟨F,B,c,as,p,a,R,d,λv w m r s t g=>?_⟩;obtain⟨b,R2,u⟩:=Mf s t j l;exact q _ b r (λk A=>zzY ⋯) R2<|g.trans<|Grow.less u)
def uN(hS:∀i,i<n->i ∉ S)(hp:PassesOwn (model X.prog X.w) X.A X.env X.xe)(hc:X.calm=true)(hi:AI X kd tg iter fi)(hg:AG X kd tg S gt)(hb:O7 X kd n body f)(hs:∀x,foldedSetIterable iter X.env x=pure x):
 AP X kd n (.For tg iter body [] pos) (yx fi gt f):=by with_unfolding_all exact(xy (HQ hp hc hi hg hb hs) λD σ H h=>by
 obtain⟨F,B,ad,as,o,R,e,q⟩:=h;obtain⟨⟨ds,as1⟩,h1,e⟩:=bS_<|e;refine⟨F,B,ad,as,ds,as1,R,h1,λJ ad1 H1 R1 g1 it=>?_⟩;refine⟨λi m σ2 H2=>m+i=ds.length/\∃ad2 as2,(∀k,k<n->σ2[k]? = σ[k]?)/\Rel X.K kd F B [] ad2 as2 σ2 H2/\Grow _ H1 (Gw [] ad2) H2/\forL gt f (ds.drop i) as2=some o,⟨ds.length,rfl,ad1,as1,λ_ _=>rfl,R1,Grow.refl,e⟩, ?_⟩
 rintro i m σ2 H2 ⟨hm,ad2,as2,s2,R2,g2,e2⟩
 obtain⟨k1,k2,k3⟩:=it.all ad2 H2 g2 R2.trk i
 by_cases hi:i<ds.length
 . refine .inr ⟨k1 hi,λσ3 H3=>∃ad3 as3,_/\Rel X.K kd F B [] ad3 as3 σ3 H3/\Grow _ H1 _ H3/\forL gt f _ as3=some o,λσ3 H3 ⟨ad3,as3,s3,R3,g3,e3⟩=>⟨m-1,⋯,⋯,ad3,as3,s3,R3,g3,e3⟩,λv H3 hy=>?_⟩;obtain⟨kp,rp⟩:=k3 v H3 hy;rw[zyQ hi]at e2;obtain⟨as3,e3,e2⟩:=bS_<|e2;obtain⟨o3,e4,e2⟩:=bS_ e2;obtain⟨R3,g3⟩:=R2.more kp;refine⟨F,B,ad2,as2,_,as3,R3,rp _ ⋯,e3,λσ4 ad4 H4 R4 g4 s4=>?_⟩;refine⟨F,B,ad4,as3,o3,R4,e4, ?_⟩;have gg:=(g2.trans g3).trans g4;have s4':∀k,k<n->σ4[k]? = σ[k]? := λk hk=>(s4 k<|hS k hk).trans<|s2 k hk;cases o3 with
   |nx as5=>exact λσ5 ad5 H5 s5 R5 g5=>⟨ad5,as5,λk hk=>(s5 k hk).trans<|s4' k hk,R5,gg.trans g5,e2⟩
   |ct as5=>exact λσ5 ad5 H5 s5 R5 g5=>⟨ad5,as5,λk hk=>(s5 k hk).trans<|s4' k hk,R5,gg.trans g5,e2⟩
   |bk as5=>
    cases e2;exact λσ5 ad5 H5 s5 R5 g5=>q σ5 ad5 H5 (λk hk=>(s5 k hk).trans<|s4' k hk) R5 (g1.trans<|gg.trans g5)
   |rt r=>cases e2;exact q.elim
 . refine .inl ⟨k2 ⋯, ?_⟩;rw[List.drop_eq_nil_of_le ⋯]at e2;cases e2;exact q σ2 ad2 H2 s2 R2<|g1.trans g2)
end
section
variable{K:zzA}{kd:KD}{F B:Addr->Prop}{ad:Ad}{as:AS}{σ:St}{H H':Hp}
def G1(G:Addr->Prop)(T T':List Addr):Addr->Prop:=λa=>(G a/\a ∉ T)\/a ∈ T'
def Rel.chg1{i:Nat}(R:Rel K kd F B [] ad as σ H)(hi:i<as.length)(s0:σ[i]? = some (some v0))(nd:T0.Nodup)
 (sub:∀a ∈ T0,a ∈ ad i\/H a=none) (kp:∀c u,H c=some u->c ∉ ad i->H' c=some u) (al:∀a ∈ T0,H' a≠none)
 (r0:wC K kd F B (G1 (Gw [] ad) (ad i) T0) H' v0 o0 T0):
 Rel K kd F B [] (yP ad i T0) (as.set i<|some o0) σ H'/\Grow (Gw [] ad) H (Gw []<|yP ad i T0) H':=by
 have v:yP ad i T0 i=T0:=zL;have q:∀k,k≠i->yP ad i T0 k=ad k:=λk h=>zO h;have r:∀k a,k≠i->a ∈ ad k->a ∉ ad i:=λk a h m z=>h<|R.inj k i a m z;have C:∀a,Gw [] (yP ad i T0) a->G1 (Gw [] ad) _ T0 a:=λa z=>by
  rcases z with z|⟨k,z⟩
  . exact nomatch z
  . by_cases e:k=i
    . subst e;rw[v]at z;exact .inr z
    . rw[q k e]at z;exact .inl ⟨.inr ⟨k,z⟩,r k a e z⟩
 have A:=λk a h m z=>(sub a z).elim (r k a h m) λy=>(R.gtr a<|.inr ⟨k,m⟩).1 y;have g:Grow _ H _ H':=⟨λb o h n=>kp b o h λz=>n<|.inr ⟨i,z⟩,λb z=>(C b z).elim (λy=>.inl y.1) λy=>(sub b y).elim (λx=>.inl<|.inr ⟨i,x⟩) .inr⟩;have D:∀a,H a≠none->a ∉ ad i->H' a≠none:=λa h n=>by
  cases e:H a with
  |none=>exact absurd e h
  |some u=>rw[kp a u e n];simp
 have d:∀a,a ∈ ad i->Gw [] ad a:=λa z=>.inr ⟨i,z⟩;refine⟨⟨by rw[zzU];exact R.len,λk I=>?_,λk=>?_,λk l a j p=>?_,zyJ,(λ_ _ _ z=>nomatch z),λa z=>D a (R.ftr a z) λy=>(R.gtr a<|d a y).2 z,λa z=>?_,λa z=>?_,λk s e=>?_⟩,g⟩
 . rw[zzU]at I;rw[q k ⋯];exact R.out k I
 . by_cases e:k=i
   . subst e;rwa [v]
   . rw[q k e];exact R.nd k
 . by_cases e:k=i
   . subst e;rw[v]at j
     by_cases E:l=k
     . exact E.symm
     . rw[q l E]at p;exact absurd j<|A l a E p
   . rw[q k e]at j
     by_cases t:l=i
     . subst t;rw[v]at p;exact absurd p<|A k a e j
     . rw[q l t]at p;exact R.inj k l a j p
 . obtain⟨j,p,G⟩:=R.btr a z;refine⟨D a j λy=>G<|d a y,p,λy=>(C a y).elim (λx=>G x.1) λx=>(sub a x).elim (λw=>G<|d a w) j⟩
 . rcases C a z with⟨y,n⟩|y
   . exact⟨D a (R.gtr a y).1 n,(R.gtr a y).2⟩
   . exact⟨al a y,(sub a y).elim (λw=>(R.gtr a<|d a w).2) λw f=>R.ftr a f w⟩
 . by_cases t:k=i
   . subst t;rw[zyK hi]at e;cases e;rw[v];exact⟨v0,s0,wC.lv (λJ a z=>z.imp id<|C a) r0⟩
   . rw[zzY λz=>t z.symm]at e;rw[q k t];exact(R.sl k s e).grow g λa m u h=>kp a u h<|r k a t m
end
def Mv(K:zzA)(kd:KD)(g:List xi->O->Option O):Sp:=λvs H Q _=>∃(F B G:Addr->Prop) (T:List Addr) (ws:List V) (v:V) (xs:List xi) (o r:O),vs=ws++[v]/\(∀a,F a->H a≠none)/\(∀a,B a->H a≠none/\¬F a/\¬G a)/\(∀a,G a->H a≠none/\¬F a)/\
 T.Nodup/\(∀a ∈ T,G a)/\RpI K kd F B G H ws xs/\wC K kd F B G H v o T/\g xs o=some r/\
 ∀(H':Hp) (T':List Addr),(∀c u,H c=some u->c ∉ T->H' c=some u)->T'.Nodup->(∀a ∈ T',a ∈ T\/H a=none)->(∀a ∈ T',H' a≠none)->wC K kd F B (G1 G T T') H' v r T'->Q .non H'
noncomputable def L8(i:Nat):List RV->Option (List xi)
 | []=>none
 |r::rs=>match r with
  | .bo j=>if j=i/\rs.isEmpty=true then some []else none
  | .ow (.lf st d)=>(L8 i rs).bind λxs=>some ((st,d)::xs)
  | .ow (.nd _ _)=>none
theorem Na{K ad}{i:Nat}:∀{rs:List RV}{vs:List V}{xs:List xi},RVs K kd F B ad σ H vs rs->L8 i rs=some xs->∃ws v,vs=ws++[v]/\RpI K kd F B (Gw [] ad) H ws xs/\σ[i]? = some (some v)
 | [],_,_,_,e=>by cases e
 |r::rs,_,xs,h,e=>by
  cases h with
  |cons hv hr=>
   rename_i v vs;cases r with
   |bo j=>
    obtain⟨⟨e1,e2⟩,e3⟩:=zr e;cases e3;rw[List.isEmpty_iff]at e2;subst e1 e2;cases hr;exact⟨[],v,rfl,.nil,hv.2⟩
   |ow o=>
    cases o with
    |lf st d=>
     obtain⟨ys,e1,e⟩:=bS_<|e;cases e;obtain⟨ws,w,rfl,h1,h2⟩:=Na hr e1;cases hv with
     |lf rp=>exact⟨v::ws,w,rfl,.cons rp h1,h2⟩
    |nd k os=>cases e
def ZJ(i:Nat)(fr:AF)(g:List xi->O->Option O):SF:=λas=>(fr as).bind λp=>(L8 i p.1).bind λxs=>(p.2[i]?).bind λa=>a.bind λo=>(g xs o).bind λr=>some<|.nx<|p.2.set i<|some r
section
variable{X:Cx}{kd:KD}{e:Expr}{es:List Expr}{fr:AF}{pos pos':Pos}
def LP{n i k:Nat}{f}(F:FnOk X.prog X.w X.K X.mg X.base ZP k f fdt ps (Mv X.K kd g))(hr:Room k X.A)(hg:Gl X x)(hm:X.mg x=some (.ref f))(hk:W.keepIn X.K (.ref f)=true)
 (hb:Binds X.K fdt ps []) (hx:vV ZP X (λ_ _ _=>False)) (ha:AA X kd (e::es) fr) (hdb:(x==("__debug__":Str))=false) (he:starEach (e::es) X.env=(false,eval e X.env)::starEach es X.env) (hpl:(backTo pos<|starEach es X.env).any (·.1)=false)
 (hs:swapsWith (.Call (.Name x p) (e::es) [] pos) none pos'.line X.env=pure false):
 AP X kd n (.Expr (.Call (.Name x p) (e::es) [] pos) pos') (ZJ i fr g):=by
 with_unfolding_all exact(xy (V5 (KG F hr hg hm hk hb .nil hx ha hdb he hpl) hs) λD σ H h=>by
  obtain⟨F,B,I,as,o,R,e,q⟩:=h;obtain⟨⟨J,d⟩,L,M⟩:=bS_<|e;obtain⟨N,P,Q⟩:=bS_ M;obtain⟨a,z,S⟩:=bS_ Q;obtain⟨T,U,V⟩:=bS_ S;obtain⟨r,j,Y⟩:=bS_ V;subst U;have l:=zzZ Y;refine(⟨F,B,I,as,J,d,R,L,λvs c Z b s g1=>?_⟩);obtain⟨C,v,rfl,t,E⟩:=Na s P;obtain⟨w0,G,u⟩:=b.sl i _ z;rw[E]at G;cases G;rw[zyE];refine⟨F,B,Gw [] c,c i,C,v,N,T,r,rfl,b.ftr,b.btr,b.gtr,b.nd i,λa m=>.inr ⟨i,m⟩,t,u,j,λH' T' kp nd y al r0=>?_⟩;obtain⟨R3,g3⟩:=b.chg1 (zzG.mp z).1 E nd y kp al r0;subst l;exact q σ _ _ (λ_ _=>rfl) R3<|g1.trans g3)
def HC{i k:Nat}(F:FnOk X.prog X.w X.K X.mg X.base ZP k f fdt ps (Mv X.K kd g))(hr:Room k X.A)(hg:Gl X x)(hm:X.mg x=some (.ref f))(hk:W.keepIn X.K (.ref f)=true)
 (hb:Binds X.K fdt ps []) (hx:vV ZP X (λ_ _ _=>False)) (ha:AA X kd (e::es) fr) (hdb:(x==("__debug__":Str))=false) (he:starEach (e::es) X.env=(false,eval e X.env)::starEach es X.env) (hpl:(backTo pos<|starEach es X.env).any (·.1)=false)
 (hs:swapsWith (.Call (.Name x p) (e::es) [] pos) none pos'.line X.env=pure false):
 Lw X kd (.Expr (.Call (.Name x p) (e::es) [] pos) pos') (ZJ i fr g):=by
 have h:=LP (n:=0) (i:=i) F hr hg hm hk hb hx ha hdb he hpl hs
 with_unfolding_all exact(xy h λD σ H h=>by
  obtain⟨F,B,ad,as,o,R,e,q⟩:=h;refine⟨F,B,ad,as,o,R,e, ?_⟩;cases o with
  |nx as'=>exact λσ' ad' H' _ R' g'=>q σ' ad' H' R' g'
  |bk as'=>exact λσ' ad' H' _ R' g'=>q σ' ad' H' R' g'
  |ct as'=>exact λσ' ad' H' _ R' g'=>q σ' ad' H' R' g'
  |rt r=>
   obtain⟨_,h1,e1⟩:=bS_<|e;obtain⟨xs,h2,e2⟩:=bS_ e1;obtain⟨a,ka,e3⟩:=bS_ e2;obtain⟨o0,qa,e4⟩:=bS_ e3;obtain⟨r,hgr,e5⟩:=bS_ e4;cases e5)
end
def br(n:Nat)(K:zzA)(kd:KD)(f:SF):TS:=λD σ H=>∃F B ad as as',Rel K kd F B [] ad as σ H/\f as=some (.nx as')/\∀σ' ad' H',(∀i,i<n->σ'[i]? = σ[i]?)->Rel K kd F B [] ad' as' σ' H'->Grow (Gw [] ad) H (Gw [] ad') H'->D.nx σ' H'/\D.rt .non H'
@[irreducible] def lB(X:Cx)(kd:KD)(n:Nat)(st:List Stmt)(f:SF):Prop:=Kt X st<|br n X.K kd f
section
variable{X:Cx}{kd:KD}{n:Nat}{c:Expr}{st:Stmt}{rest:List Stmt}{ta:TF}{f g:SF}{pos pos':Pos}
def F5(hc:AT X kd c ta)(ha:AP X kd n st f)(hb:O7 X kd n rest g):lB X kd n (.If c [st,.Return none pos'] [] pos::rest) (xk ta f g):=by
 with_unfolding_all exact(Zq (ZK (EA hc (ZK ha<|Vn JF) U8) hb) λD σ H h=>by
  obtain⟨F,B,r,as,s,R,e,q⟩:=h;obtain⟨⟨p,a⟩,t,e⟩:=bS_<|e;refine⟨F,B,r,as,p,a,R,t,λd u m o=>?_⟩;cases p with
  |true=>exact⟨F,B,d,a,_,m,e,λi b j k R2 l=>(q i b j k R2<|o.trans l).2⟩
  |false=>exact⟨F,B,d,a,_,m,e,λi b j k R2 l=>(q i b j k R2<|o.trans l).1⟩)
end
noncomputable def W9(n:Nat)(xs:List xi)(o:O):AS:=(xs.map λx=>some<|O.lf x.1 x.2)++some o::List.replicate (n-(xs.length+1)) none
def gL(n m:Nat)(c:SF)(xs:List xi)(o:O):Option O:=if xs.length+1=m then(c<|W9 n xs o).bind λout=>match out with
 | .nx as=>(as[xs.length]?).bind id
 |_=>none
 else none
noncomputable def uk(k:Nat)(T:List Addr):Ad:=λi=>if i=k then T else[]
def QF{k:Nat}:Gw [] (uk k T) a ↔ a ∈ T:=by
 constructor
 . rintro(z|⟨i,z⟩)
   . exact nomatch z
   . unfold uk at z
     by_cases e:i=k
     . rwa [if_pos e]at z
     . rw[if_neg e]at z;exact nomatch z
 . intro z;exact .inr ⟨k,by unfold uk;rwa [if_pos rfl]⟩
theorem U5{K}:∀{vs:List V}{xs:List xi},RpI K kd F B G H vs xs->vs.length=xs.length
 |_,_,.nil=>rfl
 |_,_,.cons _ h=>congrArg Nat.succ<|U5 h
theorem Fu{K}:∀{vs:List V}{xs:List xi}{i:Nat}{x:xi},RpI K kd F B G H vs xs->xs[i]? = some x->∃v,vs[i]? = some v/\Rp K kd (Lv F B G x.1) H v x.2
 |_,_,i,x,.nil,e=>by cases e
 |_,_,0,x,.cons r h,e=>by cases e;exact⟨_,rfl,r⟩
 |_,_,i+1,x,.cons r h,e=>Fu (i:=i) h e
def Eg{K}(hN:xs.length+1<=N.length)(ht:∀a,F a->H a≠none)(hB:∀a,B a->H a≠none/\¬F a/\¬G a)(hG:∀a,G a->H a≠none/\¬F a)(nd:T.Nodup)(hT:∀a ∈ T,G a)
 (rpi:RpI K kd F B G H ws xs) (r0:wC K kd F B G H v o T):Rel K kd F (λa=>B a\/(G a/\a ∉ T)) [] (uk xs.length T) (W9 N.length xs o) (L2.start N<|ws++[v]) H:=by
 have d:=U5 rpi;have k:∀c a,Lv F (λa=>B a\/(G a/\a ∉ T)) (Gw []<|uk xs.length T) c a->Lv F B G c a:=λc a z=>by
  rcases z with(z|z|z)|z
  . exact .inl<|.inl z
  . exact .inl<|.inr z
  . exact .inr z.1
  . exact .inr<|hT a<|QF.mp z
 have b:∀i,i≠xs.length->uk xs.length T i=[]:=λi h=>if_neg h;have f:uk xs.length T xs.length=T:=if_pos rfl;have l:(W9 N.length xs o).length=N.length:=by unfold W9;simp;omega
 have c:L2.start N (ws++[v])=ws.map some++some v::List.replicate (N.length-(xs.length+1)) none:=by
  unfold L2.start;simp[d]
 refine⟨by rw[l,c];simp[d];omega,λi t=>b i (by omega),λi=>?_,λi j a x y=>?_,zyJ,(λ_ _ _ z=>nomatch z),ht,λa z=>?_,λa z=>hG a<|hT a<|QF.mp z,λi s e=>?_⟩
 . by_cases h:i=xs.length
   . subst h;rwa [f]
   . rw[b i h];exact zyJ
 . by_cases h:i=xs.length
   . by_cases g:j=xs.length
     . rw[h,g]
     . rw[b j g]at y;exact nomatch y
   . rw[b i h]at x;exact nomatch x
 . rcases z with z|z
   . exact⟨(hB a z).1,(hB a z).2.1,λy=>(hB a z).2.2<|hT a<|QF.mp y⟩
   . exact⟨(hG a z.1).1,(hG a z.1).2,λy=>z.2<|QF.mp y⟩
 . rw[c];unfold W9 at e
   by_cases h:i<xs.length
   . rw[zyP (by rwa [zzB]),zzI]at e;obtain⟨x,m,rfl⟩:=zzX.mp e;obtain⟨u,n,p⟩:=Fu rpi m;rw[b i (by omega),zyP (by rwa [zzB,d]),zzI,n];exact⟨u,rfl,.lf<|p.less<|k x.1⟩
   . rw[zyR (by rw[zzB];exact q0G d h),zzB]at e;rw[zyR (by rw[zzB,d];exact q0G d h),zzB,d]
     by_cases g:i=xs.length
     . subst g;rw[Nat.sub_self]at e ⊢;cases e;rw[f];exact⟨v,rfl,wC.lv k r0⟩
     . rw[b i g];obtain⟨j,q⟩:∃j,i-xs.length=j+1:=⟨i-xs.length-1,by omega⟩;rw[q]at e;have e:=e;have r:=(List.mem_replicate.mp<|zyA e).2;subst r;rfl
section
variable{P:Program}{w:World}{K:zzA}{mg:Str->Option Value}{base:Heap}
def tL{kd st}{k:Nat}(Fn:Fun K x qual st f fd)(S:FnScope N ps (zH st))(hN:ps.length<=N.length)
 (hb:∀(cdv:Value) (A:Around) (outer:List Env) (s:Shared) (H:Hp) (E:XK),Room k (A.deeper<|envOfC qual (zH st) s.heap.objs.size f cdv)->lB (QL ZP P w K mg base N qual (zH st) f cdv A outer s H E).nox kd ps.length (wH st) c):
 FnOk P w K mg base ZP (k+1) f fd ps (Mv K kd<|gL N.length ps.length c):=by
 with_unfolding_all (
 refine Fn.ok S (λX H Q E h=>?_) λy A j s H X Q E Y h=>⟨_,hb y A j s H E Y, ?_⟩
 . obtain⟨F,B,G,T,I,v,d,o,r,rfl,J,L,M,nd,O,i,U,e,q⟩:=h;unfold gL at e
   by_cases p:d.length+1=ps.length
   . rwa [zzJ,U5 i]
   . rw[if_neg p]at e;cases e
 . obtain⟨F,B,G,T,I,v,d,o,r,rfl,J,L,M,nd,O,i,U,e,q⟩:=h;unfold gL at e
   by_cases p:d.length+1=ps.length
   . rw[if_pos p]at e;obtain⟨C,Z,V⟩:=bS_ e;cases C with
     |nx as=>
      obtain⟨a,k0,e3⟩:=bS_ V;have e4:=e3;subst e4;refine⟨F,_,_,W9 N.length d o,as,Eg ⋯ J L M nd O i U,Z,λσ' b H' sp R g=>?_⟩;obtain⟨u0,W,t0⟩:=R.sl d.length _ k0;rw[sp d.length ⋯]at W;have sv:(L2.start N<|I++[v])[d.length]? = some (some v):=by
       have wl:=U5 i;unfold L2.start;rw[<-wl];simp
      cases(sv.symm.trans W);have l:∀a,a ∈ b d.length->Gw [] b a:=λa z=>.inr ⟨_,z⟩;have lv:∀D a,Lv F B (G1 G T _) D a->Lv F (λa=>B a\/_) _ D a:=λD a z=>by
       rcases z with(z|z)|z|z
       . exact .inl<|.inl z
       . exact .inl<|.inr<|.inl z
       . exact .inl<|.inr<|.inr z
       . exact .inr<|l a z
      have t:=q H' _ (λc u h n=>g.keep c u h λz=>n<|QF.mp z) (R.nd _) (λa m=>(g.own a<|l a m).imp QF.mp id) (λa m=>(R.gtr a<|l a m).1)<|wC.lv lv t0;exact⟨t,t⟩
     |_=>cases V
   . rw[if_neg p]at e;cases e)
end
section
variable{X:Cx}{kd:KD}{n:Nat}
def gy(z)(i:Nat)(hn:n<=i)(hN:X.N.Nodup)(he:AE X kd e fa)(hi:X.N[i]? = some x:=by rfl)(hx:Loc X.env.scope x:=by first|exact Or.inl rfl|exact Or.inr rfl)(hs:swapsWith e (some<|.Name x pos') pos.line X.env=pure false:=by rfl)(hf:X.fn x=true\/X.env.scope.names.lookup x=some .local:=by first|exact Or.inl rfl|exact Or.inr rfl):
 AP X kd n (.Assign [.Name x pos'] e pos) (zm z i fa):=sk hn hN hi hx he hs hf
end
section
variable{P:Program}{w:World}{K:zzA}{mg:Str->Option Value}{base:Heap}{kd:KD}
def Hj{k:Nat}:FnOk P w K mg base ZP k f fd ps (Mv K kd λ_ _=>none):=
 ⟨λc H Q E h=>(by obtain⟨_,_,_,_,_,_,_,_,_,_,_,_,_,_,_,_,_,e,_⟩:=h;cases e),λA a s H b d c Q E _ _ _ _ h=>(by obtain⟨_,_,_,_,_,_,_,_,_,_,_,_,_,_,_,_,_,e,_⟩:=h;cases e)⟩
end
noncomputable def P7(f:EF):EF:=λas=>(f as).bind λp=>some (p.1.frz,p.2)
def qY(h:AE X kd e fa):AE X kd e (P7 fa):=by with_unfolding_all exact(yk h λσ H Q q=>by
 obtain⟨F,B,ad,as,r,as',R,e,k⟩:=q;obtain⟨⟨p,as1⟩,h1,e⟩:=bS_<|e;cases e;exact⟨F,B,ad,as,p,as1,R,h1,λv T' ad' H' R' rv g=>k v [] ad' H' R'.drop (xj.drop R' rv)<|g.trans<|Grow.less Gw.drop⟩)
section
variable{X:Cx}{kd:KD}{P:Program}{w:World}{K:zzA}{a b e o:Expr}{es:List Expr}{fa fb fo:EF}{fr:AF}{fd_:DF}{pos p apos:Pos}{k n:Nat}
def sH(h1:sc.kind = .function:=by rfl)(h2:sc.isCoroutine=false:=by rfl)(h3:sc.isGenerator=false:=by rfl)(h4:N.Nodup:=by decide +kernel)(h5:N.take Ps.length=Ps:=by rfl)(h6:∀x ∈ Ps,sc.names.lookup x=some .local\/sc.names.lookup x=some .cell:=by decide +kernel)(h7:∀y ∈ sc.names,y.2 ≠ .free:=by decide +kernel):FnScope N Ps sc:=⟨h1,h2,h3,h4,h5,h6,h7⟩
def bc(ha:AE X kd a fa)(hr:AA X kd es fr)(hs:isStar a=false:=by rfl):AA X kd (a::es) (aC fa fr):=C_ ha hr<|Gm hs
def bd(ha:AE X kd a fa)(hr:AD X kd es fd_)(hs:isStar a=false:=by rfl):AD X kd (a::es) (dC fa fd_):=IU ha hr<|Gm hs
def bn{op}(ha:AE X kd a fa)(hb:AE X kd b fb):AE X kd (.BinOp a op b pos) (f2 fa fb<|ZM op):=DG (tW op) ha hb
def tc{op}(hkd:sX P w K kd)(hr:Room k X.A)(ha:AE X kd a fa)(hb:AE X kd b fb)(h1:X.prog=P:=by rfl)(h2:X.w=w:=by rfl)(h3:X.K=K:=by rfl)(hm:behindInMarks op b=false:=by exact OH _):AT X kd (.Compare a [op] [b] pos) (fT<|f2 fa fb<|zw op):=uV (Lb (hkd _ h1 h2 h3) (NM hr) op) (JK op) ha hb hm
def ec{op}(hkd:sX P w K kd)(hr:Room k X.A)(ha:AE X kd a fa)(hb:AE X kd b fb)(h1:X.prog=P:=by rfl)(h2:X.w=w:=by rfl)(h3:X.K=K:=by rfl)(hm:behindInMarks op b=false:=by exact OH _):AE X kd (.Compare a [op] [b] pos) (f2 fa fb<|zw op):=DA (Lb (hkd _ h1 h2 h3) (NM hr) op) ha hb hm
def fd(hc:CF X.K kd cs f)(ha:AE X kd a fa)(hb:attributeBase a f X.env (eval a X.env)=eval a X.env:=by rfl):AE X kd (.Attribute a f pos) (f1 fa<|zU cs f):=ui hc ha hb
def bi{id}(hc:ZW X kd (.builtin id) gg)(hm:X.mg x=none)(hv:bootBuiltins x=some (.builtin id))(ha:AA X kd (e::es) fr)(hg:Gl X x:=by rfl)(hn:x≠"__name__":=by exact Bt.n _ rfl)(hdb:(x==("__debug__":Str))=false:=by decide)
 (he:starEach (e::es) X.env=(false,eval e X.env)::starEach es X.env:=by rfl) (hpl:(backTo pos<|starEach es X.env).any (·.1)=false:=by rfl):AE X kd (.Call (.Name x p) (e::es) [] pos) (fP fr gg):=DZ hc hg hm hv ha hn hdb he hpl
def mJ(hc:ZW X kd (.type T) gg)(hm:X.mg x=none)(hv:bootBuiltins x=some (.type T))(ha:AA X kd (e::es) fr)(hg:Gl X x:=by rfl)(hn:x≠"__name__":=by exact Bt.n _ rfl)(hdb:(x==("__debug__":Str))=false:=by decide)
 (he:starEach (e::es) X.env=(false,eval e X.env)::starEach es X.env:=by rfl) (hpl:(backTo pos<|starEach es X.env).any (·.1)=false:=by rfl):AE X kd (.Call (.Name x p) (e::es) [] pos) (fP fr gg):=ub hc hg hm hv ha hn hdb he hpl
def sj(i:Nat){rest}(hN:X.N.Nodup)(he:AE X kd e fa)(h2:E5 X kd rest g)(hi:X.N[i]? = some x:=by rfl)(hx:Loc X.env.scope x:=by first|exact Or.inl rfl|exact Or.inr rfl)(hs:swapsWith e (some<|.Name x pos') pos.line X.env=pure false:=by rfl)(hf:X.fn x=true\/X.env.scope.names.lookup x=some .local:=by first|exact Or.inl rfl|exact Or.inr rfl):
 E5 X kd (.Assign [.Name x pos'] e pos::rest) (zh (zm z i fa) g):=Nj (HF hN hi hx he hs hf) h2
def mt(hT:MT X.prog X.w X.K X.mg X.base kd m k tbl)(hr:Room n X.A)(ho:AE X kd o fo)(ha:AA X kd (e::es) fr)
 (ht:eval (.Call (.Attribute o m apos) (e::es) [] pos) X.env=(do
  let ov <-eval o X.env
  standAt apos.atName
  let(f,first) <-holding [ov] (getMethod ov m pl)
  callWith pos f first (backTo pos<|starEach (e::es) X.env) (backToKw pos<|keywordEach [] X.env)))
 (hn:k<=n:=by omega) (hst:starEach (e::es) X.env=(false,eval e X.env)::starEach es X.env:=by rfl) (hpl:(backTo pos<|starEach es X.env).any (·.1)=false:=by rfl):
 AE X kd (.Call (.Attribute o m apos) (e::es) [] pos) (Z1 tbl m fo fr):=uz hT (hr.mono hn) Uj ho ha hst hpl ht
end
section
variable{K:zzA}{kd:KD}{F B:Addr->Prop}{ad:Ad}{as:AS}{σ:St}{H:Hp}{i:Nat}{c f1 f2:Str}{st:Bool}{w:D}{ts:List O}
def Rel.mks(R:Rel K kd F B [] ad as σ H)(k:as[i]? = some (some<|.nd (.ob c [f1,f2]) [.lf st w,.nd .ls ts])):∃a dx l v1 vs fp,σ[i]? = some (some<|.ref a)/\H a=some (.ins (kd.c c) dx [(f1,v1),(f2,.ref l)])/\Rp K kd (Lv F B (Gw [] ad) st) H v1 w/\H l=some (.lst vs)/\vB K kd F B (Gw [] ad) H vs ts fp/\ad i=a::l::fp:=by
 obtain⟨v,e,d⟩:=R.sl i _ k;generalize f:ad i=g at d;cases d with
 |ob h j t m=>
  have ec:=h.cl_eq;subst ec;cases m with
  |cons n o=>
   cases n with
   |lf p=>
    cases o with
    |cons q r=>
     cases r with
     |nil=>
      cases q with
      |ls s b=>exact⟨_,_,_,_,_,_,e,j,p,s,b,⋯⟩
end
def BV(i:Nat)(cs:List Str)(f:Str):EF:=λas=>match as[i]? with
 |some (some (.nd (.ob c [f1,f2]) [.lf st w,.nd .ls ts]))=>if c ∈ cs/\f=f1 then some (.ow<|.lf st w,as)else none
 |_=>none
def p8(i:Nat)(cs:List Str)(f:Str):EF:=λas=>match as[i]? with
 |some (some (.nd (.ob c [f1,f2]) [.lf st w,.nd .ls ts]))=>if c ∈ cs/\f=f2/\f1≠f2 then some (.ow<|.lf true<|.int ts.length,as)else none
 |_=>none
def nF(i j:Nat)(cs:List Str)(f:Str):SF:=λas=>match as[i]?,as[j]? with
 |some (some (.nd (.ob c [f1,f2]) [.lf st w,.nd .ls ts])),some (some (.lf s d))=>if c ∈ cs/\f=f2/\f1≠f2/\ts.length<sizeLine then some (.nx<|as.set i<|some<|.nd (.ob c [f1,f2]) [.lf st w,.nd .ls<|ts++[.lf s d]])else none
 |_,_=>none
def J2{i:Nat}{cs f as x}(e:BV i cs f as=some x):∃c f2 st w ts,as[i]? = some (some<|.nd (.ob c [f,f2]) [.lf st w,.nd .ls ts])/\c ∈ cs/\x=(.ow<|.lf st w,as):=by
 unfold BV at e;cases hi:as[i]? with
 |none=>rw[hi]at e;cases e
 |some s=>
 rw[hi]at e;cases s with
 |none=>cases e
 |some o=>
 cases o with
 |lf=>cases e
 |nd k os=>
 cases k with
 |ls=>cases e
 |tp=>cases e
 |dc _=>cases e
 |ob c ns=>
 cases ns with
 |nil=>cases e
 |cons f1 ns=>
 cases ns with
 |nil=>cases e
 |cons f2 ns=>
 cases ns with
 |cons=>cases e
 |nil=>
 cases os with
 |nil=>cases e
 |cons a os=>
 cases a with
 |nd=>cases e
 |lf st w=>
 cases os with
 |nil=>cases e
 |cons b os=>
 cases b with
 |lf=>cases e
 |nd k2 ts=>
 cases os with
 |cons=>cases k2<;>cases e
 |nil=>
 cases k2 with
 |tp=>cases e
 |dc _=>cases e
 |ob _ _=>cases e
 |ls=>
  obtain⟨⟨a,b⟩,d⟩:=zr e;subst b;cases d;exact⟨_,_,_,_,_,rfl,a,rfl⟩
def Ia{i:Nat}{cs f as x}(e:p8 i cs f as=some x):∃c f1 st w ts,as[i]? = some (some<|.nd (.ob c [f1,f]) [.lf st w,.nd .ls ts])/\c ∈ cs/\f1≠f/\x=(.ow<|.lf true<|.int ts.length,as):=by
 unfold p8 at e;cases hi:as[i]? with
 |none=>rw[hi]at e;cases e
 |some s=>
 rw[hi]at e;cases s with
 |none=>cases e
 |some o=>
 cases o with
 |lf=>cases e
 |nd k os=>
 cases k with
 |ls=>cases e
 |tp=>cases e
 |dc _=>cases e
 |ob c ns=>
 cases ns with
 |nil=>cases e
 |cons f1 ns=>
 cases ns with
 |nil=>cases e
 |cons f2 ns=>
 cases ns with
 |cons=>cases e
 |nil=>
 cases os with
 |nil=>cases e
 |cons a os=>
 cases a with
 |nd=>cases e
 |lf st w=>
 cases os with
 |nil=>cases e
 |cons b os=>
 cases b with
 |lf=>cases e
 |nd k2 ts=>
 cases os with
 |cons=>cases k2<;>cases e
 |nil=>
 cases k2 with
 |tp=>cases e
 |dc _=>cases e
 |ob _ _=>cases e
 |ls=>
  obtain⟨⟨a,b,d⟩,g⟩:=zr e;subst b;cases g;exact⟨_,_,_,_,_,rfl,a,d,rfl⟩
def JV{i j:Nat}{cs f as x}(e:nF i j cs f as=some x):∃c f1 st w ts s d,as[i]? = some (some<|.nd (.ob c [f1,f]) [.lf st w,.nd .ls ts])/\as[j]? = some (some<|.lf s d)/\c ∈ cs/\f1≠f/\ts.length<sizeLine/\x = .nx (as.set i<|some<|.nd (.ob c [f1,f]) [.lf st w,.nd .ls<|ts++[.lf s d]]):=by
 unfold nF at e;cases hi:as[i]? with
 |none=>rw[hi]at e;cases e
 |some s=>
 rw[hi]at e;cases s with
 |none=>cases e
 |some o=>
 cases o with
 |lf=>cases e
 |nd k os=>
 cases k with
 |ls=>cases e
 |tp=>cases e
 |dc _=>cases e
 |ob c ns=>
 cases ns with
 |nil=>cases e
 |cons f1 ns=>
 cases ns with
 |nil=>cases e
 |cons f2 ns=>
 cases ns with
 |cons=>cases e
 |nil=>
 cases os with
 |nil=>cases e
 |cons a os=>
 cases a with
 |nd=>cases e
 |lf st w=>
 cases os with
 |nil=>cases e
 |cons b os=>
 cases b with
 |lf=>cases e
 |nd k2 ts=>
 cases os with
 |cons=>cases k2<;>cases e
 |nil=>
 cases k2 with
 |tp=>cases e
 |dc _=>cases e
 |ob _ _=>cases e
 |ls=>
  cases hj:as[j]? with
  |none=>rw[hj]at e;cases e
  |some z=>
   rw[hj]at e;cases z with
   |none=>cases e
   |some y=>
    cases y with
    |nd=>cases e
    |lf s d=>
     obtain⟨⟨b,g,h,l⟩,m⟩:=zr e;subst g;cases m;exact⟨_,_,_,_,_,_,_,rfl,rfl,b,h,l,rfl⟩
section
variable{X:Cx}{kd:KD}{i j n:Nat}{cs:List Str}{f x y:Str}{p p' pos apos cpos:Pos}
def nH(hc:CF X.K kd cs f)(ho:PE X (.Name x p) (W5 i))(hb:attributeBase (.Name x p) f X.env (eval (.Name x p) X.env)=eval (.Name x p) X.env):AE X kd (.Attribute (.Name x p) f pos) (BV i cs f):=by
 with_unfolding_all exact(yk (G_ ho hb) λσ H Q h=>by
  obtain⟨F,B,g,as,r,j,R,e,q⟩:=h;obtain⟨c,f2,u,w,v,k,b,e⟩:=J2 e;cases e;obtain⟨a,m,l,d,y,z,n,o,s,A,C,t⟩:=R.mks k;exact⟨.ref a,n,a,_,m,_,d,rfl,o,(hc _ b).1,(hc _ b).2,⋯,q d [] g H R (.lf s) Grow.refl⟩)
def pZ(hc:CF X.K kd cs f)(ho:PE X (.Name x p) (W5 i))(hb:attributeBase (.Name x p) f X.env (eval (.Name x p) X.env)=eval (.Name x p) X.env)(hg:Gl X "len")(hm:X.mg "len"=none)
 (he:starEach [.Attribute (.Name x p) f pos] X.env=(false,eval (.Attribute (.Name x p) f pos) X.env)::starEach [] X.env) (hpl:(backTo cpos<|starEach [] X.env).any (·.1)=false):
 AE X kd (.Call (.Name "len" p') [.Attribute (.Name x p) f pos] [] cpos) (p8 i cs f):=by
 with_unfolding_all exact(yk (RL HG hg hm rfl (Wf (G_ ho hb) RZ he) (by decide) (by decide) he hpl) λσ H Q h=>by
  obtain⟨F,B,ad,as,r,as',R,e,q⟩:=h;obtain⟨c,f1,st,w,ts,k,hm,hne,e⟩:=Ia e;cases e;obtain⟨a,dx,l,v1,vs,fp,hs,hH,rp,hL,rl,hfp⟩:=R.mks k;refine⟨.ref a,hs,a,_,dx,_,.ref l,rfl,hH,(hc _ hm).1,(hc _ hm).2, ?_,.ref l,ts.length,rfl,.inl ⟨vs,.inl<|.inl hL,rl.length.symm⟩,q _ [] ad H R (.lf<|.int _) Grow.refl⟩;rw[List.lookup_cons,beq_eq_false_iff_ne.mpr<|Ne.symm hne];simp)
def oB(hc:CF X.K kd cs f)(ho:PE X (.Name x p) (W5 i))(hy:PE X (.Name y p') (W5 j))(hb:attributeBase (.Name x p) f X.env (eval (.Name x p) X.env)=eval (.Name x p) X.env)
 (hbase:attributeBase (.Attribute (.Name x p) f pos) "append" X.env (eval (.Attribute (.Name x p) f pos) X.env)=eval (.Attribute (.Name x p) f pos) X.env)
 (hfew:((backTo cpos<|starEach [.Name y p'] X.env).all (λx=>!x.1)&&(backToKw cpos<|keywordEach [] X.env).all (λx=>x.1.isSome)
  && decide (([.Name y p']:List Expr).length+([]:List Keyword).length+(if([]:List Keyword).isEmpty then 0 else 1)<30))=true)
 (hline:(apos.endLine==cpos.line)=true) (hst:starEach [.Name y p'] X.env=(false,eval (.Name y p') X.env)::starEach [] X.env) (hplain:(backTo cpos<|starEach [] X.env).any (·.1)=false) {spos}
 (hsw:swapsWith (.Call (.Attribute (.Attribute (.Name x p) f pos) "append" apos) [.Name y p'] [] cpos) none spos.line X.env=pure false):
 AP X kd n (.Expr (.Call (.Attribute (.Attribute (.Name x p) f pos) "append" apos) [.Name y p'] [] cpos) spos) (nF i j cs f):=by
 with_unfolding_all exact(xy (V5 (Aq PySem.F.plainAttrs_list PySem.F.slot_list_append PySem.F.type_list_append Gq (G_ ho hb) (Wf hy RZ hst) hbase hfew hline hst hplain) hsw) λD σ H h=>by
  obtain⟨F,B,g,as,o,R,e,q⟩:=h;obtain⟨c,f1,O,w,E,s,d,k,k',P,G,hz,e⟩:=JV e;subst e;obtain⟨a,Q,l,v1,t,fp,S,T,rp,U,V,r⟩:=R.mks k;obtain⟨v,hj,A⟩:=R.sl j _ k';have hi:=(zzG.mp k).1;generalize hfj:g j=fj at A;cases A with
  |lf I=>
   have nd:=R.nd i;rw[r]at nd;have J:a≠l:=λe=>(zzW.mp nd).1 (by rw[e];exact zzF);have L:=(zzW.mp (zzW.mp nd).2).1;have W:l ∈ g i:=by rw[r];exact zzD _ zzF
   have M:Grow _ H (G1 (Gw [] g) (g i)<|g i) (upd H l<|.lst<|t++[v]):=⟨λb u h n=>by rw[zJ λe=>n<|by subst e;exact .inr ⟨i,W⟩];exact h,λb z=>.inl<|z.elim (λy=>y.1) λy=>.inr ⟨i,y⟩⟩;obtain⟨R2,g2⟩:=R.chg1 (H':=upd H l<|.lst _) hi S (R.nd i) (λa m=>.inl m) (λb u h n=>by rwa [zJ λe=>n<|by subst e;exact W]) (λb m=>by
    by_cases e:b=l
    . subst e;rw[yg];simp
    . rw[zJ e];exact(R.gtr b<|.inr ⟨i,m⟩).1) (by
    have r2:=NQ (Rp.grow M I) E<|vB.grow M (λb m u h=>by rwa [zJ λe=>L<|by subst e;exact m]) V;have Y:=RoL.cons (Ro.lf<|Rp.grow M rp)<|RoL.cons (Ro.ls yg r2) .nil;rw[zyE]at Y;have Z:=Ro.ob (Rp.cl c) (show upd H l _ a=some (.ins (kd.c c) Q<|[f1,f].zip [v1,.ref l]) by rwa [zJ J]) rfl Y;rw[r]
    rwa [r]at Z)
   refine⟨.ref a,S,a,_,Q,_,.ref l,rfl,T,(hc _ P).1,(hc _ P).2, ?_,.inl ⟨rfl,t,.inl<|.inl U⟩,v,hj,l,t,v,rfl,rfl,U,by rw[V.length];exact hz,q σ _ _ (λ_ _=>rfl) R2 g2⟩;rw[List.lookup_cons,beq_eq_false_iff_ne.mpr<|Ne.symm G];simp)
end
noncomputable def nc(n0:List Str):Nat->D->Bool
 |0,_=>false
 |n+1,.tup ds=>ds.all (nc n0 n)
 |n+1,.ob _ ns ds=>decide (ns≠n0)&&ds.all (nc n0 n)
 |_+1,.lst _=>false
 |_+1,.dct _=>false
 |_+1,_=>true
section
variable{K:zzA}{kd:KD}{O:Addr->Prop}{H:Hp}{a l C dx:Addr}{f1 f2:Str}{v1 v2:V}{vs0:List V}
def pV(ha:H a=some (.ins C dx [(f1,v1),(f2,v2)]))(hl:H l=some (.lst vs0)){v d}(h:Rp K kd O H v d):∀n,nc [f1,f2] n d=true->Rp K kd (λz=>O z\/z=a\/z=l) H v d:=
 Rp.rec (motive_2:=λg f _=>∀n,f.all _=true->RpL K kd _ H g f) (motive_3:=λ_ _ _=>True)
  (λ_ _=>.non) (λb _ _=>.bl b) (λi _ _=>.int i) (λx _ _=>.str x)
  (λ{c g f} n h _ r m e=>by
   cases m with
   |zero=>cases e
   |succ m=>
    refine .tup (λz=>z.elim n λq=>?_) h<|r m e
    rcases q with q|q<;>subst q
    . rcases h with h|⟨o,h⟩<;>(rw[ha]at h;cases h)
    . rcases h with h|⟨o,h⟩<;>(rw[hl]at h;cases h))
  (λk p s t u _ r m e=>by
   cases m with
   |zero=>cases e
   |succ m=>exact .tupK k p s t u (r m e))
  (λ_ _ _ _ m e=>by cases m<;>cases e) (λ_ _ _ _ _ m e=>by cases m<;>cases e)
  (λ_ _ _ _ m e=>by cases m<;>cases e) (λ_ _ _ m e=>by cases m<;>cases e) (λc _ _=>.cl c)
  (λ{c w A j g f} n h y _ r m e=>by
   cases m with
   |zero=>cases e
   |succ m=>
    have e:(decide _&&f.all _)=true:=e;rw[zyC]at e;refine .ob (λz=>z.elim n λq=>?_) h y<|r m e.2
    rcases q with q|q<;>subst q
    . rw[ha]at h;injection h with h
      injection h with _ _ h
      have:=List.map_fst_zip (l₁:=j) (l₂:=g) ⋯;rw[<-h]at this;exact of_decide_eq_true e.1 this.symm
    . rw[hl]at h;cases h)
  (λ_ _=>.nil) (λ_ _ h r n e=>by
   rw[List.all_cons,zyC]at e;exact .cons (h n e.1)<|r n e.2) ⋯ (λ_ _ _ _=>⋯) h
end
theorem RpA.less{K kd F F' H}(g:∀a,F' a->F a):∀{vs:List V}{ds:List (Bool×D)},RpA K kd F H vs ds->RpA K kd F' H vs ds
 |_,_,.nil=>.nil
 |_,_,.cons h r=>.cons (h.less λz q=>⟨q.1,g z q.2⟩)<|RpA.less g r
def iW(n0:List Str):O->Bool
 | .lf _ d=>nc n0 60 d
 |_=>false
def Ay(n0:List Str):O->Bool
 | .lf _ d=>nc n0 60 d
 | .nd .ls os=>os.all (iW n0)
 |_=>false
def Ry:Option (Option O)->Option D
 |some (some (.nd (.ob c [f1,f2]) [.lf st w,.nd .ls ts]))=>if st=true/\ts.all O.isLf=true/\O.strs ts=true then some (.ob c [f1,f2] [w,.lst<|O.toDs ts])else none
 |_=>none
noncomputable def gc:D->List Str
 | .ob _ ns _=>ns
 |_=>[]
def Pm{s d}(e:Ry s=some d):∃c f1 f2 w ts,s=some (some<|.nd (.ob c [f1,f2]) [.lf true w,.nd .ls ts])/\ts.all O.isLf=true/\O.strs ts=true/\d = .ob c [f1,f2] [w,.lst<|O.toDs ts]:=by
 unfold Ry at e
 split at e
 . obtain⟨⟨a,b,f⟩,g⟩:=zr e;subst a;cases g;exact⟨_,_,_,_,_,rfl,b,f,rfl⟩
 . cases e
def xa(i:Nat)(tbl:List (Str×Fn))(m:Str)(fr:AF):EF:=λas=>(Ry as[i]?).bind λd0=>(jE m d0).bind λc=>(ES tbl c).bind λg=>(fr as).bind λq=>(Ry q.2[i]?).bind λd=>(Z7 q.2 q.1).bind λx=>(g ((true,d)::x)).bind λo=>if Ay (gc d) o=true then some (.ow o,q.2)else none
section
variable{K:zzA}{kd:KD}{F F' B G:Addr->Prop}{H:Hp}{T:List Addr}{n0:List Str}
def tU(cv:∀v d,nc n0 60 d=true->Rp K kd (XE F' (· ∈ T)) H v d->∀st,Rp K kd (Lv F B G st) H v d){N v o fp}(e:Ay n0 o=true)(h:Ro (λ_ v d=>Rp K kd (XE F' (· ∈ T)) H v d) N H v o fp):wC K kd F B G H v o fp:=by
 cases h with
 |lf r=>exact .lf (cv _ _ e r _)
 |ls a c=>
  refine .ls a ?_;exact RoL.ind (P:=λf b g=>b.all _=true->vB K kd F B G H f b g) (λ_=>.nil) (λh _ i e=>by
   rw[List.all_cons,zyC]at e;cases h with
   |lf r=>exact .cons (.lf<|cv _ _ e.1 r _) (i e.2)
   |_=>cases e.1) c e
 |_=>cases e
end
section
variable{X:Cx}{kd:KD}{e:Expr}{es:List Expr}{fr:AF}{pos apos p:Pos}{m x:Str}{tbl:List (Str×Fn)}{k i:Nat}
def tQ(hT:MT X.prog X.w X.K X.mg X.base kd m k tbl)(hr:Room k X.A){σ H Q t}(ht:∀σ H Q,Iq X.K kd fr σ H Q->t σ H Q)(h:al X.K kd (xa i tbl m fr) σ H Q):Jb X m (W5 i) t σ H Q:=by
 obtain⟨F,B,ad,as,r,as',R,e,q⟩:=h;obtain⟨d0,h0,e⟩:=bS_<|e;obtain⟨c,p,e⟩:=bS_ e;obtain⟨g,h4,e⟩:=bS_ e;obtain⟨⟨rs,G⟩,h5,e⟩:=bS_ e;obtain⟨d,h6,e⟩:=bS_ e;obtain⟨ds,h7,e⟩:=bS_ e;obtain⟨o,h8,e⟩:=bS_ e;obtain⟨I,e⟩:=zr e;cases e;obtain⟨c0,f1,f2,w,ts,k0,_,_,e0⟩:=Pm h0;subst e0;obtain⟨a,dx,l,v1,vs0,fp,Z,hH,_,_,_,_⟩:=R.mks k0;have p:(if m ∈ _ then none else some c0)=some c:=p
 by_cases u:m ∈ [f1,f2]
 . rw[if_pos u]at p;cases p
 rw[if_neg u]at p;cases p;obtain⟨k',f,fd,ps,J,cl,me,F1,b⟩:=hT _ _ h4;refine⟨.ref a,Z,a,_,dx,_,k',f,fd,ps,_,rfl,hH,cl,me, ?_,F1,hr.mono J,b,ht _ _ _ ⟨F,B,ad,as,rs,G,R,h5,λvs j H2 R2 L g2=>?_⟩⟩
 . have:List.lookup m ([f1,f2].zip [v1,V.ref l])=none:=(ZD _ _ _).trans<|VZ u;exact this
 obtain⟨c1,g1,M,w1,ts1,k1,N,O,s⟩:=Pm h6;subst s;obtain⟨a',dx',D,v1',vs',fp',x,y,P,C,S,hfp'⟩:=R2.mks k1;rw[Z]at x;cases x;refine⟨λz=>Lv F B _ true z/\z≠a/\z≠D,_,o,λz n=>R2.trk true z n.1,.cons ?_ ?_,h8,λv T H' u hT U W ro=>?_⟩
 . refine .ob (λz=>z.2.2.1 rfl) y rfl<|.cons (P.less λz q=>q.2.1)<|.cons (.lst (λz=>z.2.2.2 rfl) (.inl C) ?_) .nil;have:=Qq S N;rw[O]at this;exact this.less λz q=>q.2.1
 . exact(U3 R2 L h7).less λz q=>q.1
 . obtain⟨R',g'⟩:=R2.news u hT U W;refine q v T j H' R' (tU (F':=λz=>Lv F B _ true z/\z≠a/\z≠D) (λv d Y rp st=>?_) I ro)<|g2.trans g';refine(pV (U _ _ y) (U _ _ C) rp 60 Y).less λz n=>?_
   by_cases s:z=a
   . exact .inr<|.inl s
   by_cases E:z=D
   . exact .inr<|.inr E
   refine .inl ?_
   rcases n with(n|n)|n|n
   . exact .inl ⟨.inl<|.inl ⟨rfl,n.2⟩,s,E⟩
   . exact .inl ⟨.inl<|.inr n,s,E⟩
   . exact .inr n
   . exact .inl ⟨.inr<|.inr n,s,E⟩
def JM{pl}(hT:MT X.prog X.w X.K X.mg X.base kd m k tbl)(hr:Room k X.A)(hx:vV ZP X λ_ _ _=>False)(ho:PE X (.Name x p) (W5 i))(ha:AA X kd (e::es) fr)
 (hst:starEach (e::es) X.env=(false,eval e X.env)::starEach es X.env) (hpl:(backTo pos<|starEach es X.env).any (·.1)=false)
 (ht:eval (.Call (.Attribute (.Name x p) m apos) (e::es) [] pos) X.env=(do
  let ov <-eval (.Name x p) X.env
  standAt apos.atName
  let(f,first) <-holding [ov] (getMethod ov m pl)
  callWith pos f first (backTo pos<|starEach (e::es) X.env) (backToKw pos<|keywordEach [] X.env))):
 AE X kd (.Call (.Attribute (.Name x p) m apos) (e::es) [] pos) (xa i tbl m fr):=by
 with_unfolding_all exact(yk (N_ ho hx ha hst hpl ht) λσ H Q h=>tQ hT hr (λσ H Q z=>z) h)
end
noncomputable def AL(i:Nat)(cs:List Str)(f:Str)(fe:EF):Bc:=λas=>(fe as).bind λp=>match p.1 with
 | .ow o=>match p.2[i]? with
  |some (some (.nd (.ob c ns) os))=>if c ∈ cs/\f ∉ ns/\ns.length<1000 then some (p.2.set i<|some<|.nd (.ob c<|ns++[f])<|os++[o])else none
  |_=>none
 |_=>none
def FO{i:Nat}{cs:List Str}{f}{r:RV}{as as':AS}(e:(match r with
 | .ow o=>match as[i]? with
  |some (some (.nd (.ob c ns) os))=>if c ∈ cs/\f ∉ ns/\ns.length<1000 then some (as.set i<|some<|.nd (.ob c<|ns++[f])<|os++[o])else none
  |_=>none
 |_=>none)=some as'):∃o c ns os,r = .ow o/\as[i]? = some (some<|.nd (.ob c ns) os)/\c ∈ cs/\f ∉ ns/\ns.length<1000/\as'=as.set i (some<|.nd (.ob c<|ns++[f])<|os++[o]):=by
 split at e
 . split at e
   . obtain⟨⟨a,b,d⟩,g⟩:=zr e;cases g;rename_i k;exact⟨_,_,_,_,rfl,k,a,b,d,rfl⟩
   . cases e
 . cases e
def Sw{X:Cx}{kd e o}{fe:EF}{pos pos' cs n}{j:Nat}(hc:CF X.K kd cs n)(ho:PE X o (W5 j))(he:AE X kd e fe)(hs:swapsWith e (some<|.Attribute o n pos') pos.line X.env=pure false):sO X kd (.Assign [.Attribute o n pos'] e pos) (AL j cs n fe):=by
 with_unfolding_all exact(xy (Oz ho he hs) λD σ H h=>by
  obtain⟨F,B,ad,as,as',R,e,q⟩:=h;obtain⟨⟨p,as1⟩,h1,e⟩:=bS_<|e;obtain⟨o0,c,ns,os,rfl,k1,hm,hf,hz,rfl⟩:=FO e;refine⟨F,B,ad,as,_,as1,R,h1,λv T1 ad1 H1 R1 rv1 g1=>?_⟩;obtain⟨v0,hs0,ro0⟩:=R1.sl j _ k1;refine⟨v0,hs0, ?_⟩;generalize hfp:ad1 j=fp1 at ro0;cases ro0 with
  |ob hC hH hl rl=>
   rename_i l dx C vs fp;have ec:=hC.cl_eq;subst ec;have hnd:=R1.nd j;rw[hfp]at hnd;have rl':vB X.K kd F B _ H1 _ _ _:=rl.append<|RoL.one rv1;refine⟨l,_,dx,_,rfl,hH,(hc _ hm).1,(hc _ hm).2,by rw[List.length_zip,hl,Nat.min_self,<-hl];exact hz, ?_⟩;rw[RC hl hf];have dis:=λa m=>R1.dis j a (by rw[hfp];exact zzD _ m);obtain⟨R4,g4⟩:=R1.mut (n:=.nd (.ob c<|ns++[n]) _) (zzG.mp k1).1 hfp hs0 (fp':=fp++T1) (λa m=>by
    rwa [zyE]at m) (by
    rw[zyE];exact zxC.mpr ⟨(zzW.mp hnd).2,R1.tnd,λa m b m' e=>dis a m<|by rw[e];exact m'⟩) (by rw[hH];simp) λH' G' hl' gr kp=>.ob (.cl c) hl' (by rw[zzJ,zzJ,hl];rfl)<|vB.grow gr kp rl'
   exact q _ _ R4<|g1.trans g4)
abbrev VF:=AS->Option (D×AS)
def bv(n:Nat)(K:zzA)(kd:KD)(f:VF):TS:=λD σ H=>∃F B ad as d as',Rel K kd F B [] ad as σ H/\f as=some (d,as')/\∀σ' ad' H' v,(∀i,i<n->σ'[i]? = σ[i]?)->Rel K kd F B [] ad' as' σ' H'->Grow (Gw [] ad) H (Gw [] ad') H'->Rp K kd (Lv F B (Gw [] ad') true) H' v d->D.rt v H'
@[irreducible] def JD(X:Cx)(kd:KD)(n:Nat)(st:List Stmt)(f:VF):Prop:=Kt X st<|bv n X.K kd f
def gA:RV×AS->Option (D×AS)
 |(.ow (.lf st d),as)=>if st=true\/zB d=true then some (d,as)else none
 |_=>none
def ZO(fe:EF):VF:=λas=>(fe as).bind gA
noncomputable def xN(f:SF)(g:VF):VF:=λas=>(f as).bind λo=>match o with
 | .nx as1=>g as1
 |_=>none
section
variable{X:Cx}{kd:KD}{n:Nat}{e:Expr}{st:Stmt}{rest:List Stmt}{fe:EF}{f:SF}{g:VF}{pos:Pos}
def oi:AP X kd n st IZ:=by with_unfolding_all exact(λa s σ H D I h=>by obtain⟨F,B,b,as,o,R,e,q⟩:=h;cases e)
def Io(he:AE X kd e fe):JD X kd n [.Return (some e) pos] (ZO fe):=by with_unfolding_all exact(Zq (Vn<|Og he) λD σ H h=>by
 obtain⟨F,B,ad,as,d,as',R,e,q⟩:=h;obtain⟨⟨p,as1⟩,h1,e⟩:=bS_<|e
 match p,e,h1 with
 | .ow (.lf st d0),e,h1=>
  obtain⟨hf,e⟩:=zr<|e;cases e;refine⟨F,B,ad,as,_,_,R,h1,λv T' ad' H' R' rv g=>?_⟩;cases rv with
  |lf rp=>exact q σ ad' H' v (λ_ _=>rfl) R' g (hf.elim (λe=>by subst e;exact rp) rp.flat))
def Hz(h1:AP X kd n st f)(h2:JD X kd n rest g):JD X kd n (st::rest) (xN f g):=by with_unfolding_all exact(Zq (ZK h1 h2) λD σ H h=>by
 obtain⟨F,B,l,as,d,a,R,e,q⟩:=h;obtain⟨o,p,e⟩:=bS_<|e;cases o with
 |nx b=>exact⟨F,B,l,as,_,R,p,λA c C r s t=>⟨F,B,c,b,d,a,s,e,λu j w v x R2 y z=>q u j w v (λi k=>(x i k).trans<|r i k) R2 (t.trans y) z⟩⟩
 |_=>cases e)
end
def JO(n m:Nat)(c:VF)(xs:List xi)(o:O):Option (D×O):=if xs.length+1=m then(c<|wj n (o::xs.map M0)).bind λz=>(z.2[0]?).bind λs=>s.bind λr=>if r.str=true then some (z.1,r)else none else none
def spS(K:zzA)(kd:KD)(g:List xi->O->Option (D×O)):Sp:=λvs H Q _=>∃(F:Addr->Prop) (T:List Addr) (v:V) (ws:List V) (xs:List xi) (o:O) (d:D) (r:O),vs=v::ws/\(∀a,F a->H a≠none)/\T.Nodup/\(∀a ∈ T,H a≠none/\¬F a)/\RpI K kd F (λ_=>False) (· ∈ T) H ws xs/\wC K kd F (λ_=>False) (· ∈ T) H v o T/\g xs o=some (d,r)/\
 ∀(u:V) (H':Hp) (T':List Addr),(∀c u,H c=some u->c ∉ T->H' c=some u)->T'.Nodup->(∀a ∈ T',a ∈ T\/H a=none)->(∀a ∈ T',H' a≠none)->wC K kd F (λ_=>False) (· ∈ T') H' v r T'->Rp K kd (Lv F (λ_=>False) (· ∈ T') true) H' u d->Q u H'
section
variable{P:Program}{w:World}{K:zzA}{mg:Str->Option Value}{base:Heap}
def Ql{kd x qual st f fd N ps}{k:Nat}{c}(Fn:Fun K x qual st f fd)(S:FnScope N ps (zH st))(hN:ps.length<=N.length)
 (hb:∀(cdv:Value) (A:Around) (outer:List Env) (s:Shared) (H:Hp) (E:XK),Room k (A.deeper<|envOfC qual (zH st) s.heap.objs.size f cdv)->JD (QL ZP P w K mg base N qual (zH st) f cdv A outer s H E).nox kd 1 (wH st) c):
 FnOk P w K mg base ZP (k+1) f fd ps (spS K kd<|JO N.length ps.length c):=by
 with_unfolding_all (
 refine Fn.ok S (λX H Q E h=>?_) λB A b s H X Q E Y h=>⟨_,hb B A b s H E Y, ?_⟩
 . obtain⟨F,T,v,C,t,o,d,r,rfl,L,M,O,j,U,e,q⟩:=h;obtain⟨V,_⟩:=ite_some'<|e
   rwa [zzT,j.length]
 . obtain⟨F,T,v,C,t,o,d,r,rfl,L,M,O,j,U,e,q⟩:=h;obtain⟨V,Z⟩:=ite_some'<|e;obtain⟨⟨d0,D⟩,e1,z1⟩:=bS_ Z;obtain⟨G,k0,z2⟩:=bS_ z1;obtain⟨r0,e2,z3⟩:=bS_ z2;obtain⟨hr0,z4⟩:=zr z3;subst e2;cases z4;have J:vB K kd F (λ_=>False) (· ∈ T) H (v::C) (o::t.map M0) T:=by
    have:=RoL.cons U<|OJ j
    rwa [zyE]at this
   have R0:=Ri (N:=N) L M O (FK t) (by rw[zzT,zzB];exact q1C V hN) J;have W:∀a,Gw [] (λi=>if i=0 then T else[]) a->a ∈ T:=λa z=>z.elim ⋯ λ⟨i,y⟩=>by
    by_cases e:i=0
    . subst e;simpa using y
    . simp[e]at y
   refine⟨F,λ_=>False,_,wj N.length _,d0,D,R0,e1,λσ' l H' u sp R g rp=>?_⟩;obtain⟨u0,G,t0⟩:=R.sl 0 _ k0;rw[sp 0 ⋯]at G;have sv:(L2.start N (v::C))[0]? = some _:=rfl;cases(sv.symm.trans G);have p:∀a,a ∈ l 0->Gw [] l a:=λa z=>.inr ⟨_,z⟩;exact q u H' _ (λc u h n=>g.keep c u h λz=>n<|W c z) (R.nd _) (λa m=>(g.own a<|p a m).imp (W a) id) (λa m=>(R.gtr a<|p a m).1) (wC.lv (λst a z=>z.imp id<|p a) t0)<|rp.less λa z=>z.imp id<|p a)
end
def Ro.monoS{L L' N N' H}(hL:∀v d,L true v d->L' true v d)(hN:∀a,N a->N' a){v o fp}(s:o.str=true)(h:Ro L N H v o fp):Ro L' N' H v o fp:=
 Ro.rec (motive_2:=λg f b _=>O.strs f=true->RoL L' N' H g f b)
  (λ{i v d} h s=>by have e:=s;subst e;exact .lf<|hL _ _ h) (λh _ r s=>.ls h<|r s) (λh l _ r s=>.dc h l<|r s) (λc h l _ r s=>.ob (hL _ _ c) h l<|r s) (λn h _ r s=>.tp (hN _ n) h<|r s)
  (λ_=>.nil) (λ_ _ h r s=>.cons (h ((zyC _ _).mp s).1)<|r ((zyC _ _).mp s).2) h s
def GE(i:Nat)(as:AS):List RV->Option (List xi)
 | []=>some []
 | .ow o::rs=>(GE i as rs).bind λy=>some ((zB o.toD||o.str,o.toD)::y)
 | .bo j::rs=>(as[j]?).bind λs=>s.bind λo=>if j=i then none else(GE i as rs).bind λy=>some ((false,o.toD)::y)
section
variable{K:zzA}{kd:KD}{F B:Addr->Prop}{ad:Ad}{as:AS}{σ:St}{H:Hp}{i:Nat}
def JC(R:Rel K kd F B [] ad as σ H){vs rs xs}(h:RVs K kd F B ad σ H vs rs)(e:GE i as rs=some xs):RpI K kd (λz=>Lv F B (Gw [] ad) true z/\z ∉ ad i) (λ_=>False) (· ∈ ad i) H vs xs:=by
 induction h generalizing xs with
 |nil=>cases e;exact .nil
 |cons h t l=>
  rename_i v r E q;cases r with
  |ow o=>
   obtain⟨y,f,e⟩:=bS_<|e;cases e;refine .cons ?_<|l f;cases hf:zB o.toD with
   |true=>exact(Qr h).flat hf
   |false=>
    refine(Qg h).less λa z=>?_
    rcases z with(z|z)|z
    . rw[show o.str=true from z.1];exact z.2.1
    . exact z.elim
    . exact .inr (.inr ⟨i,z⟩)
  |bo j=>
   obtain⟨s,k,u⟩:=bS_<|e;obtain⟨o,x,c⟩:=bS_ u;subst x
   by_cases g:j=i
   . rw[if_pos g]at c;cases c
   rw[if_neg g]at c;obtain⟨y,f,A⟩:=bS_ c;cases A;refine .cons ?_<|l f;obtain⟨w,p,C⟩:=R.sl j _ k;rw[h.2]at p;cases p;have ob:∀z,Lv (λz=>Lv F B (Gw [] ad) true z/\z ∉ ad i) (λ_=>False) _ false z->z ∈ ad i:=λz b=>by
    rcases b with(b|b)|b
    . exact nomatch b.1
    . exact b.elim
    . exact b
   exact Ro.rp false (λD v d _ r=>(r).less λz b=>.inr<|.inr ⟨i,ob z b⟩) (λa n z=>n<|.inr<|.inr ⟨i,ob a z⟩) ⋯ (λa m z=>g<|R.inj j i a m<|ob a z) C
end
def qL{K:zzA}{kd:KD}{F B:Addr->Prop}{ad:Ad}{as:AS}{σ:St}{H:Hp}{i:Nat}{T:List Addr}(R:Rel K kd F B [] ad as σ H){a}(z:Gw [] (yP ad i T) a):G1 (Gw [] ad) (ad i) T a:=by
 rcases z with z|⟨k,z⟩
 . exact nomatch z
 . by_cases e:k=i
   . subst e;rw[zL]at z;exact .inr z
   . rw[zO e]at z;exact .inl ⟨.inr ⟨k,z⟩,λy=>e<|R.inj k i a z y⟩
noncomputable def ip(m:Str):Option (Option O)->Option Str
 |some (some (.nd (.ob c ns) _))=>if m ∈ ns then none else some c
 |_=>none
def wX(i:Nat)(c0 m:Str)(g:List xi->O->Option (D×O))(fr:AF):EF:=λas=>(ip m as[i]?).bind λc=>if c=c0 then(fr as).bind λq=>(GE i q.2 q.1).bind λxs=>(q.2[i]?).bind λs=>s.bind λo=>(g xs o).bind λz=>if z.2.str=true then some (.ow<|.lf true z.1,q.2.set i<|some z.2)else none else none
def MS(P:Program)(w:World)(K:zzA)(mg:Str->Option Value)(base:Heap)(kd:KD)(m:Str)(k:Nat)(c:Str)(g:List xi->O->Option (D×O)):Prop:=
 ∃k' f fd ps,k'<=k/\Cls K (kd.c c)/\Meth K (kd.c c) m f/\FnOk P w K mg base ZP k' f fd ps (spS K kd g)/\Binds K fd ps []
section
variable{X:Cx}{kd:KD}{e:Expr}{es:List Expr}{fr:AF}{pos apos p:Pos}{m x c0:Str}{g:List xi->O->Option (D×O)}{k i:Nat}
def se(hT:MS X.prog X.w X.K X.mg X.base kd m k c0 g)(hr:Room k X.A){σ H Q t}(ht:∀σ H Q,Iq X.K kd fr σ H Q->t σ H Q)(h:al X.K kd (wX i c0 m g fr) σ H Q):Jb X m (W5 i) t σ H Q:=by
 obtain⟨F,B,ad,as,r,as',R,e,q⟩:=h;obtain⟨c,h0,e⟩:=bS_<|e;obtain⟨ec,z0⟩:=ite_some' e;subst ec;obtain⟨⟨rs,as2⟩,h5,z1⟩:=bS_ z0;obtain⟨xs,h6,z2⟩:=bS_ z1;obtain⟨s,k2,z3⟩:=bS_ z2;obtain⟨o,e1,z4⟩:=bS_ z3;subst e1;obtain⟨⟨d,r⟩,h7,z5⟩:=bS_ z4;obtain⟨hst,z6⟩:=zr z5;cases z6;obtain⟨ns,os,k0,hn⟩:∃ns os,as[i]? = some (some _)/\m ∉ ns:=by
  unfold ip at h0
  split at h0
  . rename_i c' ns' os' k0
    by_cases hm:m ∈ ns'
    . rw[if_pos hm]at h0;cases h0
    . rw[if_neg hm]at h0;cases h0;exact⟨_,_,k0,hm⟩
  . cases h0
 obtain⟨v,hs,ro⟩:=R.sl i _ k0;generalize hfp:ad i=fp0 at ro;cases ro with
 |ob hC hH hl rl=>
  rename_i a dx C vs0 fp;have ec:=hC.cl_eq;subst ec;obtain⟨k',f,fd,ps,hk',cl,me,F1,b⟩:=hT;refine⟨.ref a,hs,a,_,dx,_,k',f,fd,ps,_,rfl,hH,cl,me,(ZD _ _ _).trans<|VZ hn,F1,hr.mono hk',b,ht _ _ _ ⟨F,B,ad,as,rs,as2,R,h5,λvs ad2 H2 R2 rv2 g2=>?_⟩⟩;obtain⟨v',hv',ro'⟩:=R2.sl i _ k2;rw[hs]at hv';cases hv';have hi:=(zzG.mp k2).1;refine⟨λz=>Lv F B _ true z/\z ∉ ad2 i,ad2 i,.ref a,vs,xs,o,d,r,rfl,λz hz=>R2.trk true z hz.1,R2.nd i,λz mz=>⟨(R2.gtr z<|.inr ⟨i,mz⟩).1,λy=>y.2 mz⟩,JC R2 rv2 h6,wC.lv (λst z hz=>?_) ro',h7,λu H' T' kp nd sub al ro3 rp=>?_⟩
  . rcases hz with(hz|hz)|hz
    . rw[hz.1];exact hz.2.1
    . exact hz.elim
    . exact .inr<|.inr ⟨i,hz⟩
  . have le:∀z,Lv F B (G1 _ _ T') true z->Lv (λz=>Lv F B (Gw [] ad2) true z/\z ∉ ad2 i) (λ_=>False) _ true z:=λz hz=>by
     rcases hz with(hz|hz)|hz|hz
     . exact .inl<|.inl ⟨rfl,.inl<|.inl hz,λy=>(R2.gtr z<|.inr ⟨i,y⟩).2 hz.2⟩
     . exact .inl<|.inl ⟨rfl,.inl<|.inr hz,λy=>(R2.btr z hz).2.2<|.inr ⟨i,y⟩⟩
     . exact .inl<|.inl ⟨rfl,.inr hz.1,hz.2⟩
     . exact .inr hz
    have r0:wC X.K kd F B _ H' _ r T':=Ro.monoS (λv d h=>Rp.less le h) (λz n y=>n<|le z y) hst ro3;obtain⟨R3,g3⟩:=R2.chg1 hi hs nd sub kp al r0;exact q u [] _ H' R3 (.lf<|rp.less λz y=>le z<|y.imp id<|qL R2)<|g2.trans g3
def J0{pl}(hT:MS X.prog X.w X.K X.mg X.base kd m k c0 g)(hr:Room k X.A)(hx:vV ZP X λ_ _ _=>False)(ho:PE X (.Name x p) (W5 i))(ha:AA X kd (e::es) fr)
 (hst:starEach (e::es) X.env=(false,eval e X.env)::starEach es X.env) (hpl:(backTo pos<|starEach es X.env).any (·.1)=false)
 (ht:eval (.Call (.Attribute (.Name x p) m apos) (e::es) [] pos) X.env=(do
  let ov <-eval (.Name x p) X.env
  standAt apos.atName
  let(f,first) <-holding [ov] (getMethod ov m pl)
  callWith pos f first (backTo pos<|starEach (e::es) X.env) (backToKw pos<|keywordEach [] X.env))):
 AE X kd (.Call (.Attribute (.Name x p) m apos) (e::es) [] pos) (wX i c0 m g fr):=by
 with_unfolding_all exact(yk (N_ ho hx ha hst hpl ht) λσ H Q h=>se hT hr (λσ H Q z=>z) h)
end
def og{P w K mg base kd m c}{k k':Nat}{C f fd ps g}(ci:CI K kd mg c C)(me:Meth K C m f)(F:FnOk P w K mg base ZP k' f fd ps (spS K kd g))(b:Binds K fd ps [])(hk:k'<=k:=by decide):MS P w K mg base kd m k c g:=by
 have e:=ci.eq;subst e;exact⟨_,_,_,_,hk,ci.cl,me,F,b⟩
abbrev AN(h:Heap)(T:Nat)(a b c:Value):Prop:=h.get? T=some {cls:=.type "tuple",data:=.seq #[a,b,c]}
structure Z3(h:Heap)(I l1 l2 l3 k:Nat)(f0:Value):Prop where
 z:IsZip h (I+5) (I+3) (I+4) f0
 ti:AN h (I+3) (.ref I) (.ref<|I+1) (.ref<|I+2)
 to:∃a b c,AN h (I+4) a b c
 h1:h.IsListIter I l1 k
 h2:h.IsListIter (I+1) l2 k
 h3:h.IsListIter (I+2) l3 k
section
variable{prog:Program}{w:World}{A:Around}{E:Value->Shared->Prop}{s:Shared}
def GR{T:Nat}{a b c x}{k:Nat}{Q}(hT:AN s.heap T a b c)
 (h:∀h',h'.get? T=some {cls:=.type "tuple",data:=.seq ((#[a,b,c]:Array Value).setIfInBounds k x)}->Heap.SameBut T s.heap h'->Q () {s with heap:=h'}):wpAny (model prog w) A (updateSeq T (·.setIfInBounds k x)) Q E s:=by
 refine wpAny_updateSeq hT rfl<|h _ ?_<|Heap.SameBut.update ..;rw[Heap.get?_update_self _ hT rfl];simp[Obj.mapSeq]
def C5{I l1 l2 l3 k:Nat}{xs ys zs x y z}{Q:Value->Shared->Prop}(d1:l1<I)(d2:l2<I)(d3:l3<I)(Z:Z3 s.heap I l1 l2 l3 k .none)
 (hl1:s.heap.IsList l1 xs) (hl2:s.heap.IsList l2 ys) (hl3:s.heap.IsList l3 zs) (hx:xs[k]? = some x) (hy:ys[k]? = some y) (hw:zs[k]? = some z)
 (hQ:∀h',Z3 h' I l1 l2 l3 (k+1) (rawInt s.heap.objs.size)->AN h' s.heap.objs.size x y z->(∀(c:Nat) o,c<I\/I+5<c->s.heap.get? c=some o->h'.get? c=some o)->Q (.ref s.heap.objs.size) {s with heap:=h'}):
 wpAny (model prog w) A (Builtin.«zip.__next__» ⟨[.ref<|I+5],[]⟩) (λfin s'=>∃v,fin = .done (.ret v)/\Q v s') E s:=by
 obtain⟨t,B,⟨a,b,c,K⟩,h1,h2,h3⟩:=Z;have d:∀{p q:Nat},p<q\/q<p->p≠q:=λh=>q0y h
 show wpAny _ _ (field (.ref<|I+5) 2 >>= _) _ _ _;refine zxD<|wpAny_field t rfl rfl ?_;refine zxD<|wpAny_field t rfl rfl ?_;refine zxD<|wpAny_seqItems B rfl ?_;refine zxD ?_;unfold Builtin.SmallTypes.ownedTupleIsFree;refine zxD<|wpAny_field t rfl (x:=.none) rfl<|zxE ?_;simp only[if_true];refine zxD<|wpAny_rule ?_;refine zxD<|wpAny_field t rfl rfl ?_;refine zxD (wpAny_setField_rec t (by simp) λg1 g V=>?_)
 replace g:IsZip g1 (I+5) (I+3) (I+4) .ellipsis:=g
 refine zxD ?_;simp only[List.zipIdx_cons,List.zipIdx_nil,List.forIn_cons,List.forIn_nil];refine zxD<|zxD<|wpAny_onRaise ?_;have L:=λp o n=>V.extBut p o n;refine zxD<|wpAny_nextOf_list_item (h1.at λo e=>L _ o (d<|(q0f)) e) (hl1.at λo e=>L _ o (d<|(q0m d1)) e) hx λg2 i2 M=>zxE ?_;have W:=λp o n (m:p≠I) e=>M.extBut p o m<|L p o n e;have X:=W _ _ (d<|(q0s)) (d<|by omega) K;refine zxD<|wpAny_seqItems X rfl ?_;refine zxD (GR X λY N F=>?_)
 replace N:AN Y (I+4) x b c:=N
 refine zxD<|wpAny_letGo<|zxE ?_;have O:=λp o n (m:p≠I) r e=>F.extBut p o r<|W p o n m e;have i3:=i2.at λo e=>F.extBut _ o (d<|(q0u)) e;refine zxD<|zxD<|wpAny_onRaise ?_;refine zxD<|wpAny_nextOf_list_item (h2.at λo e=>O _ o (d<|(q0r)) (d<|by omega) (d<|(q0v)) e) (hl2.at λo e=>O _ o (d<|(q0m d2)) (d<|(q1G d2)) (d<|(q1r d2)) e) hy λg4 j4 C=>zxE ?_;have t4:=C.extBut _ _ (d<|by omega) N;refine zxD<|wpAny_seqItems t4 rfl ?_;refine zxD (GR t4 λP R D=>?_)
 replace R:AN P (I+4) x y c:=R
 refine zxD<|wpAny_letGo<|zxE ?_;have S:=λp o n (m:p≠I) r u e=>D.extBut p o r<|C.extBut p o u<|O p o n m r e;have i5:=i3.at λo e=>D.extBut _ o (d<|(q0u))<|C.extBut _ o (d<|by omega) e;have j5:=j4.at λo e=>D.extBut _ o (d<|(q0v)) e;refine zxD<|zxD<|wpAny_onRaise ?_;refine zxD<|wpAny_nextOf_list_item (h3.at λo e=>S _ o (d<|(q0p)) (d<|by omega) (d<|(q1j)) (d<|by omega) e) (hl3.at λo e=>S _ o (d<|(q0m d3)) (d<|(q1G d3)) (d<|(q1r d3)) (d<|by omega) e) hw λg6 l6 i=>zxE ?_;have t6:=i.extBut _ _ (d<|by omega) R;refine zxD<|wpAny_seqItems t6 rfl ?_;refine zxD (GR t6 λf G j=>?_)
 replace G:AN f (I+4) x y z:=G
 refine zxD<|wpAny_letGo<|zxE<|zxE ?_;have k7:=λp o n (m:p≠I) (r:p≠I+4) (u:p≠I+1) (v:p≠I+2) e=>j.extBut p o r<|i.extBut p o v<|S p o n m r u e;have i7:=i5.at λo e=>j.extBut _ o (d<|(q0u))<|i.extBut _ o (d<|by omega) e;have j7:=j5.at λo e=>j.extBut _ o (d<|(q0v))<|i.extBut _ o (d<|by omega) e;have l7:=l6.at λo e=>j.extBut _ o (d<|(q1j)) e;have z7:=j.extBut _ _ (d<|(q0w))<|i.extBut _ _ (d<|by omega)<|D.extBut _ _ (d<|(q0w))<|C.extBut _ _ (d<|by omega)<|F.extBut _ _ (d<|(q0w))<|M.extBut _ _ (d<|(q1m)) g;have u7:=k7 _ _ (d<|(q0q)) (d<|by omega) (d<|by omega) (d<|by omega) (d<|by omega) B;have T:f.objs.size=s.heap.objs.size:=by rw[j.1,i.1,D.1,C.1,F.1,M.1,V.1]
 refine zxD<|wpAny_seqItems G rfl ?_;refine zxD<|wpAny_newTuple ?_;have zl:=zxG z7;refine zxD ?_;unfold Builtin.SmallTypes.ownedTupleHandOut;have z8:IsZip (f.push {cls:=.type "tuple",data:=.seq #[x,y,z]}) (I+5) (I+3) (I+4) .ellipsis:=zxF _ z7;refine zxD (wpAny_setField_rec z8 (by simp) λg9 U q9=>?_)
 replace U:IsZip g9 (I+5) (I+3) (I+4) (rawInt f.objs.size):=U
 refine wpAny_setField_rec U (by simp) λH J q0=>?_
 replace J:IsZip H (I+5) (I+3) (I+4) (rawInt f.objs.size):=J
 have l:∀(c:Nat) o,c≠I+5->f.get? c=some o->H.get? c=some o:=λc o c1 e=>q0.extBut _ _ c1<|q9.extBut _ _ c1<|zxF _ e;have hT:=q0.extBut _ _ (d<|.inr zl)<|q9.extBut _ _ (d<|.inr zl)<|zxH _ rfl;refine zxE ⟨_,rfl, ?_⟩;rw[T]at J hT ⊢;exact hQ H ⟨J,l _ _ (d<|(q0q)) u7,⟨x,y,z,l _ _ (d<|(q0s)) G⟩,i7.at λo e=>l _ o (d<|(q0f)) e,j7.at λo e=>l _ o (d<|(q0r)) e,l7.at λo e=>l _ o (d<|(q0p)) e⟩ hT λc o hc e=>l c o (d<|(q0i hc))<|k7 c o (d<|(q0i hc)) (d<|(q1c hc)) (d<|by omega) (d<|by omega) (d<|by omega) e
def Dk{I l1 l2 l3 k:Nat}{xs Q}(hh:A.handled=none)(d1:l1<I)(Z:Z3 s.heap I l1 l2 l3 k .none)(hl1:s.heap.IsList l1 xs)(hx:xs[k]? = none)
 (hE:∀h' e,(∀(c:Nat) o,c<I\/I+5<c->s.heap.get? c=some o->h'.get? c=some o)->(∃o,h'.get? e=some o/\o.cls = .type "StopIteration")->E (.ref e) {s with heap:=h'}):
 wpAny (model prog w) A (Builtin.«zip.__next__» ⟨[.ref<|I+5],[]⟩) Q E s:=by
 obtain⟨i,m,⟨a,b,c,y⟩,z,J,K⟩:=Z;have g:∀{p q:Nat},p<q\/q<p->p≠q:=λh=>q0y h
 show wpAny _ _ (field _ 2 >>= _) _ _ _;refine zxD<|wpAny_field i rfl rfl ?_;refine zxD<|wpAny_field i rfl rfl ?_;refine zxD<|wpAny_seqItems m rfl ?_;refine zxD ?_;refine zxD<|wpAny_field i rfl rfl<|zxE ?_;refine zxD<|wpAny_rule ?_;refine zxD<|wpAny_field i rfl rfl ?_;refine zxD (wpAny_setField_rec i (by simp) λB d C=>?_)
 replace d:IsZip B (I+5) (I+3) (I+4) .ellipsis:=d
 refine zxD ?_;refine zxD<|zxD<|wpAny_onRaise ?_;have r:=λp o n=>C.extBut p o n;refine zxD<|wpAny_nextOf_list_end hh (z.at λo e=>r _ o (g<|(q0f)) e) (hl1.at λo e=>r _ o (g<|(q0m d1)) e) hx λD e u F=>?_;obtain⟨G,f,j⟩:=F;have l:=u _ _ (g<|(q1m)) d;have t:e≠I+5:=λx=>by subst x;rw[l]at f;cases f;simp at j
 refine wpAny_setField_rec l (by simp) λH _ v=>hE H e (λc o L x=>v.extBut _ _ (g<|(q0i L))<|u _ _ (g<|(q1c L))<|r c o (g<|(q0i L)) x) ⟨G,v.extBut _ _ t f,j⟩
end
section
variable{prog:Program}{w:World}{A:Around}{E:Value->Shared->Prop}{s:Shared}
def SZ{I l1 l2 l3 k:Nat}{xs ys zs x y z Q}(d1:l1<I)(d2:l2<I)(d3:l3<I)(Z:Z3 s.heap I l1 l2 l3 k .none)
 (hl1:s.heap.IsList l1 xs) (hl2:s.heap.IsList l2 ys) (hl3:s.heap.IsList l3 zs) (hx:xs[k]? = some x) (hy:ys[k]? = some y) (hw:zs[k]? = some z)
 (hQ:∀h',Z3 h' I l1 l2 l3 (k+1) (rawInt s.heap.objs.size)->AN h' s.heap.objs.size x y z->(∀(c:Nat) o,c<I\/I+5<c->s.heap.get? c=some o->h'.get? c=some o)->Q (some<|.ref s.heap.objs.size) {s with heap:=h'}):
 wpAny (model prog w) A (pyNext<|.ref<|I+5) Q E s:=by
 have hT:s.TypeIs (.ref _) "zip":=⟨_,Z.z,rfl⟩;exact zxD<|wpAny_attempt<|wpAny_callSpecial?_slot hT PySem.F.slot_zip_next<|zxL PySem.F.slot_zip_next hT PySem.F.entry_zip_next (C5 d1 d2 d3 Z hl1 hl2 hl3 hx hy hw λh' a1 a2 a3=>zxE<|hQ h' a1 a2 a3)<|PySem.F.args_zip_next_1 _
def Ow{I l1 l2 l3 k:Nat}{xs Q}(hh:A.handled=none)(d1:l1<I)(Z:Z3 s.heap I l1 l2 l3 k .none)(hl1:s.heap.IsList l1 xs)(hx:xs[k]? = none)
 (hQ:∀h',(∀(c:Nat) o,c<I\/I+5<c->s.heap.get? c=some o->h'.get? c=some o)->Q none {s with heap:=h'}):wpAny (model prog w) A (pyNext<|.ref<|I+5) Q E s:=by
 have hT:s.TypeIs (.ref _) "zip":=⟨_,Z.z,rfl⟩;refine zxD<|wpAny_attempt<|wpAny_callSpecial?_slot hT PySem.F.slot_zip_next<|zxL PySem.F.slot_zip_next hT PySem.F.entry_zip_next (Dk hh d1 Z hl1 hx λh' e hk he=>?_)<|PySem.F.args_zip_next_1 _;obtain⟨o,ho,hc⟩:=he;refine zxD<|wpAny_isInstance ⟨o,ho,hc⟩ isSubtype_stop ?_;exact zxE<|hQ _ hk
end
noncomputable abbrev n4(h:Heap)(l1 l2 l3:Nat):Heap:=zipH1 (zipH2 h l1 l2) l3
abbrev n5(h:Heap)(l1 l2 l3:Nat):Heap:=(n4 h l1 l2 l3).push {cls:=.type "tuple",data:=.seq #[.ref h.objs.size,.ref (zipH1 h l1).objs.size,.ref (zipH2 h l1 l2).objs.size]}
abbrev nV(h:Heap)(l1 l2 l3:Nat):Heap:=(n5 h l1 l2 l3).push {cls:=.type "tuple",data:=.seq #[.none,.none,.none]}
abbrev uZ(h:Heap)(l1 l2 l3:Nat):Heap:=(nV h l1 l2 l3).push {cls:=.type "zip",data:=.fields #[.none,.bool false,.bool false,.ref (n4 h l1 l2 l3).objs.size,.ref (n5 h l1 l2 l3).objs.size]}
set_option maxHeartbeats 4000000 in
def tO(l1 l2 l3:Nat)(xs ys zs):Meets (Builtin.«zip.__new__» ⟨[.type "zip",.ref l1,.ref l2,.ref l3],[]⟩) (λ_ R s=>s.heap.IsList l1 xs/\s.heap.IsList l2 ys/\s.heap.IsList l3 zs/\
 R (.ok<|.ret<|.ref (nV s.heap l1 l2 l3).objs.size) {s with heap:=uZ s.heap l1 l2 l3}):=
 .of_wp λprog w A R s h=>by
  obtain⟨hp,g,d,tk,os⟩:=s;obtain⟨hl1,hl2,hl3,h⟩:=h;have hsub:=sub_zip;have hL1:=hl1;have hL2:Heap.IsList (Shared.heap ⟨hp.push {cls:=.type "list_iterator",data:=.fields #[.ref l1,.int 0 0]},g,d,tk,os⟩) l2 ys:=Heap.IsList.push hl2 _;have hL3:Heap.IsList (Shared.heap ⟨(hp.push {cls:=.type "list_iterator",data:=.fields #[.ref l1,.int 0 0]}).push {cls:=.type "list_iterator",data:=.fields #[.ref l2,.int 0 0]},g,d,tk,os⟩) l3 zs:=Heap.IsList.push (Heap.IsList.push hl3 _) _
  wp_walk using wpAny_pyIter_list hL1,wpAny_pyIter_list hL2,wpAny_pyIter_list hL3
  exact⟨_,rfl,h⟩
def CK(a b c):checkTypeCall "zip" ⟨[a,b,c],[]⟩=pure ():=⋯
theorem Cd(a b c):checkBuiltinCall "zip.__new__" ⟨[.type "zip",a,b,c],[]⟩=pure ():=by kernel_rfl
def Ih(a b c d):argsOk "object.__init__" ⟨[a,b,c,d],[]⟩:=⋯
def BW{prog w A E s}{l1 l2 l3:Nat}{xs ys zs Q}(hl1:s.heap.IsList l1 xs)(hl2:s.heap.IsList l2 ys)(hl3:s.heap.IsList l3 zs)
 (h:∀h',Z3 h' s.heap.objs.size l1 l2 l3 0 .none->(∀c o,s.heap.get? c=some o->h'.get? c=some o)->Q (.ref<|s.heap.objs.size+5) {s with heap:=h'}):
 wpAny (model prog w) A (call (.type "zip") [.ref l1,.ref l2,.ref l3]) Q E s:=by
 refine callType_new PySem.F.called_zip (by decide) (CK _ _ _) (Cd _ _ _) (λobj=>Ih obj _ _ _) PySem.F.entry_zip_new (tO l1 l2 l3 xs ys zs) ⟨hl1,hl2,hl3, ?_⟩;have z1:(zipH1 s.heap l1).objs.size=s.heap.objs.size+1:=zxJ ..;have z2:(zipH2 s.heap l1 l2).objs.size=s.heap.objs.size+2:=by rw[zxJ,z1]
 have z3:(n4 s.heap l1 l2 l3).objs.size=s.heap.objs.size+3:=by rw[zxJ,z2]
 have z4:(n5 s.heap l1 l2 l3).objs.size=s.heap.objs.size+4:=by rw[zxJ,z3]
 have z5:(nV s.heap l1 l2 l3).objs.size=s.heap.objs.size+5:=by rw[zxJ,z4]
 have g6:(uZ s.heap l1 l2 l3).get? (nV s.heap l1 l2 l3).objs.size=some _:=zxH _ rfl;have g5:(uZ s.heap l1 l2 l3).get? (n5 s.heap l1 l2 l3).objs.size=some _:=zxF _<|zxH _ rfl;have g4:(uZ s.heap l1 l2 l3).get? (n4 s.heap l1 l2 l3).objs.size=some _:=zxF _<|zxF _<|zxH _ rfl;have g3:(uZ s.heap l1 l2 l3).get? (zipH2 s.heap l1 l2).objs.size=some _:=zxF _<|zxF _<|zxF _<|zxH _ rfl;have g2:(uZ s.heap l1 l2 l3).get? (zipH1 s.heap l1).objs.size=some _:=zxF _<|zxF _<|zxF _<|zxF _<|zxH _ rfl;have g1:(uZ s.heap l1 l2 l3).get? s.heap.objs.size=some _:=zxF _<|zxF _<|zxF _<|zxF _<|zxF _<|zxH _ rfl;rw[z3,z4,z5]at g6;rw[z4]at g5;rw[z1,z2,z3]at g4;rw[z2]at g3;rw[z1]at g2;rw[z5];exact⟨⟨_,g6,rfl⟩,h _ ⟨g6,g4,⟨_,_,_,g5⟩,⟨_,g1,rfl,rfl⟩,⟨_,g2,rfl,rfl⟩,⟨_,g3,rfl,rfl⟩⟩ λc o x=>zxF _<|zxF _<|zxF _<|zxF _<|zxF _<|zxF _ x⟩
def uE(K:zzA)(a b c:Addr):It:=
 ⟨λi H=>∃xs ys zs x y z,Xo K H a xs/\Xo K H b ys/\Xo K H c zs/\xs[i]? = some x/\ys[i]? = some y/\zs[i]? = some z,
  λi H v H'=>∃T x y z,H T=none/\v = .ref T/\H'=upd H T (.tup [x,y,z])/\(∀xs,Xo K H a xs->xs[i]? = some x)/\(∀ys,Xo K H b ys->ys[i]? = some y)/\∀zs,Xo K H c zs->zs[i]? = some z,
  λi H=>∃xs,Xo K H a xs/\xs.length<=i⟩
def GX{I c:Nat}:c ∈ [I+5,I+3,I+4,I,I+1,I+2] ↔ I<=c/\c<=I+5:=by
 simp;omega
def Bu{P w K elts}{kk:Nat}{pos}(a b c I:Nat)(d1:a<I)(d2:b<I)(d3:c<I):Turn P w K (.Tuple elts kk pos) (uE K a b c) [I+5,I+3,I+4,I,I+1,I+2] (I+5) (λi h=>Z3 h I a b c i .none)where
 mem:=by simp
 obj:=λi h st d hd=>by
  obtain⟨hz,hTI,⟨p,q,r,hTO⟩,⟨o1,e1,c1,f1⟩,⟨o2,e2,c2,f2⟩,⟨o3,e3,c3,f3⟩⟩:=st;simp at hd
  rcases hd with rfl|rfl|rfl|rfl|rfl|rfl
  . exact⟨_,hz,λv z=>by cases z⟩
  . exact⟨_,hTI,λv z=>by cases z⟩
  . exact⟨_,hTO,λv z=>by cases z⟩
  . exact⟨o1,e1,λv z=>by rw[f1]at z;cases z⟩
  . exact⟨o2,e2,λv z=>by rw[f2]at z;cases z⟩
  . exact⟨o3,e3,λv z=>by rw[f3]at z;cases z⟩
 keep:=λi h h' st k=>by
  obtain⟨hz,hTI,⟨p,q,r,hTO⟩,h1,h2,h3⟩:=st;exact⟨k _ (by simp) _ hz,k _ (by simp) _ hTI,⟨p,q,r,k _ (by simp) _ hTO⟩,h1.at λo e=>k _ (by simp) o e,h2.at λo e=>k _ (by simp) o e,h3.at λo e=>k _ (by simp) o e⟩
 item:=by
  intro X hP hw hK hc i pins s σ H E I' hf st hg;subst hP hw hK;obtain⟨xs,ys,zs,x,y,z,hq,hr,hs,hx,hy,hz⟩:=hg;obtain⟨its,rv,p,_⟩:=I'.list hq;obtain⟨jts,rv',p',_⟩:=I'.list hr;obtain⟨kts,rv'',p'',_⟩:=I'.list hs;obtain⟨u,hu,ru⟩:=rv.get hx;obtain⟨u',hu',ru'⟩:=rv'.get hy;obtain⟨u'',hu'',ru''⟩:=rv''.get hz;refine SZ d1 d2 d3 st p.isList p'.isList p''.isList (by simpa using hu) (by simpa using hu') (by simpa using hu'') λh1 hZ hT k1=>?_;refine⟨_,rfl,wpAny_letOwnedTupleGo_zip hZ.z λh2 hz2 q2=>?_⟩;have zl:I+5<s.heap.objs.size:=zxG st.z;have nq:∀{p q:Nat},p<q\/q<p->p≠q:=λh=>q0y h
  have hn:=I'.hok.fresh<|zzN _;have k2:∀c o,c ∉ [I+5,I+3,I+4,I,I+1,I+2]->s.heap.get? c=some o->h2.get? c=some o:=λc o hc e=>by
   rw[GX]at hc;exact q2.extBut c o (nq<|by omega)<|k1 c o (q1d hc) e
  have hT2:IsTup h2 s.heap.objs.size #[u,u',u'']:=⟨_,q2.extBut _ _ (nq<|.inr zl) hT,rfl,_,rfl⟩;obtain⟨_,t2,⟨ta,tb,tc,t3⟩,t4,t5,t6⟩:=hZ;refine⟨.ref s.heap.objs.size,upd H s.heap.objs.size<|.tup [x,y,z],Vj (s:=s) (t':=s.toks) I' hf k2 (zzN _) ⟨by show 3<=sizeLine;decide,[u,u',u''],.cons ru<|.cons ru'<|.cons ru'' .nil,hT2⟩,rfl,⟨_,x,y,z,hn,rfl,rfl,λq hq'=>by rw[I'.list_inj hq' hq];exact hx,λq hq'=>by rw[I'.list_inj hq' hr];exact hy,λq hq'=>by rw[I'.list_inj hq' hs];exact hz⟩,⟨hz2,q2.extBut _ _ (nq<|(q0q)) t2,⟨ta,tb,tc,q2.extBut _ _ (nq<|(q0s)) t3⟩,t4.at λo e=>q2.extBut _ o (nq<|(q0f)) e,t5.at λo e=>q2.extBut _ o (nq<|(q0r)) e,t6.at λo e=>q2.extBut _ o (nq<|(q0p)) e⟩,λd hd=>?_⟩;have hd':=GX.mp hd;rw[zJ<|nq<|by omega];exact(hf d hd).1
 done:=by
  intro X hP hw hK hc i pins s σ H E I' hf st hg;subst hP hw hK;obtain⟨xs,hq,hx⟩:=hg;obtain⟨its,rv,p,_⟩:=I'.list hq;have hl:=rv.length;refine Ow (I'.ok.hd hc) d1 st p.isList (by simp;exact q0h hl hx) λh' k=>⟨rfl,Pz (t':=s.toks) I' hf λc o hc e=>k c o ?_ e⟩;rw[GX]at hc;exact q1d hc
 self:=λ_ _ _ _ _ st h=>wpAny_pyIter_zip st.z h
section
variable{X:Cx}
def DB(K:zzA)(ta:TA):TI:=λσ H R=>ta σ H λvs H1=>∃a b c,vs=[.ref a,.ref b,.ref c]/\(∃xs,Xo K H1 a xs)/\(∃ys,Xo K H1 b ys)/\(∃zs,Xo K H1 c zs)/\R (uE K a b c) H1
def Ik{l l' l'' ta p pos pos' elts}{k:Nat}(hg:Gl X "zip")(hm:X.mg "zip"=none)(ha:PA X [l,l',l''] ta)(hs:starEach [l,l',l''] X.env=(false,eval l X.env)::starEach [l',l''] X.env)(hs2:(backTo pos<|starEach [l',l''] X.env).any (·.1)=false):
 PI X (.Tuple elts k pos') (.Call (.Name "zip" p) [l,l',l''] [] pos) (DB X.K ta):=by
 intro pins s σ H R I h;refine Call_<|W_ I hg hm boot_zip<|PyProof.Rows.callWith_type1 (wA (ha pos pins s σ H _ I h) λus s1 ⟨vs,H1,I1,r1,q1⟩=>?_) hs hs2;obtain⟨a,b,c,rfl,⟨xs,hq⟩,⟨ys,hr⟩,⟨zs,ht⟩,q⟩:=q1;cases r1 with
 |cons r rr=>
  cases rr with
  |cons r' rr=>
   cases rr with
   |cons r'' rr=>
    cases rr;cases r;cases r';cases r'';obtain⟨its,rv,pl,hz⟩:=I1.list hq;obtain⟨jts,rw',pl',hz'⟩:=I1.list hr;obtain⟨kts,rx',pl'',hz''⟩:=I1.list ht;obtain⟨o1,ho1,_⟩:=pl.isList;obtain⟨o2,ho2,_⟩:=pl'.isList;obtain⟨o3,ho3,_⟩:=pl''.isList;refine BW pl.isList pl'.isList pl''.isList λh' hZ hk=>?_;refine wpAny_pyIter_zip hZ.z ⟨_,_,_,_,H1,rfl,I1.kept (t':=s1.toks) hk,Bu a b c s1.heap.objs.size (zxG ho1) (zxG ho2)<|zxG ho3,hZ,λd hd=>?_,q⟩;have hb':s1.heap.objs.size<=d:=(GX.mp hd).1;exact I1.fpOk hb'<|I1.hok.fresh hb'
end
noncomputable def Y6(st:Bool):List D->List D->List D->List xi
 |x::r,y::t,z::u=>(st,.tup [x,y,z])::Y6 st r t u
 |_,_,_=>[]
theorem Qy(st):∀(xs ys zs:List D),xs.length=ys.length->ys.length=zs.length->(Y6 st xs ys zs).length=xs.length
 | [],_,_,_,_=>⋯
 |_::_,[],_,h,_=>by simp at h
 |_::_,_::_,[],_,h=>by simp at h
 |_::r,_::t,_::u,h,h'=>by
  simp only[Y6,zzT]at h h' ⊢;rw[Qy st r t u ⋯ ⋯]
theorem TU{st}:∀{xs ys zs:List D}{i:Nat}{y:xi},(Y6 st xs ys zs)[i]? = some y->∃d e f,xs[i]? = some d/\ys[i]? = some e/\zs[i]? = some f/\y=(st,.tup [d,e,f])
 | [],_,_,_,_,h=>by simp[Y6]at h
 |_::_,[],_,_,_,h=>by simp[Y6]at h
 |_::_,_::_,[],_,_,h=>by simp[Y6]at h
 |x::r,y::t,z::u,0,w,h=>by
  cases h;exact⟨x,y,z,rfl,rfl,rfl,rfl⟩
 |x::r,y::t,z::u,i+1,w,h=>by
  simp only[Y6]at h;obtain⟨d,e,f,h1,h2,h3,h4⟩:=TU h;exact⟨d,e,f,⋯,⋯,⋯,h4⟩
noncomputable def qD:List RV->Option (RV×RV×RV)
 | [a,b,c]=>some (a,b,c)
 |_=>none
def E1(fr:AF):IF:=λas=>(fr as).bind λp=>(qD p.1).bind λo=>(nX o.1).bind λa=>(nX o.2.1).bind λb=>(nX o.2.2).bind λc=>if a.2.length=b.2.length/\b.2.length=c.2.length then some (Y6 (a.1&&(b.1&&c.1)) a.2 b.2 c.2,p.2)else none
def JY{l a b c}(h:qD l=some (a,b,c)):l=[a,b,c]:=by
 match l,h with
 | [a,b,c],h=>cases h;rfl
section
variable{X:Cx}{kd:KD}
def Sx{K F H a b c vs ws us st ds es fs}(ft:∀a,F a->H a≠none)(hs:∀H3:Hp,(∀b u,H b=some u->H3 b=some u)->Xo K H3 a vs)(hs':∀H3:Hp,(∀b u,H b=some u->H3 b=some u)->Xo K H3 b ws)(hs'':∀H3:Hp,(∀b u,H b=some u->H3 b=some u)->Xo K H3 c us)
 (r:RpL K kd (λa=>st=true/\F a) H vs ds) (r':RpL K kd (λa=>st=true/\F a) H ws es) (r'':RpL K kd (λa=>st=true/\F a) H us fs) (q1:ds.length=es.length) (q2:es.length=fs.length):ItC K kd F H (uE K a b c) (Y6 st ds es fs):=⟨λH3 T k hT i=>by
 have hr3:=hs H3 k;have hr4:=hs' H3 k;have hr5:=hs'' H3 k;have hlen:=Qy st ds es fs q1 q2;have l1:=r.length;refine⟨λhi=>?_,λhi=>⟨_,hr3,⋯⟩,λv H4 hy=>?_⟩
 . obtain⟨u,hu,_⟩:=r.get<|zzE (show i<ds.length by omega);obtain⟨u',hu',_⟩:=r'.get<|zzE (show i<es.length by omega);obtain⟨u'',hu'',_⟩:=r''.get<|zzE (show i<fs.length by omega);exact⟨_,_,_,u,u',u'',hr3,hr4,hr5,hu,hu',hu''⟩
 . obtain⟨A,x,y,z,hn,rfl,rfl,hv,hv',hv''⟩:=hy;have hnH:H A=none:=by
    cases e:H A with
    |none=>rfl
    |some u=>rw[k A u e]at hn;cases hn
   refine⟨wD hn,λq hq=>?_⟩;obtain⟨d,e,f,hd,he,hf,rfl⟩:=TU hq;obtain⟨u,hu,ru⟩:=r.get hd;obtain⟨u',hu',ru'⟩:=r'.get he;obtain⟨u'',hu'',ru''⟩:=r''.get hf;have e1:=hv _ hr3;rw[hu]at e1;cases e1;have e2:=hv' _ hr4;rw[hu']at e2;cases e2;have e3:=hv'' _ hr5;rw[hu'']at e3;cases e3;have up:∀{v:V}{d:D},Rp K kd (λa=>st=true/\F a) H v d->Rp K kd (λa=>st=true/\(F a\/T a)) (upd H3 A<|.tup [x,y,z]) v d:=λrp=>
    (rp.since (λb o q=>wD hn b o<|k b o q) λa z=>(hT a z).1).less λa z=>z.2.elim (λy=>.inl ⟨z.1,y⟩) .inr
   exact .tup (λz=>z.2.elim (λy=>ft A y hnH) λy=>(hT A y).2 hn) (.inl yg)<|.cons (up ru)<|.cons (up ru')<|.cons (up ru'') .nil⟩
def Ii{l l' l'' fr p pos pos' elts}{k:Nat}(hg:Gl X "zip")(hm:X.mg "zip"=none)(ha:AA X kd [l,l',l''] fr)(hs:starEach [l,l',l''] X.env=(false,eval l X.env)::starEach [l',l''] X.env)(hs2:(backTo pos<|starEach [l',l''] X.env).any (·.1)=false):
 Jd X kd (.Tuple elts k pos') (.Call (.Name "zip" p) [l,l',l''] [] pos) (E1 fr):=by
 with_unfolding_all (
 intro pins s σ H R I h;obtain⟨F,B,ad,as,ds,as',Rl,e',q⟩:=h;obtain⟨⟨rs,as1⟩,h1,z1⟩:=bS_<|e';obtain⟨⟨o1,o2,o3⟩,e1,z2⟩:=bS_ z1;obtain⟨⟨s1,d1⟩,e2,z3⟩:=bS_ z2;obtain⟨⟨s2,d2⟩,e3,z4⟩:=bS_ z3;obtain⟨⟨s3,d3⟩,e4,z5⟩:=bS_ z4;obtain⟨⟨q1,q2⟩,z6⟩:=zr z5;cases JY e1;cases Ee e2;cases Ee e3;cases Ee e4;cases z6;refine Ik hg hm ha hs hs2 pins s σ H R I ⟨F,B,ad,as,_,as1,Rl,h1,λvs ad1 H1 R1 rv1 g1=>?_⟩;cases rv1 with
 |cons r1 rr=>
  cases rr with
  |cons r2 rr=>
   cases rr with
   |cons r3 rr=>
    cases rr;have ls:∀{st:Bool}{l:List D},Ck (.ow<|.lf st<|.lst l)=some _:=rfl;obtain⟨a,vs,rfl,sa,ka,ra⟩:=YV (ls) r1;obtain⟨b,ws,rfl,sb,kb,rb⟩:=YV (ls) r2;obtain⟨c,us,rfl,sc,kc,rc⟩:=YV (ls) r3;refine⟨a,b,c,rfl,⟨_,sa⟩,⟨_,sb⟩,⟨_,sc⟩,q _ ad1 H1 R1 g1<|Sx (R1.trk true) (λH3 k=>ka H3 λb u n h=>k b u h) (λH3 k=>kb H3 λb u n h=>k b u h) (λH3 k=>kc H3 λb u n h=>k b u h) (ra.less λa z=>?_) (rb.less λa z=>?_) (rc.less λa z=>?_) q1 q2⟩
    . have z1:=(Bool.and_eq_true_iff.mp z.1).1;rw[z1];exact z.2
    . have z1:=(Bool.and_eq_true_iff.mp (Bool.and_eq_true_iff.mp z.1).2).1;rw[z1];exact z.2
    . have z1:=(Bool.and_eq_true_iff.mp (Bool.and_eq_true_iff.mp z.1).2).2;rw[z1];exact z.2)
end
noncomputable def Hm:List Str->List Str->List (Option Nat)->List Str
 |t::ts,XN,none::c=>t::Hm ts XN c
 | [],XN,none::c=>""::Hm [] XN c
 |ts,XN,some j::c=>XN.getD j ""::Hm ts XN c
 |_,_,[]=>[]
noncomputable def o6:Expr->Str
 | .Name x _=>x
 |_=>""
def Al:Expr->List Str
 | .Tuple es _ _=>es.map o6
 |e=>[o6 e]
noncomputable def sV:Nat->List (Option Nat)->List Nat
 |_,[]=>[]
 |k,none::c=>k::sV (k+1) c
 |k,some _::c=>sV (k+1) c
theorem Mp:∀(c d:List (Option Nat)) (i:Nat),i ∈ sV d.length c->(d++c)[i]? = some none
 | [],_,_,h=>nomatch h
 |none::c,d,i,h=>by
  have ih:=Mp c (d++[none]) i;rw[zzJ,zxA]at ih
  rcases zzC.mp (h)with rfl|h
  . simp
  . exact ih h
 |some x::c,d,i,h=>by
  have ih:=Mp c (d++[some x]) i;rw[zzJ,zxA]at ih;exact ih h
def Hs{cap}:(sV 0 cap).all (λi=>cap[i]? == some none)=true:=List.all_eq_true.mpr λi m=>by
 have:=Mp cap [] i m;rw[List.nil_append]at this;rw[this];rfl
def gu{N:List Str}(h:decide N.Nodup=true):N.Nodup:=of_decide_eq_true h
section
variable{X:Cx}{kd:KD}{elt tg iter e:Expr}{es ifs:List Expr}{scope:Scope}{pos p:Pos}{cap:List (Option Nat)}{g:GF}{tt:TF}{fe:EF}{fi:IF}{S:List Nat}{fr:AF}{k n:Nat}
def iO{a}{i:Nat}{gs}(h1:AG X kd a [i] g)(h2:A4 X kd es S gs)(hs:(assignEach (a::es) X.env).map (·.2)=assign a X.env::(assignEach es X.env).map (·.2):=by rfl):A4 X kd (a::es) (i::S) (yQ g gs):=VT h1 h2 hs
def sM(X:Cx)(kd:KD)(tg:Expr)(g:GF):Prop:=∃S,AG X kd tg S g
def Oi(X:Cx)(kd:KD)(es:List Expr)(gs:Ao):Prop:=∃S,A4 X kd es S gs
def lU(i:Nat){x}(hN:X.N.Nodup)(hi:X.N[i]? = some x:=by rfl)(hx:Loc X.env.scope x:=by first|exact Or.inl rfl|exact Or.inr rfl)(hf:X.fn x=true\/X.env.scope.names.lookup x=some .local:=by first|exact Or.inl rfl|exact Or.inr rfl):sM X kd (.Name x pos) (gN i):=⟨_,FJ hN hi hx hf⟩
def ke{gs}{j m:Nat}(h:Oi X kd es gs)(hc:X.calm=true:=by rfl)(hn:(assignEach es X.env).length=m:=by rfl)(hst:(assignEach es X.env).findIdx? (·.1)=none:=by rfl):sM X kd (.Tuple es j pos) (gT m gs):=h.elim λ_ h=>⟨_,Mm hc h hn hst⟩
def lP{a gs}(h1:sM X kd a g)(h2:Oi X kd es gs)(hs:(assignEach (a::es) X.env).map (·.2)=assign a X.env::(assignEach es X.env).map (·.2):=by rfl):Oi X kd (a::es) (yQ g gs):=h1.elim λ_ h1=>h2.elim λ_ h2=>⟨_,VT h1 h2 hs⟩
def lK:Oi X kd [] Yu:=⟨_,Lp⟩
def i8{body f}(hi:AI X kd tg iter fi)(hg:sM X kd tg g)(hb:E5 X kd body f)(hp:PassesOwn (model X.prog X.w) X.A X.env X.xe:=by exact PassesOwn.never)(hc:X.calm=true:=by rfl)(hs:∀x,foldedSetIterable iter X.env x=pure x:=by exact λ_=>rfl):Lw X kd (.For tg iter body [] pos) (yx fi g f):=hg.elim λ_ hg=>uA hp hc hi hg hb hs
def kJ(he:AE X kd e fe)(hg:sM X kd tg g)(hs:swapsWithSole [tg] e pos.line X.env=pure false:=by rfl)(hw:swappedStores [tg] e X.env=pure none:=by rfl)(h1:(assignEach [tg] X.env).map (·.2)=[assign tg X.env]:=by rfl):Lw X kd (.Assign [tg] e pos) (YI fe g):=hg.elim λ_ hg=>DQ he hg hs hw h1
theorem cm(hi:Jd X kd tg iter fi)(hg:∀cl s H fp,AG (yN X (Hm (Al tg) X.N cap) scope cl s H fp) kd tg (sV 0 cap) g)(ht:∀cl s H fp,B1 (yN X (Hm (Al tg) X.N cap) scope cl s H fp) ifs<|Jq X.K kd tt)(he:∀cl s H fp,AE (yN X (Hm (Al tg) X.N cap) scope cl s H fp) kd elt fe)
 (hc:X.calm=true:=by rfl) (hk:scope.kind = .function:=by rfl) (hcap:Q2 (Hm (Al tg) X.N cap) X.N scope.names X.env.scope.names cap=true:=by kernel_rfl) (hs:∀x,foldedSetIterable iter X.env x=pure x:=by exact λ_=>rfl):AE X kd (.ListComp elt [⟨tg,iter,ifs,0⟩] scope pos) (zX fi cap g tt fe):=Je hc hi hk hcap Hs hg ht he hs
theorem iy{z}{i:Nat}{y py spos}(hN:X.N.Nodup)(hi:Jd X kd tg iter fi)(hg:∀cl s H fp,AG (yN X (Hm (Al tg) X.N cap) scope cl s H fp) kd tg (sV 0 cap) g)(ht:∀cl s H fp,B1 (yN X (Hm (Al tg) X.N cap) scope cl s H fp) ifs<|Jq X.K kd tt)(he:∀cl s H fp,AE (yN X (Hm (Al tg) X.N cap) scope cl s H fp) kd elt fe)
 (hiy:X.N[i]? = some y:=by rfl) (hy:Loc X.env.scope y:=by first|exact Or.inl rfl|exact Or.inr rfl) (hf:X.fn y=true\/X.env.scope.names.lookup y=some .local:=by first|exact Or.inl rfl|exact Or.inr rfl) (hsw:swapsWith (.ListComp elt [⟨tg,iter,ifs,0⟩] scope pos) (some<|.Name y py) spos.line X.env=pure true:=by rfl)
 (hc:X.calm=true:=by rfl) (hk:scope.kind = .function:=by rfl) (hcap:Q2 (Hm (Al tg) X.N cap) X.N scope.names X.env.scope.names cap=true:=by kernel_rfl) (hs:∀x,foldedSetIterable iter X.env x=pure x:=by exact λ_=>rfl):Lw X kd (.Assign [.Name y py] (.ListComp elt [⟨tg,iter,ifs,0⟩] scope pos) spos) (zm z i<|zX fi cap g tt fe):=Jl hN hiy hy hf hsw hc hi hk hcap Hs hg ht he hs
end
section
variable{K:zzA}{kd:KD}{F B:Addr->Prop}{ad:Ad}{as:AS}{σ:St}{H H':Hp}
def Rel.chg2{i j:Nat}{o0 o1}{v0 v1}{T0 T1}(R:Rel K kd F B [] ad as σ H)(hij:i≠j)(hi:i<as.length)(hj:j<as.length)(s0:σ[i]? = some (some v0))(s1:σ[j]? = some (some v1))(nd:(T0++T1).Nodup)
 (sub:∀a ∈ T0++T1,a ∈ ad i++ad j\/H a=none) (kp:∀c u,H c=some u->c ∉ ad i++ad j->H' c=some u) (al:∀a ∈ T0++T1,H' a≠none)
 (r0:wC K kd F B (G1 (Gw [] ad) (ad i++ad j)<|T0++T1) H' v0 o0 T0) (r1:wC K kd F B (G1 (Gw [] ad) (ad i++ad j)<|T0++T1) H' v1 o1 T1):
 Rel K kd F B [] (yP (yP ad i T0) j T1) ((as.set i<|some o0).set j<|some o1) σ H'/\Grow (Gw [] ad) H (Gw []<|yP (yP ad i T0) j T1) H':=by
 have ai:yP (yP ad i T0) j T1 i=T0:=by rw[zO hij,zL]
 have aj:yP (yP ad i T0) j T1 j=T1:=zL;have ak:∀k,k≠i->k≠j->yP (yP ad i T0) j T1 k=ad k:=λk h1 h2=>by rw[zO h2,zO h1]
 have off:∀k a,k≠i->k≠j->a ∈ ad k->a ∉ ad i++ad j:=λk a h1 h2 m z=>(zzM.mp z).elim (λy=>h1<|R.inj k i a m y) λy=>h2<|R.inj k j a m y;have gw:∀a,Gw [] (yP (yP ad i T0) j T1) a->G1 (Gw [] ad) (ad i++ad j) (T0++T1) a:=λa z=>by
  rcases z with z|⟨k,z⟩
  . exact nomatch z
  . by_cases e:k=i
    . subst e;rw[ai]at z;exact .inr<|zzP _ z
    . by_cases e':k=j
      . subst e';rw[aj]at z;exact .inr<|zzL _ z
      . rw[ak k e e']at z;exact .inl ⟨.inr ⟨k,z⟩,off k a e e' z⟩
 have nin:=λk a h1 h2 m z=>(sub a z).elim (off k a h1 h2 m) λy=>(R.gtr a<|.inr ⟨k,m⟩).1 y;have g:Grow (Gw [] ad) H _ H':=⟨λb o h n=>kp b o h λz=>n<|(zzM.mp z).elim (λy=>.inr ⟨i,y⟩) λy=>.inr ⟨j,y⟩,λb z=>(gw b z).elim (λy=>.inl y.1) λy=>(sub b y).elim (λx=>.inl<|(zzM.mp x).elim (λy=>.inr ⟨i,y⟩) λy=>.inr ⟨j,y⟩) .inr⟩;have kn:∀a,H a≠none->a ∉ ad i++ad j->H' a≠none:=λa h n=>by
  cases e:H a with
  |none=>exact absurd e h
  |some u=>rw[kp a u e n];simp
 obtain⟨n0,n1,n2⟩:=zxC.mp nd;have own:∀a,a ∈ ad i++ad j->Gw [] ad a:=λa z=>(zzM.mp z).elim (λy=>.inr ⟨i,y⟩) λy=>.inr ⟨j,y⟩;refine⟨⟨by rw[zzU,zzU];exact R.len,λk hk=>?_,λk=>?_,λk l a h1 h2=>?_,zyJ,(λ_ _ _ z=>nomatch z),λa z=>kn a (R.ftr a z) λy=>(R.gtr a<|own a y).2 z,λa z=>?_,λa z=>?_,λk s e=>?_⟩,g⟩
 . rw[zzU,zzU]at hk;rw[ak k (q0Q hi hk)<|(q0Q hj hk)];exact R.out k hk
 . by_cases e:k=i
   . subst e;rwa [ai]
   . by_cases e':k=j
     . subst e';rwa [aj]
     . rw[ak k e e'];exact R.nd k
 . by_cases e:k=i
   . subst e;rw[ai]at h1
     by_cases e':l=k
     . exact e'.symm
     . by_cases e2:l=j
       . subst e2;rw[aj]at h2;exact absurd rfl<|n2 a h1 a h2
       . rw[ak l e' e2]at h2;exact absurd (zzP _ h1)<|nin l a e' e2 h2
   . by_cases e':k=j
     . subst e';rw[aj]at h1
       by_cases e2:l=k
       . exact e2.symm
       . by_cases e3:l=i
         . subst e3;rw[ai]at h2;exact absurd rfl<|n2 a h2 a h1
         . rw[ak l e3 e2]at h2;exact absurd (zzL _ h1)<|nin l a e3 e2 h2
     . rw[ak k e e']at h1
       by_cases e2:l=i
       . subst e2;rw[ai]at h2;exact absurd (zzP _ h2)<|nin k a e e' h1
       . by_cases e3:l=j
         . subst e3;rw[aj]at h2;exact absurd (zzL _ h2)<|nin k a e e' h1
         . rw[ak l e2 e3]at h2;exact R.inj k l a h1 h2
 . obtain⟨h1,h2,h3⟩:=R.btr a z;refine⟨kn a h1 λy=>h3<|own a y,h2,λy=>(gw a y).elim (λx=>h3 x.1) λx=>(sub a x).elim (λw=>h3<|own a w) h1⟩
 . rcases gw a z with⟨y,n⟩|y
   . exact⟨kn a (R.gtr a y).1 n,(R.gtr a y).2⟩
   . exact⟨al a y,(sub a y).elim (λw=>(R.gtr a<|own a w).2) λw f=>R.ftr a f w⟩
 . by_cases e1:k=j
   . subst e1;rw[zyK<|by rwa [zzU]]at e;cases e;rw[aj];exact⟨v1,s1,wC.lv (λst a z=>z.imp id<|gw a) r1⟩
   . rw[zzY λz=>e1 z.symm]at e
     by_cases e2:k=i
     . subst e2;rw[zyK hi]at e;cases e;rw[ai];exact⟨v0,s0,wC.lv (λst a z=>z.imp id<|gw a) r0⟩
     . rw[zzY λz=>e2 z.symm]at e;rw[ak k e2 e1];exact(R.sl k s e).grow g λa m u h=>kp a u h<|off k a e2 e1 m
end
noncomputable def ins{α:Type}:Nat->α->α->List α->List α
 |0,x,y,r=>x::y::r
 |c+1,x,y,w::r=>w::ins c x y r
 |_+1,_,_,[]=>[]
theorem Vr{α:Type}{x y:α}:∀{c:Nat}{r:List α},c<=r.length->(ins c x y r).length=r.length+2
 |0,r,_=>rfl
 |c+1,w::r,h=>by show(ins c x y r).length+1=r.length+1+2;rw[Vr<|Nat.le_of_succ_le_succ h]
noncomputable def SQ(c:Nat)(T0 T1:List Addr):Ad:=λk=>if k=c then T0 else if k=c+1 then T1 else[]
def NH{c:Nat}{T0 T1:List Addr}:SQ c T0 T1 c=T0:=if_pos rfl
def Nw{c:Nat}{T0 T1:List Addr}:SQ c T0 T1 (c+1)=T1:=by unfold SQ;rw[if_neg ⋯,if_pos rfl]
def RJ{c k:Nat}{T0 T1:List Addr}(h:k≠c)(h':k≠c+1):SQ c T0 T1 k=[]:=by unfold SQ;rw[if_neg h,if_neg h']
def rj{c k:Nat}{T0 T1:List Addr}:SQ (c+1) T0 T1 (k+1)=SQ c T0 T1 k:=by
 unfold SQ
 by_cases e:k=c
 . rw[if_pos e,if_pos ⋯]
 . by_cases e':k=c+1
   . rw[if_neg e,if_pos e',if_neg ⋯,if_pos ⋯]
   . rw[if_neg e,if_neg e',if_neg ⋯,if_neg ⋯]
def K7{c:Nat}{T0 T1:List Addr}{a}:Gw [] (SQ c T0 T1) a ↔ a ∈ T0++T1:=by
 constructor
 . rintro(z|⟨k,z⟩)
   . exact nomatch z
   . by_cases e:k=c
     . subst e;rw[NH]at z;exact zzP _ z
     . by_cases e':k=c+1
       . subst e';rw[Nw]at z;exact zzL _ z
       . rw[RJ e e']at z;exact nomatch z
 . intro z
   rcases zzM.mp z with z|z
   . exact .inr ⟨c,by rwa [NH]⟩
   . exact .inr ⟨c+1,by rwa [Nw]⟩
section
variable{K:zzA}{kd:KD}{F B G:Addr->Prop}{H:Hp}{v0 v1:V}{o0 o1:O}{T0 T1:List Addr}
def Jx{ws:List V}{xs:List xi}(h:RpI K kd F B G H ws xs):∀{k:Nat}{o:O},(xs.map M0)[k]? = some o->∃v,ws[k]? = some v/\wC K kd F B G H v o []:=by
 induction h with
 |nil=>intro k o e;simp at e
 |cons a _ ih=>
  intro k o e;cases k with
  |zero=>cases e;exact⟨_,rfl,.lf a⟩
  |succ k=>exact ih e
theorem Sk(r0:wC K kd F B G H v0 o0 T0)(r1:wC K kd F B G H v1 o1 T1):∀{c:Nat}{ws:List V}{xs:List xi}{k:Nat}{o:O},RpI K kd F B G H ws xs->c<=xs.length->(ins c o0 o1<|xs.map M0)[k]? = some o->∃v,(ins c v0 v1 ws)[k]? = some v/\wC K kd F B G H v o (SQ c T0 T1 k)
 |0,ws,xs,k,o,h,hc,e=>by
  match k,e with
  |0,e=>cases e;exact⟨v0,rfl,r0⟩
  |1,e=>cases e;exact⟨v1,rfl,r1⟩
  |k+2,e=>
   obtain⟨v,h1,h2⟩:=Jx h e;exact⟨v,h1,h2⟩
 |c+1,ws,xs,k,o,h,hc,e=>by
  cases h with
  |nil=>exact absurd hc ⋯
  |cons a t=>
   cases k with
   |zero=>cases e;exact⟨_,rfl,.lf a⟩
   |succ k=>
    obtain⟨v,h1,h2⟩:=Sk r0 r1 t (Nat.le_of_succ_le_succ hc) e;exact⟨v,h1,by rwa [rj]⟩
def RpI.len{ws:List V}{xs:List xi}(h:RpI K kd F B G H ws xs):ws.length=xs.length:=by
 induction h with
 |nil=>rfl
 |cons _ _ ih=>exact congrArg _ ih
def Mi{N:List Str}{c:Nat}{ws:List V}{xs:List xi}(ht:∀a,F a->H a≠none)(nd:(T0++T1).Nodup)(hT:∀a ∈ T0++T1,H a≠none/\¬F a)(hN:xs.length+2<=N.length)(hc:c<=xs.length)(rp:RpI K kd F (λ_=>False) (· ∈ T0++T1) H ws xs)
 (r0:wC K kd F (λ_=>False) (· ∈ T0++T1) H v0 o0 T0) (r1:wC K kd F (λ_=>False) (· ∈ T0++T1) H v1 o1 T1):
 Rel K kd F (λ_=>False) [] (SQ c T0 T1) (wj N.length<|ins c o0 o1<|xs.map M0) (L2.start N<|ins c v0 v1 ws) H:=by
 have wl:=rp.len;have l1:(ins c o0 o1<|xs.map M0).length=xs.length+2:=by rw[Vr (by rwa [zzB]),zzB]
 have l2:(ins c v0 v1 ws).length=xs.length+2:=by rw[Vr<|by omega];omega
 obtain⟨n0,n1,n2⟩:=zxC.mp nd;refine⟨by unfold wj L2.start;simp[l1,l2],λi hi=>?_,λi=>?_,λi j a x y=>?_,zyJ,⋯,ht,(λ_ z=>z.elim),λa z=>hT a<|K7.mp z,λi s e=>?_⟩
 . have:N.length<=i:=by unfold wj at hi;simp[l1]at hi;omega
   exact RJ (by omega) (by omega)
 . by_cases e:i=c
   . subst e;rwa [NH]
   . by_cases e':i=c+1
     . subst e';rwa [Nw]
     . rw[RJ e e'];exact zyJ
 . by_cases e:i=c
   . subst e;rw[NH]at x
     by_cases f:j=i
     . exact f.symm
     . by_cases f':j=i+1
       . subst f';rw[Nw]at y;exact absurd rfl<|n2 a x a y
       . rw[RJ f f']at y;exact nomatch y
   . by_cases e':i=c+1
     . subst e';rw[Nw]at x
       by_cases f:j=c
       . subst f;rw[NH]at y;exact absurd rfl<|n2 a y a x
       . by_cases f':j=c+1
         . exact f'.symm
         . rw[RJ f f']at y;exact nomatch y
     . rw[RJ e e']at x;exact nomatch x
 . unfold wj at e;unfold L2.start
   by_cases k:i<(ins c o0 o1<|xs.map M0).length
   . rw[zyP (by rwa [zzB]),zzI]at e;obtain⟨o,k1,k2⟩:=zzX.mp e;subst k2;obtain⟨v,h1,h2⟩:=Sk r0 r1 rp hc k1;rw[zyP (by rw[zzB];omega),zzI,h1];exact⟨v,rfl,wC.lv (λst a z=>z.imp id K7.mp) h2⟩
   . rw[zyR<|by rw[zzB];omega]at e;have ea:=(List.mem_replicate.mp<|zyA e).2;subst ea;exact RJ (by omega) (by omega)
end
def qN(c n m:Nat)(f:VF)(xs:List xi)(o0 o1:O):Option (D×O×O):=if xs.length+2=m/\c<=xs.length then(f<|wj n<|ins c o0 o1<|xs.map M0).bind λz=>(z.2[c]?).bind λa=>a.bind λr0=>(z.2[c+1]?).bind λb=>b.bind λr1=>if r0.str=true/\r1.str=true then some (z.1,r0,r1)else none else none
def spT(c:Nat)(K:zzA)(kd:KD)(g:List xi->O->O->Option (D×O×O)):Sp:=λvs H Q _=>∃(F:Addr->Prop) (T0 T1:List Addr) (v0 v1:V) (ws:List V) (xs:List xi) (o0 o1:O) (d:D) (r0 r1:O),vs=ins c v0 v1 ws/\(∀a,F a->H a≠none)/\(T0++T1).Nodup/\(∀a ∈ T0++T1,H a≠none/\¬F a)/\RpI K kd F (λ_=>False) (· ∈ T0++T1) H ws xs/\wC K kd F (λ_=>False) (· ∈ T0++T1) H v0 o0 T0/\wC K kd F (λ_=>False) (· ∈ T0++T1) H v1 o1 T1/\g xs o0 o1=some (d,r0,r1)/\
 ∀(u:V) (H':Hp) (T0' T1':List Addr),(∀c u,H c=some u->c ∉ T0++T1->H' c=some u)->(T0'++T1').Nodup->(∀a ∈ T0'++T1',a ∈ T0++T1\/H a=none)->(∀a ∈ T0'++T1',H' a≠none)->wC K kd F (λ_=>False) (· ∈ T0'++T1') H' v0 r0 T0'->wC K kd F (λ_=>False) (· ∈ T0'++T1') H' v1 r1 T1'->Rp K kd (Lv F (λ_=>False) (· ∈ T0'++T1') true) H' u d->Q u H'
theorem H9{α:Type}{x y:α}:∀{c:Nat}{r:List α},c<=r.length->(ins c x y r)[c]? = some x/\(ins c x y r)[c+1]? = some y
 |0,r,_=>⟨rfl,rfl⟩
 |c+1,w::r,h=>H9 (r:=r)<|Nat.le_of_succ_le_succ h
section
variable{P:Program}{w:World}{K:zzA}{mg:Str->Option Value}{base:Heap}
def SM{kd x qual st f fd N ps}{k:Nat}(c:Nat){b}(Fn:Fun K x qual st f fd)(S:FnScope N ps (zH st))(hN:ps.length<=N.length)
 (hb:∀(cdv:Value) (A:Around) (outer:List Env) (s:Shared) (H:Hp) (E:XK),Room k (A.deeper<|envOfC qual (zH st) s.heap.objs.size f cdv)->JD (QL ZP P w K mg base N qual (zH st) f cdv A outer s H E).nox kd (c+2) (wH st) b):
 FnOk P w K mg base ZP (k+1) f fd ps (spT c K kd<|qN c N.length ps.length b):=by
 with_unfolding_all (
 refine Fn.ok S (λX H Q E h=>?_) λB A b s H X Q E Y h=>⟨_,hb B A b s H E Y, ?_⟩
 . obtain⟨F,T0,T1,v0,v1,ws,xs,o0,o1,d,r0,r1,rfl,ht,nd,hT,rp,q0,q1,e,q⟩:=h;obtain⟨⟨V,W⟩,_⟩:=ite_some'<|e;rw[Vr (by rw[rp.len];exact W),rp.len];exact V
 . obtain⟨F,T0,T1,v0,v1,ws,xs,o0,o1,d,r0,r1,rfl,ht,nd,hT,rp,q0,q1,e,q⟩:=h;obtain⟨⟨V,W⟩,Z⟩:=ite_some'<|e;obtain⟨⟨d0,D⟩,e1,z1⟩:=bS_ Z;obtain⟨a,k0,z2⟩:=bS_ z1;obtain⟨s0,e2,z3⟩:=bS_ z2;obtain⟨b',k1,z4⟩:=bS_ z3;obtain⟨s1,e3,z5⟩:=bS_ z4;obtain⟨⟨h0,h1⟩,z6⟩:=zr z5;subst e2 e3;cases z6;have R0:=Mi (N:=N) (c:=c) ht nd hT (by omega) W rp q0 q1;refine⟨F,λ_=>False,_,wj N.length _,d0,D,R0,e1,λσ' l H' u sp R g rp'=>?_⟩;obtain⟨u0,G0,t0⟩:=R.sl c _ k0;obtain⟨u1,G1,t1⟩:=R.sl (c+1) _ k1;rw[sp c<|by omega]at G0;rw[sp (c+1)<|by omega]at G1;have iv:=H9 (x:=v0) (y:=v1) (c:=c) (r:=ws) (by rw[rp.len];exact W);have il:(ins c v0 v1 ws).length=ws.length+2:=Vr (by rw[rp.len];exact W);have wl:=rp.len;have sv0:(L2.start N<|ins c v0 v1 ws)[c]? = some (some v0):=by
    unfold L2.start;rw[zyP (by rw[zzB];omega),zzI,iv.1];rfl
   have sv1:(L2.start N<|ins c v0 v1 ws)[c+1]? = some (some v1):=by
    unfold L2.start;rw[zyP (by rw[zzB];omega),zzI,iv.2];rfl
   cases(sv0.symm.trans G0);cases(sv1.symm.trans G1);have own:∀a,a ∈ l c++l (c+1)->Gw [] l a:=λa z=>(zzM.mp z).elim (λy=>.inr ⟨_,y⟩) λy=>.inr ⟨_,y⟩;exact q u H' (l c) (l<|c+1) (λc u h n=>g.keep c u h λz=>n<|K7.mp z) (zxC.mpr ⟨R.nd _,R.nd _,λa m b m' z=>absurd (R.inj c (c+1) a m<|z ▸ m')<|by omega⟩) (λa m=>(g.own a<|own a m).imp K7.mp id) (λa m=>(R.gtr a<|own a m).1) (wC.lv (λst a z=>z.imp id<|own a) t0) (wC.lv (λst a z=>z.imp id<|own a) t1)<|rp'.less λa z=>z.imp id<|own a)
end
noncomputable def sF:Nat->Nat->Nat->List RV->Option (List RV)
 |0,i,j,.bo a :: .bo b::r=>if a=i/\b=j then some r else none
 |c+1,i,j,r::rs=>(sF c i j rs).bind λt=>some (r::t)
 |_,_,_,_=>none
def Fz(i j:Nat)(as:AS):List RV->Option (List xi)
 | []=>some []
 | .ow o::rs=>(Fz i j as rs).bind λy=>some ((zB o.toD||o.str,o.toD)::y)
 | .bo k::rs=>(as[k]?).bind λs=>s.bind λo=>if k=i\/k=j then none else(Fz i j as rs).bind λy=>some ((false,o.toD)::y)
section
variable{K:zzA}{kd:KD}{F B:Addr->Prop}{ad:Ad}{as:AS}{σ:St}{H:Hp}{i j:Nat}
theorem EX:∀{c:Nat}{vs:List V}{rs rs':List RV},RVs K kd F B ad σ H vs rs->sF c i j rs=some rs'->∃v0 v1 ws,vs=ins c v0 v1 ws/\c<=rs'.length/\σ[i]? = some (some v0)/\σ[j]? = some (some v1)/\RVs K kd F B ad σ H ws rs'
 |0,vs,rs,rs',h,e=>by
  match rs,h,e with
  | .bo a :: .bo b::r,.cons h0 (.cons h1 t),e=>
   obtain⟨⟨rfl,rfl⟩,e'⟩:=zr<|e;cases e';exact⟨_,_,_,rfl,Nat.zero_le _,h0.2,h1.2,t⟩
 |c+1,vs,rs,rs',h,e=>by
  match rs,h,e with
  |r::rs,.cons h0 t,e=>
   obtain⟨t',e1,e⟩:=bS_<|e;cases e;obtain⟨v0,v1,ws,rfl,hl,s0,s1,t2⟩:=EX t e1;exact⟨v0,v1,_::ws,rfl,Nat.succ_le_succ hl,s0,s1,.cons h0 t2⟩
def CM(R:Rel K kd F B [] ad as σ H){vs rs xs}(h:RVs K kd F B ad σ H vs rs)(e:Fz i j as rs=some xs):RpI K kd (λz=>Lv F B (Gw [] ad) true z/\z ∉ ad i++ad j) (λ_=>False) (· ∈ ad i++ad j) H vs xs:=by
 have own:∀a,a ∈ ad i++ad j->Gw [] ad a:=λa z=>(zzM.mp z).elim (λy=>.inr ⟨_,y⟩) λy=>.inr ⟨_,y⟩
 induction h generalizing xs with
 |nil=>cases e;exact .nil
 |cons h t l=>
  rename_i v r E q;cases r with
  |ow o=>
   obtain⟨y,f,e⟩:=bS_<|e;cases e;refine .cons ?_<|l f;cases hf:zB o.toD with
   |true=>exact(Qr h).flat hf
   |false=>
    refine(Qg h).less λa z=>?_
    rcases z with(z|z)|z
    . rw[show o.str=true from z.1];exact z.2.1
    . exact z.elim
    . exact .inr (own a z)
  |bo k=>
   obtain⟨s,k1,u⟩:=bS_<|e;obtain⟨o,x,c⟩:=bS_ u;subst x
   by_cases g:k=i\/k=j
   . rw[if_pos g]at c;cases c
   rw[if_neg g]at c;obtain⟨y,f,A⟩:=bS_ c;cases A;refine .cons ?_<|l f;obtain⟨w,p,C⟩:=R.sl k _ k1;rw[h.2]at p;cases p;have ob:∀z,Lv (λz=>Lv F B (Gw [] ad) true z/\z ∉ ad i++ad j) (λ_=>False) _ false z->z ∈ ad i++ad j:=λz b=>by
    rcases b with(b|b)|b
    . exact nomatch b.1
    . exact b.elim
    . exact b
   exact Ro.rp false (λD v d _ r=>(r).less λz b=>.inr<|own z<|ob z b) (λa n z=>n<|.inr<|own a<|ob a z) ⋯ (λa m z=>(zzM.mp<|ob a z).elim (λy=>g<|.inl<|R.inj k i a m y) λy=>g<|.inr<|R.inj k j a m y) C
end
def q8{K:zzA}{kd:KD}{F B:Addr->Prop}{ad:Ad}{as:AS}{σ:St}{H:Hp}{i j:Nat}{T0 T1:List Addr}(R:Rel K kd F B [] ad as σ H)(hij:i≠j){a}(z:Gw [] (yP (yP ad i T0) j T1) a):G1 (Gw [] ad) (ad i++ad j) (T0++T1) a:=by
 rcases z with z|⟨k,z⟩
 . exact nomatch z
 . by_cases e:k=j
   . subst e;rw[zL]at z;exact .inr<|zzL _ z
   . rw[zO e]at z
     by_cases f:k=i
     . subst f;rw[zL]at z;exact .inr<|zzP _ z
     . rw[zO f]at z;exact .inl ⟨.inr ⟨k,z⟩,λy=>(zzM.mp y).elim (λw=>f<|R.inj k i a z w) λw=>e<|R.inj k j a z w⟩
def XW(c i j:Nat)(fr:AF)(g:List xi->O->O->Option (D×O×O)):EF:=λas=>(fr as).bind λq=>(sF c i j q.1).bind λrs=>(Fz i j q.2 rs).bind λxs=>(q.2[i]?).bind λa=>a.bind λo0=>(q.2[j]?).bind λb=>b.bind λo1=>(g xs o0 o1).bind λz=>if z.2.1.str=true/\z.2.2.str=true/\i≠j then some (.ow<|.lf true z.1,(q.2.set i<|some z.2.1).set j<|some z.2.2)else none
section
variable{X:Cx}{kd:KD}{e:Expr}{es:List Expr}{fr:AF}{pos p:Pos}{n k c i j:Nat}
def Iy{g σ H Q E}(h:al X.K kd (XW c i j fr g) σ H Q):Oh (spT c X.K kd g) [] E (Iq X.K kd fr) σ H Q:=by
 obtain⟨F,B,ad,as,r,as',R,e,q⟩:=h;obtain⟨⟨rs0,as1⟩,h1,e1⟩:=bS_<|e;obtain⟨rs,h2,e2⟩:=bS_ e1;obtain⟨xs,h3,e3⟩:=bS_ e2;obtain⟨a,k0,e4⟩:=bS_ e3;obtain⟨o0,x0,e5⟩:=bS_ e4;obtain⟨b,k1,e6⟩:=bS_ e5;obtain⟨o1,x1,e7⟩:=bS_ e6;obtain⟨⟨d,s0,s1⟩,h4,e8⟩:=bS_ e7;obtain⟨⟨hs0,hs1,hij⟩,e9⟩:=zr e8;subst x0 x1;cases e9;refine⟨F,B,ad,as,rs0,as1,R,h1,λvs ad1 H1 R1 rv1 g1=>?_⟩;show spT c X.K kd g _ H1 Q E;rw[zyE];obtain⟨v0,v1,ws,rfl,hc,t0,t1,rv⟩:=EX rv1 h2;obtain⟨w0,u0,ro0⟩:=R1.sl i _ k0;obtain⟨w1,u1,ro1⟩:=R1.sl j _ k1;rw[t0]at u0;rw[t1]at u1;cases u0;cases u1;have own:∀a,a ∈ ad1 i++ad1 j->Gw [] ad1 a:=λa z=>(zzM.mp z).elim (λy=>.inr ⟨_,y⟩) λy=>.inr ⟨_,y⟩;have lv2:∀st z,Lv (λz=>Lv F B _ true z/\z ∉ ad1 i++ad1 j) (λ_=>False) _ st z->Lv F B _ st z:=λst z hz=>by
  rcases hz with(hz|hz)|hz
  . rw[hz.1];exact hz.2.1
  . exact hz.elim
  . exact .inr<|own z hz
 refine⟨λz=>Lv F B _ true z/\z ∉ ad1 i++ad1 j,ad1 i,ad1 j,v0,v1,ws,xs,o0,o1,d,s0,s1,rfl,λz hz=>R1.trk true z hz.1,zxC.mpr ⟨R1.nd i,R1.nd j,λa m b m' z=>hij<|R1.inj i j a m<|z ▸ m'⟩,λz mz=>⟨(R1.gtr z<|own z mz).1,λy=>y.2 mz⟩,CM R1 rv h3,wC.lv lv2 ro0,wC.lv lv2 ro1,h4,λu H' T0 T1 kp nd sub al r0 r1 rp=>?_⟩;have le:∀z,Lv F B (G1 _ _<|T0++T1) true z->Lv (λz=>Lv F B (Gw [] ad1) true z/\z ∉ ad1 i++ad1 j) (λ_=>False) _ true z:=λz hz=>by
  rcases hz with(hz|hz)|hz|hz
  . exact .inl<|.inl ⟨rfl,.inl<|.inl hz,λy=>(R1.gtr z<|own z y).2 hz.2⟩
  . exact .inl<|.inl ⟨rfl,.inl<|.inr hz,λy=>(R1.btr z hz).2.2<|own z y⟩
  . exact .inl<|.inl ⟨rfl,.inr hz.1,hz.2⟩
  . exact .inr hz
 have q0:wC X.K kd F B _ H' v0 s0 T0:=Ro.monoS (λv d h=>Rp.less le h) (λz n y=>n<|le z y) hs0 r0;have q1:wC X.K kd F B _ H' v1 s1 T1:=Ro.monoS (λv d h=>Rp.less le h) (λz n y=>n<|le z y) hs1 r1;obtain⟨R3,g3⟩:=R1.chg2 hij (zzG.mp k0).1 (zzG.mp k1).1 t0 t1 nd sub kp al q0 q1;exact q u [] _ H' R3 (.lf<|rp.less λz y=>le z<|y.imp id<|q8 R1 hij)<|g1.trans g3
def SW(c i j:Nat){f fdt ps gg x}(F:FnOk X.prog X.w X.K X.mg X.base ZP k f fdt ps (spT c X.K kd gg))(hr:Room n X.A)(hm:X.mg x=some (.ref f))(hk:W.keepIn X.K (.ref f)=true)
 (hb:Binds X.K fdt ps []) (ha:AA X kd (e::es) fr) (hn:k<=n:=by omega) (hg:Gl X x:=by rfl) (hdb:(x==("__debug__":Str))=false:=by decide) (he:starEach (e::es) X.env=(false,eval e X.env)::starEach es X.env:=by rfl) (hpl:(backTo pos<|starEach es X.env).any (·.1)=false:=by rfl):
 AE X kd (.Call (.Name x p) (e::es) [] pos) (XW c i j fr gg):=by with_unfolding_all exact(yk (KG F (hr.mono hn) hg hm hk hb .nil Uj ha hdb he hpl) λσ H Q h=>Iy h)
end
noncomputable def Cf(ta:TF)(f g:VF):VF:=λas=>(ta as).bind λp=>if p.1=true then f p.2 else g p.2
def ue{X:Cx}{kd:KD}{n:Nat}{c:Expr}{sts rest:List Stmt}{ta:TF}{f g:VF}{pos:Pos}(hc:AT X kd c ta)(ha:JD X kd n sts f)(hb:JD X kd n rest g):JD X kd n (.If c sts [] pos::rest) (Cf ta f g):=by
 with_unfolding_all exact(Zq (ZK (EA hc ha U8) hb) λD σ H h=>by
  obtain⟨F,B,ad,as,d,as',R,e,q⟩:=h;obtain⟨⟨p,as1⟩,h1,e⟩:=bS_<|e;refine⟨F,B,ad,as,p,as1,R,h1,λad' H' R' g=>?_⟩;cases p with
  |true=>exact⟨F,B,ad',as1,d,as',R',e,λσ' ad2 H2 v s R2 g2 rp=>q σ' ad2 H2 v s R2 (g.trans g2) rp⟩
  |false=>exact⟨F,B,ad',as1,d,as',R',e,λσ' ad2 H2 v s R2 g2 rp=>q σ' ad2 H2 v s R2 (g.trans g2) rp⟩)
def u4{X:Cx}{kd:KD}{n:Nat}{e tg:Expr}{fa:EF}{S:List Nat}{g:GF}{pos:Pos}(hS:∀i,i<n->i ∉ S)(he:AE X kd e fa)(hg:AG X kd tg S g)(hs:swapsWithSole [tg] e pos.line X.env=pure false)(hw:swappedStores [tg] e X.env=pure none)(h1:(assignEach [tg] X.env).map (·.2)=[assign tg X.env]):
 AP X kd n (.Assign [tg] e pos) (YI fa g):=by with_unfolding_all exact(xy (Hx he hg hs hw h1) λD σ H h=>by
 obtain⟨F,B,ad,as,o,R,e,q⟩:=h;obtain⟨⟨p,as1⟩,h1,e⟩:=bS_<|e;obtain⟨⟨x,as2⟩,h2,e⟩:=bS_ e;obtain⟨as3,h3,e⟩:=bS_ e;cases e;refine⟨F,B,ad,as,p,as1,R,h1,λv T' ad' H' R' rv g1=>?_⟩;obtain⟨ad2,R2,rp,le⟩:=Yh R' rv h2;exact⟨F,B,ad2,as2,_,as3,R2,rp,h3,λσ' ad' H' R' g' s=>q σ' ad' H' (λi hi=>s i<|hS i hi) R'<|(g1.trans<|Grow.less le).trans g'⟩)
def Fq(K:zzA)(mg:Str->Option Value)(x:Str)(st:Stmt):Prop:=∃f d,Fun K x x st f d/\mg x=some (.ref f)
def Cn(x:Str)(P:Program)(w:World)(K:zzA)(mg:Str->Option Value)(base:Heap)(k:Nat)(sp:Sp):Prop:=∃f d ps,FnOk P w K mg base ZP k f d ps sp/\mg x=some (.ref f)/\W.keepIn K (.ref f)=true/\Binds K d ps []
def Mq(K:zzA)(kd:KD)(c m q:Str)(st:Stmt):Prop:=∃f d,Meth K (kd.c c) m f/\Fun K m q st f d
def Cm(c m:Str)(P:Program)(w:World)(K:zzA)(mg:Str->Option Value)(base:Heap)(kd:KD)(k:Nat)(sp:Sp):Prop:=CI K kd mg c (kd.c c)/\∃f d ps,Meth K (kd.c c) m f/\FnOk P w K mg base ZP k f d ps sp/\Binds K d ps []
abbrev Bd(x q:Str)(st:Stmt)(ps:List Str):Prop:=∀(kV doc pm:Value) (an:Option Addr) (cdv ct:Value) (us:List Value),us.length=ps.length->bindArgs (W.fnOf x q (UZ st) (wH st) (zH st) .none kV doc pm an cdv ct) ⟨us,[]⟩=pure (ps.zip us)
def iE{α:Type}{P:List α->Prop}(h:∀a b c d e f g,P [a,b,c,d,e,f,g]):∀us:List α,us.length=7->P us
 | [a,b,c,d,e,f,g],_=>h a b c d e f g
section
variable{P:Program}{w:World}{K:zzA}{mg:Str->Option Value}{base:Heap}{kd:KD}{x q c m:Str}{st:Stmt}{N:List Str}{n k:Nat}{sp:Sp}
def TM(Q:Fq K mg x st)(g:∀{f d},Fun K x x st f d->FnScope N (N.take n) (zH st)->FnOk P w K mg base ZP k f d (N.take n) sp)
 (S:FnScope N (N.take n) (zH st):=by exact sH) (h:Bd x x st (N.take n):=by first|exact λ_ _ _ _ _ _=>qB λ_=>rfl|exact λ_ _ _ _ _ _=>nE λ_ _=>rfl|exact λ_ _ _ _ _ _=>rB λ_ _ _=>rfl|exact λ_ _ _ _ _ _=>pG λ_ _ _ _=>rfl|exact λ_ _ _ _ _ _=>rM λ_ _ _ _ _=>rfl|exact λ_ _ _ _ _ _=>l6_ λ_ _ _ _ _ _=>rfl):Cn x P w K mg base k sp:=by
 obtain⟨f,d,F,e⟩:=Q;exact⟨f,d,_,g F S,e,F.kp,F.binds h⟩
def WC(C:CI K kd mg c (kd.c c))(Q:Mq K kd c m q st)(g:∀{f d},Fun K m q st f d->FnScope N (N.take n) (zH st)->FnOk P w K mg base ZP k f d (N.take n) sp)
 (S:FnScope N (N.take n) (zH st):=by exact sH) (h:Bd m q st (N.take n):=by first|exact λ_ _ _ _ _ _=>qB λ_=>rfl|exact λ_ _ _ _ _ _=>nE λ_ _=>rfl|exact λ_ _ _ _ _ _=>rB λ_ _ _=>rfl|exact λ_ _ _ _ _ _=>pG λ_ _ _ _=>rfl|exact λ_ _ _ _ _ _=>rM λ_ _ _ _ _=>rfl|exact λ_ _ _ _ _ _=>iE λ_ _ _ _ _ _ _=>rfl):Cm c m P w K mg base kd k sp:=by
 obtain⟨f,d,e,F⟩:=Q;exact⟨C,f,d,_,e,g F S,F.binds h⟩
def ll(Q:Fq K mg x st)(N:List Str)(n:Nat)(S:FnScope N (N.take n) (zH st):=by exact sH)(h:Bd x x st (N.take n):=by first|exact λ_ _ _ _ _ _=>qB λ_=>rfl|exact λ_ _ _ _ _ _=>nE λ_ _=>rfl|exact λ_ _ _ _ _ _=>rB λ_ _ _=>rfl|exact λ_ _ _ _ _ _=>pG λ_ _ _ _=>rfl|exact λ_ _ _ _ _ _=>rM λ_ _ _ _ _=>rfl):Cn x P w K mg base k (Qc K kd λ_=>none):=TM Q (λ_ _=>Ju) S h
def ZQ{cc:SF}(Q:Fq K mg x st)
 (hb:N.Nodup->∀(f:Addr) (cdv:Value) (A:Around) (outer:List Env) (s:Shared) (H:Hp) (E:XK),Room k (A.deeper<|envOfC x (zH st) s.heap.objs.size f cdv)->E5 (QL ZP P w K mg base N x (zH st) f cdv A outer s H E).nox kd (wH st) cc)
 (S:FnScope N (N.take n) (zH st):=by exact sH) (h:Bd x x st (N.take n):=by first|exact λ_ _ _ _ _ _=>qB λ_=>rfl|exact λ_ _ _ _ _ _=>nE λ_ _=>rfl|exact λ_ _ _ _ _ _=>rB λ_ _ _=>rfl|exact λ_ _ _ _ _ _=>pG λ_ _ _ _=>rfl|exact λ_ _ _ _ _ _=>rM λ_ _ _ _ _=>rfl):
 Cn x P w K mg base (k+1) (Qc K kd<|xY N.length (N.take n).length cc):=TM Q (λF S=>Ht F S<|hb S.nd _) S h
def O8{cc:SF}(C:CI K kd mg c (kd.c c))(Q:Mq K kd c m q st)
 (hb:N.Nodup->∀(f:Addr) (cdv:Value) (A:Around) (outer:List Env) (s:Shared) (H:Hp) (E:XK),Room k (A.deeper<|envOfC q (zH st) s.heap.objs.size f cdv)->E5 (QL ZP P w K mg base N q (zH st) f cdv A outer s H E).nox kd (wH st) cc)
 (S:FnScope N (N.take n) (zH st):=by exact sH) (h:Bd m q st (N.take n):=by first|exact λ_ _ _ _ _ _=>qB λ_=>rfl|exact λ_ _ _ _ _ _=>nE λ_ _=>rfl|exact λ_ _ _ _ _ _=>rB λ_ _ _=>rfl|exact λ_ _ _ _ _ _=>pG λ_ _ _ _=>rfl|exact λ_ _ _ _ _ _=>rM λ_ _ _ _ _=>rfl):
 Cm c m P w K mg base kd (k+1) (Qc K kd<|xY N.length (N.take n).length cc):=WC C Q (λF S=>Ht F S<|hb S.nd _) S h
def O9{g tbl}{k':Nat}(C:Cm c m P w K mg base kd k' (Qc K kd g))(h:MT P w K mg base kd m k tbl)(hk:k'<=k:=by decide):MT P w K mg base kd m k ((c,g)::tbl):=by
 obtain⟨ci,f,d,ps,e,F,b⟩:=C;exact DE ci e F hk b h
def sR{g}{k':Nat}(C:Cm c m P w K mg base kd k' (spS K kd g))(hk:k'<=k:=by decide):MS P w K mg base kd m k c g:=by
 obtain⟨ci,f,d,ps,e,F,b⟩:=C;exact og ci e F b hk
end
section
variable{X:Cx}{kd:KD}{e:Expr}{es:List Expr}{fr:AF}{pos p:Pos}{x c:Str}{k n:Nat}
def cn{gg}(C:Cn x X.prog X.w X.K X.mg X.base k (Qc X.K kd gg))(hr:Room n X.A)(ha:AA X kd (e::es) fr)(hn:k<=n:=by omega)(hg:Gl X x:=by rfl)(hdb:(x==("__debug__":Str))=false:=by decide)(he:starEach (e::es) X.env=(false,eval e X.env)::starEach es X.env:=by rfl)(hpl:(backTo pos<|starEach es X.env).any (·.1)=false:=by rfl):
 AE X kd (.Call (.Name x p) (e::es) [] pos) (zd fr gg):=by
 obtain⟨f,d,ps,F,m,kp,b⟩:=C;exact Cq F (hr.mono hn) hg m kp b Uj ha hdb he hpl
def ix{g}(C:Cm c "__init__" X.prog X.w X.K X.mg X.base kd k (sA X.K kd c g))(hr:Room n X.A)
 (ha:AA X kd (e::es) fr) (hn:k+1<=n:=by omega) (hg:Gl X c:=by rfl) (hdb:(c==("__debug__":Str))=false:=by decide) (he:starEach (e::es) X.env=(false,eval e X.env)::starEach es X.env:=by rfl) (hpl:(backTo pos<|starEach es X.env).any (·.1)=false:=by rfl):
 AE X kd (.Call (.Name c p) (e::es) [] pos) (zd fr g):=by
 obtain⟨ci,f,d,ps,me,F,b⟩:=C;exact I_ rfl (ci.mk' me) F (hr.mono hn) hg ci.mg b Uj ha hdb he hpl
end
section
variable{X:Cx}{kd:KD}{n:Nat}{tg e iter:Expr}{body:List Stmt}{fi:IF}{fa:EF}{f:SF}{S:List Nat}{g:GF}{pos:Pos}
def iR(hi:AI X kd tg iter fi)(hg:AG X kd tg S g)(hb:O7 X kd n body f)(hp:PassesOwn (model X.prog X.w) X.A X.env X.xe:=by exact PassesOwn.never)(hc:X.calm=true:=by rfl)(hs:∀x,foldedSetIterable iter X.env x=pure x:=by exact λ_=>rfl)(hS:∀i,i<n->i ∉ S:=by decide):AP X kd n (.For tg iter body [] pos) (yx fi g f):=uN hS hp hc hi hg hb hs
def iG(he:AE X kd e fa)(hg:AG X kd tg S g)(hs:swapsWithSole [tg] e pos.line X.env=pure false:=by rfl)(hw:swappedStores [tg] e X.env=pure none:=by rfl)(h1:(assignEach [tg] X.env).map (·.2)=[assign tg X.env]:=by rfl)(hS:∀i,i<n->i ∉ S:=by decide):AP X kd n (.Assign [tg] e pos) (YI fa g):=u4 hS he hg hs hw h1
end
section
variable{X:Cx}{kd:KD}{e:Expr}{es:List Expr}{fr:AF}{pos pos' p:Pos}{x:Str}{i j k n:Nat}{g:List xi->O->Option O}
def m_(C:Cn x X.prog X.w X.K X.mg X.base k (Mv X.K kd g))(hr:Room j X.A)(ha:AA X kd (e::es) fr)(hn:k<=j:=by omega)(hg:Gl X x:=by rfl)(hdb:(x==("__debug__":Str))=false:=by decide)(he:starEach (e::es) X.env=(false,eval e X.env)::starEach es X.env:=by rfl)(hpl:(backTo pos<|starEach es X.env).any (·.1)=false:=by rfl)
 (hs:swapsWith (.Call (.Name x p) (e::es) [] pos) none pos'.line X.env=pure false:=by rfl):AP X kd n (.Expr (.Call (.Name x p) (e::es) [] pos) pos') (ZJ i fr g):=by
 obtain⟨f,d,ps,F,m,kp,b⟩:=C;exact LP F (hr.mono hn) hg m kp b Uj ha hdb he hpl hs
def jb(C:Cn x X.prog X.w X.K X.mg X.base k (Mv X.K kd g))(hr:Room j X.A)(ha:AA X kd (e::es) fr)(hn:k<=j:=by omega)(hg:Gl X x:=by rfl)(hdb:(x==("__debug__":Str))=false:=by decide)(he:starEach (e::es) X.env=(false,eval e X.env)::starEach es X.env:=by rfl)(hpl:(backTo pos<|starEach es X.env).any (·.1)=false:=by rfl)
 (hs:swapsWith (.Call (.Name x p) (e::es) [] pos) none pos'.line X.env=pure false:=by rfl):Lw X kd (.Expr (.Call (.Name x p) (e::es) [] pos) pos') (ZJ i fr g):=by
 obtain⟨f,d,ps,F,m,kp,b⟩:=C;exact HC F (hr.mono hn) hg m kp b Uj ha hdb he hpl hs
end
def gC{X:Cx}{kd:KD}{a b:Expr}{i j c:Nat}{g g':GF}{pos:Pos}(h1:AG X kd a [i] g)(h2:AG X kd b [j] g')(hc:X.calm=true:=by rfl)(h3:(assignEach [a,b] X.env).map (·.2)=assign a X.env::(assignEach [b] X.env).map (·.2):=by rfl)(h4:(assignEach [b] X.env).map (·.2)=assign b X.env::(assignEach [] X.env).map (·.2):=by rfl)(hn:(assignEach [a,b] X.env).length=2:=by rfl)(hst:(assignEach [a,b] X.env).findIdx? (·.1)=none:=by rfl):AG X kd (.Tuple [a,b] c pos) [i,j] (gT 2<|yQ g<|yQ g' Yu):=Mm hc (VT h1 (VT h2 Lp h4) h3) hn hst
def kdN{P:Program}{w:World}{K:zzA}{c:Str->Addr}:sX P w K (kdL [] c):=uO λp m=>absurd m List.not_mem_nil
section
variable{K:zzA}{mg:Str->Option Value}{h:Heap}{KL:List (Addr×List (Key×V))}{x c m q:Str}{st:Stmt}{f C:Addr}
def s_(X:K.In h)(G:h.Ns mainGlobals mg)(a:W.nsIn K mainGlobals x=some (some<|.ref f))(l:∃d,Fun K x x st f d):Fq K mg x st:=⟨f,l.elim λd F=>⟨d,F,W.mg_of X G a⟩⟩
def pE(X:K.In h)(G:h.Ns mainGlobals mg)(a:W.nsIn K mainGlobals c=some (some<|.ref C))(p1:W.plainGet K C Str.empty=true)(p2:W.hasDictIn K C=true)(p3:W.plainOver K C=true)(p4:W.findIn K (.ref C) "__setattr__"=some (some<|.builtin "object.__setattr__"))(p5:W.makesIn K C=true)(p6:W.keepIn K (.ref C)=true):CI K (kdL KL<|P2 mg) mg c ((kdL KL<|P2 mg).c c):=by
 have e:(kdL KL<|P2 mg).c c=C:=KP<|W.mg_of X G a;rw[e];exact⟨e,⟨p1,p2,p3,p4⟩,p5,p6,W.mg_of X G a⟩
def pH(X:K.In h)(G:h.Ns mainGlobals mg)(a:W.nsIn K mainGlobals c=some (some<|.ref C))(p1:W.findIn K (.ref C) m=some (some<|.ref f))(p2:W.isFn K (.ref f)=true)(p3:W.keepIn K (.ref f)=true)(l:∃d,Fun K m q st f d):Mq K (kdL KL<|P2 mg) c m q st:=by
 have e:(kdL KL<|P2 mg).c c=C:=KP<|W.mg_of X G a;obtain⟨d,F⟩:=l;exact⟨f,d,by rw[e];exact⟨p1,p2,p3⟩,F⟩
def rR(X:K.In h)(G:h.Ns mainGlobals mg)(a:W.nsIn K mainGlobals c=some (some<|.ref C))(p:W.findIn K (.ref C) m=some none):yC K ((kdL KL<|P2 mg).c c) m:=by
 have e:(kdL KL<|P2 mg).c c=C:=KP<|W.mg_of X G a
 rwa [e]
end
abbrev zR(n:Nat)(x:Int):Prop:=0<=x/\x<(n:Int)
structure LJ(n:Nat)(j:Int->Int->Int)(e:Int):Prop where
 cl:∀a b,zR n a->zR n b->zR n (j a b)
 ce:zR n e
 ul:∀a,zR n a->j e a=a
 ur:∀a,zR n a->j a e=a
 as:∀a b c,zR n a->zR n b->zR n c->j (j a b) c=j a (j b c)
structure LD(n m:Nat)(j:Int->Int->Int)(e:Int)(d:Int->Int->Int):Prop where
 cl:∀c a,zR m c->zR n a->zR n (d c a)
 em:d 0 e=e
 dn:∀a i b k,zR n a->zR m i->zR n b->zR m k->d ((i+k)%m) (j a b)=j (d i a) (d k b)
def X0{n:Nat}(hn:0<n):zR n (x%n):=⟨zyN _ ⋯,zyH _ ⋯⟩
def LD.congr{n m:Nat}(hm:0<m)(hj:LJ n j e)(h:LD n m j e d)(q:∀a b,zR n a->zR n b->j' a b=j a b)(p:∀c a,zR m c->zR n a->d' c a=d c a):LD n m j' e d':=by
 refine⟨λc a r f=>by rw[p c a r f];exact h.cl c a r f,by rw[p 0 e ⟨⋯,⋯⟩ hj.ce];exact h.em,λa i b k f l g o=>?_⟩;rw[q a b f g,p _ _ (X0 hm)<|hj.cl a b f g,p i a l f,p k b o g,q _ _ (h.cl i a l f)<|h.cl k b o g];exact h.dn a i b k f l g o
noncomputable def jS(n:Nat)(a b:Int):Int:=(a+b)%n
noncomputable def jM(a b:Int):Int:=if b > a then b else a
noncomputable def jL(a b:Int):Int:=if b=0 then a else b
def jV{n:Nat}(hn:0<n):LJ n (jS n) 0:=by
 refine⟨λa b _ _=>X0 hn,⟨⋯,⋯⟩,λa d=>?_,λa d=>?_,λa b c _ _ _=>?_⟩
 . unfold jS;rw[Int.zero_add,Int.emod_eq_of_lt d.1 d.2]
 . unfold jS;rw[Int.add_zero,Int.emod_eq_of_lt d.1 d.2]
 . unfold jS;rw[Int.emod_add_emod,Int.add_emod_emod,Int.add_assoc]
def i9{n:Nat}(hn:0<n):LJ n jM 0:=by
 refine⟨λa b d e=>?_,⟨⋯,⋯⟩,λa d=>?_,λa d=>?_,λa b c _ _ _=>?_⟩<;>unfold jM<;>(try unfold jM)<;>grind
def hW{n:Nat}(hn:0<n):LJ n jL 0:=by
 refine⟨λa b d e=>?_,⟨⋯,⋯⟩,λa d=>?_,λa d=>?_,λa b c _ _ _=>?_⟩<;>unfold jL<;>grind
def four{P:Int->Prop}(h0:P 0)(h1:P 1)(h2:P 2)(h3:P 3)(h:zR 4 a):P a:=by
 rcases(show a=0\/a=1\/a=2\/a=3 by omega)with rfl|rfl|rfl|rfl<;>assumption
def f4{P:Int->Prop}(h:∀a ∈ ([0,1,2,3]:List Int),P a){a:Int}(ha:zR 4 a):P a:=four (h 0<|by decide) (h 1<|by decide) (h 2<|by decide) (h 3<|by decide) ha
def gp{n m:Nat}{g x0 x1:Int}(hn:0<n)(hm:0<m)(g0:0<g)(gn:g ∣ n)(gm:g ∣ m):LD n m (jS n) 0 (λc a=>(a*x0+c*((n:Int)/g)*x1)%n):=by
 refine⟨λc a _ _=>X0 hn,⋯,λa i b k _ _ _ _=>?_⟩;obtain⟨t,e⟩:=gm;have h:m*(n/g)=n*t:=by
  obtain⟨s,f⟩:=gn;rw[f,Int.mul_ediv_cancel_left _ ⋯,e];grind
 unfold jS;rw[<-Int.add_emod];generalize n/g=d at h;rw[Int.emod_def _ m,Int.emod_def (a+b) n];generalize (i+k)/m=q;generalize (a+b)/n=p;rw[show _*x0+_*d*x1=(a*x0+i*d*x1+(b*x0+k*d*x1))+n*(-(p*x0)-t*q*x1) by grind,Int.add_mul_emod_self_left]
def iD{n m:Nat}{r:Int->Int}(hm:0<m)(h0:r 0=0)(hc:∀a,zR n a->zR n (r a))(hr:∀a b,zR n a->zR n b->a<=b->r a<=r b):LD n m jM 0 (λ_ a=>r a):=by
 refine⟨λc a _ d=>hc a d,h0,λa i b k d _ e _=>?_⟩;unfold jM;have f:=hr a b d e;have g:=hr b a e d
 split<;>split<;>grind
def gk{n m:Nat}{r:Int->Int}(h0:r 0=0)(hc:∀a,zR n a->zR n (r a))(hr:∀a,zR n a->a≠0->r a≠0):LD n m jL 0 (λ_ a=>r a):=by
 refine⟨λc a _ d=>hc a d,h0,λa i b k d _ e _=>?_⟩;unfold jL;have f:=hr b e
 split<;>split<;>grind
def Dg{n1 n2:Nat}(hx:zR n1 x)(hy:zR n2 y):zR (n1*n2) (x*n2+y):=by
 have b:0<=x*n2:=Int.mul_nonneg hx.1 ⋯;have a:x*n2<=(n1-1)*n2:=Int.mul_le_mul_of_nonneg_right ⋯ ⋯;rw[Int.sub_mul,Int.one_mul]at a;omega
def z_{n1 n2:Nat}(h2:0<n2)(h:zR (n1*n2) p):zR n1 (p/n2)/\zR n2 (p%n2):=
 ⟨⟨Int.ediv_nonneg h.1 ⋯,Int.ediv_lt_of_lt_mul ⋯ (by have:=h.2;exact this)⟩,X0 h2⟩
def Wq{n2:Nat}(hy:zR n2 y):(x*n2+y)/n2=x/\(x*n2+y)%n2=y:=by
 have a:(n2:Int)≠0:=⋯;constructor
 . rw[Int.add_comm,Int.add_mul_ediv_right _ _ a,Int.ediv_eq_zero_of_lt hy.1 hy.2,Int.zero_add]
 . rw[Int.add_comm,Int.add_mul_emod_self_right,Int.emod_eq_of_lt hy.1 hy.2]
def qH{n2:Nat}{p:Int}:(p/n2)*n2+p%n2=p:=by rw[Int.mul_comm];exact Int.mul_ediv_add_emod p n2
noncomputable def jB(n2:Nat)(j1 j2:Int->Int->Int)(p q:Int):Int:=j1 (p/n2) (q/n2)*n2+j2 (p%n2) (q%n2)
noncomputable def dB(n2:Nat)(d1 d2:Int->Int->Int)(c p:Int):Int:=d1 c (p/n2)*n2+d2 c (p%n2)
def Df{n k:Nat}(h:n<=8)(hk:8<=k:=by decide):n<=k:=zzO h hk
def tw{n:Nat}(h:1<=n):(0:Int)<n:=Int.natCast_pos.mpr h
def tS{a:Int}{n:Nat}(h0:0<=a)(h1:a<n):a.toNat<n:=Int.ofNat_lt.mp (by rwa [zyY h0])
def mU{n:Nat}(h:n<=8)(hk:8<k:=by decide):(n:Int)<k:=Int.lt_of_le_of_lt (Int.ofNat_le.mpr h) hk
def iT{n:Nat}(h:zR n x):x.toNat<n:=Int.ofNat_lt.mp (by rw[zyY h.1];exact h.2)
def iC{n:Nat}(h:zR n x):((x.toNat:Nat):Int)=x:=zyY h.1
noncomputable def vW(r:List Int)(v:Int):Int:=(r[v.toNat]?).getD 0
def yJ(J:List (List Int))(w v:Int):Int:=vW ((J[w.toNat]?).getD []) v
def EW(J:List (List Int))(e:Int):List Int->Int
 | []=>e
 |x::t=>t.foldl (yJ J) x
section
variable{n m:Nat}{J T:List (List Int)}{e:Int}
theorem LH(h:LJ n (yJ J) e):∀(t:List Int) (w:Int),zR n w->(∀x ∈ t,zR n x)->zR n (t.foldl (yJ J) w)
 | [],w,a,_=>a
 |v::t,w,a,k=>LH h t _ (h.cl w v a<|k v<|zzF ..) λx m=>k x<|zzD _ m
def Z_(h:LJ n (yJ J) e)(k:∀x ∈ r,zR n x):zR n (EW J e r):=by
 cases r with
 |nil=>exact h.ce
 |cons x t=>exact LH h t x (k x ⋯) λy m=>k y<|zzD _ m
theorem Vi(h:LJ n (yJ J) e):∀(t:List Int) (w:Int),zR n w->(∀x ∈ t,zR n x)->t.foldl (yJ J) w=yJ J w (EW J e t)
 | [],w,a,_=>(h.ur w a).symm
 |x::t,w,a,k=>by
  have b:=k x ⋯;have c:=λy m=>k y<|zzD _ m;show t.foldl _ _=yJ J w (t.foldl _ x);rw[Vi h t _ (h.cl w x a b) c,Vi h t x b c,h.as _ _ _ a b<|Z_ h c]
def Sf(h:LJ n (yJ J) e)(k:∀x ∈ l,zR n x)(k':∀x ∈ l',zR n x):EW J e (l++l')=yJ J (EW J e l) (EW J e l'):=by
 cases l with
 |nil=>exact(h.ul _<|Z_ h k').symm
 |cons x t=>
  show(t++l').foldl _ x=_;rw[List.foldl_append];exact Vi h l' _ (Z_ h k) k'
theorem Lh(hm:0<m)(h:LJ n (yJ J) e)(d:LD n m (yJ J) e (yJ T)):∀r:List Int,(∀x ∈ r,zR n x)->EW J e (r.map<|yJ T<|1%(m:Int))=yJ T ((r.length:Int)%m) (EW J e r)
 | [],_=>by
  show e=yJ T (0%m) e;rw[Int.zero_emod,d.em]
 |x::t,k=>by
  have b:=k x ⋯;have a:=λy m=>k y<|zzD _ m;have c:zR m (1%m):=X0 hm;have f:∀y ∈ t.map (yJ T<|1%m),zR n y:=λy g=>by
   obtain⟨z,i,rfl⟩:=zxB.mp g;exact d.cl _ _ c<|a z i
  have j:EW J e (x::t)=yJ J x _:=Vi h t x b a;have l:EW J e ((x::t).map _)=yJ J _ _:=Vi h _ _ (d.cl _ _ c b) f;rw[l,Lh hm h d t a,j,<-d.dn _ _ _ _ b c (Z_ h a) (X0 hm),<-Int.add_emod,zzT,Int.natCast_add,Int.add_comm t.length];rfl
end
local macro_rules | `(tactic| trivial)=>do `(tactic| first|with_reducible first|assumption|$(<-zqb "Int.natCast_nonneg _;Nat.le_refl _;Int.le_refl _;rfl;Df a;tw a;np2 a;nq1 a;nq2 a;Int.natCast_pos.mpr a;Nat.le_trans a d;bgL _;bgU a;mU a;zI _;bL0 a;bU0 a a;iL a;iU a a;iC a;iT a;stL a;stU a;lnK a a a;zi1 _;lnE a;ltL a;Int.toNat_of_nonneg a;tS a a;b6 a;Int.emod_nonneg _ d;Int.emod_lt_of_pos _ d"):tactic|decide|omega)
noncomputable abbrev ZZ(x:Int):O:=.lf true<|.int x
abbrev sI(x:Int):Option O:=some<|ZZ x
noncomputable abbrev sT(d:D):Option O:=some<|.lf true d
noncomputable abbrev sN(os:List O):Option O:=some<|.nd .ls os
abbrev TZ:Type:=List<|List Int
abbrev DD:Type:=List<|Str×TZ
abbrev SS:Type:=List<|Str×List Int
def U7{f as as1 o}(h:f as=some (.ow o,as1))(hs:o.str=true):zy f as=some (.rt o):=by
 unfold zy;rw[h];show((if o.str=true then some o else none).bind _)=_;rw[if_pos hs];rfl
theorem vZ:∀xs:List Int,(xs.map ZZ).all O.isLf=true/\O.strs (xs.map ZZ)=true/\O.toDs (xs.map ZZ)=xs.map D.int
 | []=>⟨rfl,rfl,rfl⟩
 |x::r=>⟨(vZ r).1,(vZ r).2.1,congrArg _ (vZ r).2.2⟩
def Ni(ys)(w):(ys++[w]).map ZZ=ys.map ZZ++[O.lf true<|.int w]:=⋯
def Xe(xs:List Int):(O.nd .ls<|xs.map ZZ).str=true/\(O.nd .ls<|xs.map ZZ).toD = .lst (xs.map D.int):=⟨(vZ xs).2.1,congrArg D.lst (vZ xs).2.2⟩
abbrev xl(r:List Int):O:=.nd .ls<|r.map ZZ
noncomputable abbrev zj(r:List Int):D:=.lst<|r.map D.int
def NX{g fe as0 as1 y r o os}(h1:g y as0=some as1)(h2:fe as1=some (.ow o,as1))(hs:o.str=true)(h3:xv g yK fe as0 r=some os):xv g yK fe as0 (y::r)=some (o::os):=by
 unfold xv;rw[h1];show((fe as1).bind _)=_;rw[h2];show(if o.str=true then _ else _)=_;rw[if_pos hs,h3];rfl
theorem yU:∀(n:Nat) (k:Int),(yR k n).length=n
 |0,_=>rfl
 |n+1,k=>by rw[Gz];exact congrArg _<|yU n _
def SA{f as x}(h:WE f as x):∃o,zy f as=some (.rt o)/\o.str=true/\o.toD=x:=by
 obtain⟨o,b,a,c⟩:=h;exact⟨o,U7 b a,a,c⟩
theorem UW:∀{n:Nat}{k:Int}{y:xi},y ∈ yR k n->∃b:Int,y=(true,.int b)/\k<=b/\b<k+n
 |0,_,_,h=>nomatch h
 |n+1,k,y,h=>by
  rw[Gz]at h
  rcases zzC.mp h with rfl|h
  . exact⟨k,rfl,by trivial,⋯⟩
  . obtain⟨b,e,a,c⟩:=UW h;exact⟨b,e,⋯,⋯⟩
theorem T8{α:Type}(toD){Q:α->Prop}{g fe as0}:∀{xs:List xi},(∀y ∈ xs,∃as1 a,g y as0=some as1/\WE fe as1 (toD a)/\Q a)->∃(os:List O) (l:List α),xv g yK fe as0 xs=some os/\O.strs os=true/\O.toDs os=l.map toD/\l.length=xs.length/\∀a ∈ l,Q a
 | [],_=>⟨[],[],rfl,rfl,rfl,rfl,λ_ m=>nomatch m⟩
 |y::e,H=>by
  obtain⟨f,a,h,⟨o,i,d,j⟩,k⟩:=H y ⋯;obtain⟨c,l,n,p,q,r,s⟩:=T8 toD λz m=>H z<|zzD _ m;refine⟨o::c,a::l,NX h i d n,by show(o.str&&O.strs c)=_;rw[d,p];rfl,by show o.toD::O.toDs c=_;rw[j,q];rfl,congrArg _ r,λb m=>?_⟩
  rcases zzC.mp m with rfl|m
  . exact k
  . exact s b m
def IW{α:Type}(toD:α->D){Q:α->Prop}{fi cap g fe as xs}(h1:fi as=some (xs,as))(hl:xs.length<=1000)(H:∀y ∈ xs,∃as1 a,g y (Zv cap as)=some as1/\WE fe as1 (toD a)/\Q a):
 ∃l:List α,l.length=xs.length/\(∀a ∈ l,Q a)/\WE (zX fi cap g yK fe) as (.lst<|l.map toD):=by
 obtain⟨h,l,b,c,d,e,f⟩:=T8 toD H;exact⟨l,e,f,_,VW h1 (B5<|by trivial) b,c,congrArg D.lst d⟩
def ux{α:Type}(toD:α->D){Q:α->Prop}{fr cap fe as}{n:Nat}{u}(h1:WA fr as [(u,.int n)])(hl:n<=1000)(H:∀b:Int,0<=b->b<n->∃as1 a,gN 0 (true,.int b) (Zv cap as)=some as1/\WE fe as1 (toD a)/\Q a):
 ∃l:List α,l.length=n/\(∀a ∈ l,Q a)/\WE (zX (yu fr yH) cap (gN 0) yK fe) as (.lst<|l.map toD):=by
 obtain⟨l,c,d,e⟩:=IW toD (y6 h1 (by trivial) ⋯) (by rw[yU];trivial) (λy m=>by
  obtain⟨b,rfl,f,h⟩:=UW m;exact H b f ⋯)
 rw[yU]at c;exact⟨l,⋯,d,e⟩
def Row(n:Nat)(r:List Int):Prop:=r.length=n/\∀x ∈ r,0<=x/\x<(n:Int)
def Tab(k n:Nat)(T:TZ):Prop:=T.length=k/\∀r ∈ T,Row n r
abbrev xZ(T:TZ):D:=.lst<|T.map zj
def O5{r}{P:Int->Prop}{k}(h0:0<=k)(h1:k<r.length)(hp:∀x ∈ r,P x):∃x,zx (zj r) (.int k)=some (.im<|.int x)/\P x:=by
 have a:k.toNat<r.length:=by trivial
 refine⟨r[k.toNat], ?_,hp _ ⋯⟩;have h:=V0 (xs:=r.map D.int) (by rw[zzI,zzE a];rfl);rw[show k.toNat=k by trivial]at h;show O_ _=_;rw[h];rfl
def Dl{α:Type}(toD){T:List α}{P:α->Prop}{k:Int}(h0:0<=k)(h1:k<T.length)(hp:∀r ∈ T,P r):∃r,zx (.lst<|T.map toD) (.int k)=some (.im<|toD r)/\P r:=by
 have a:k.toNat<T.length:=by trivial
 refine⟨T[k.toNat], ?_,hp _ ⋯⟩;have h:=V0 (xs:=T.map toD) (by rw[zzI,zzE a];rfl);rw[show k.toNat=k by trivial]at h;show O_ _=_;rw[h];rfl
def Zy{α:Type}{f}{l:List α}{i:Nat}{p}(h:l[i]? = some p):zx (.lst<|l.map f) (.int (i:Int))=some (.im<|f p):=by
 have h:=V0 (v:=f p) (by rw[zzI,h];rfl);show O_ _=_;rw[h];rfl
def tF{n k:Nat}{r}{v:Int}(hl:r.length=k)(hr:∀x ∈ r,zR n x)(hv:zR k v):zx (zj r) (.int v)=some (.im<|.int<|vW r v)/\zR n (vW r v):=by
 have a:v.toNat<r.length:=by rw[hl];trivial
 have g:=zzE a;have e:vW r v=r[v.toNat]:=by unfold vW;rw[g];rfl
 rw[e];refine⟨?_,hr _ ⋯⟩;have:=Zy (f:=D.int) g
 rwa [show v.toNat=v by trivial]at this
noncomputable abbrev Qk(T:TZ)(w:Int):List Int:=(T[w.toNat]?).getD []
def ZL{k n:Nat}{T}{w:Int}(hT:Tab k n T)(hw:zR k w):zx (xZ T) (.int w)=some (.im<|zj<|Qk T w)/\Row n (Qk T w):=by
 have a:w.toNat<T.length:=by rw[hT.1];trivial
 have g:=zzE a;unfold Qk;rw[g];refine⟨?_,hT.2 _ ⋯⟩;have:=Zy (f:=zj) g
 rwa [show w.toNat=w by trivial]at this
def rowAt{n:Nat}{r v}(hr:Row n r)(hv:zR n v):zx (zj r) (.int v)=some (.im<|.int<|vW r v)/\zR n (vW r v):=tF hr.1 hr.2 hv
theorem strs_snoc:∀(os:List O) (o:O),O.strs os=true->o.str=true->O.strs (os++[o])=true
 | [],o,_,h=>by show(o.str&&true)=_;rw[h];rfl
 |p::r,o,h,a=>by
  have h:=(zyC _ _).mp<|h;show(p.str&&O.strs (r++_))=_;rw[h.1,strs_snoc r o h.2 a];rfl
theorem TX:∀(os:List O) (o:O),O.toDs (os++[o])=O.toDs os++[o.toD]
 | [],o=>rfl
 |p::r,o=>congrArg _<|TX r o
structure Ows{α:Type}(toD:α->D)(Q:α->Prop)(os:List O)(l:List α):Prop where
 st:O.strs os=true
 ds:O.toDs os=l.map toD
 al:∀a ∈ l,Q a
 ln:os.length=l.length
def Ows.nil{α:Type}{toD}{Q:α->Prop}:Ows toD Q [] []:=⟨rfl,rfl,⋯,rfl⟩
def Ows.snoc{α:Type}{toD Q os l o}{a:α}(h:Ows toD Q os l)(h1:o.str=true)(h2:o.toD=toD a)(h3:Q a):Ows toD Q (os++[o]) (l++[a]):=
 ⟨strs_snoc os o h.st h1,(by rw[TX,h.ds,h2,zyM];rfl),(λb m=>(zzM.mp m).elim (h.al b) λm=>(by rwa [zzR.mp m])),(by rw[zzJ,zzJ,h.ln];rfl)⟩
def Vh{as as1 a}{i:Nat}{os0 os o}(h:as[i]? = some (sN os0))(ha:a as=some (.ow o,as1))(h1:as1[i]? = some (sN os))(hl:os.length<sizeLine):yc (wQ i (dC a dN) vH) as=some (.nx<|as1.set i<|sN<|os++[o]):=by
 unfold yc wQ;rw[h];have e:dC a dN as=some _:=ZA ha rfl;rw[e];show(Option.bind (match as1[i]? with|some (some<|.nd .ls os)=>_|_=>none) _)=_;rw[h1];show((vH os _).bind _).bind _=_;have e2:vH os [o]=some _:=if_pos hl;rw[e2];rfl
def SI{α:Type}{toD Q as a}{i:Nat}{os l}{x:α}(h:as[i]? = some (sN os))(ho:Ows toD Q os l)(hl:l.length<1000)(ha:WE a as (toD x))(hx:Q x):
 ∃os',Ows toD Q os' (l++[x])/\yc (wQ i (dC a dN) vH) as=some (.nx<|as.set i<|sN os'):=by
 obtain⟨o,b,c,d⟩:=ha;exact⟨os++[o],ho.snoc c d hx,Vh h b h<|by rw[ho.ln];exact Qm ⋯⟩
def Ows.retB{α:Type}{toD Q as}{i:Nat}{os}{l:List α}(h:as[i]? = some (sN os))(ho:Ows toD Q os l):Rt (zy (fV i) as) (.lst<|l.map toD):=
 ⟨_,VR h ho.st,ho.st,congrArg D.lst ho.ds⟩
structure OwsX{α:Type}(toD:α->D)(Q:Nat->α->Prop)(os:List O)(l:List α):Prop where
 st:O.strs os=true
 ds:O.toDs os=l.map toD
 al:∀i a,l[i]? = some a->Q i a
 ln:os.length=l.length
def p9{fr as rs g zs}(ha:WA fr as rs)(hg:g (rs.map (·.2))=some (.fl zs)):fP fr g as=some (.ow (.nd .ls (zs.map (B4 (rs.all (·.1))))),as):=by
 unfold fP;rw[ha];show(views as _).bind _=_;rw[XG];show(g _).bind _=_;rw[hg];show(if _=true then _ else _:Option RV).bind _=_;rw[if_pos ⋯];rfl
def qh{a as s r}(h:WD a as s (zj r)):fP (aC a aN) lstP as=some (.ow<|xl r,as):=by
 have:=p9 (g:=lstP) (ze h<|zo) rfl
 rwa [zyB]at this
def Ej{a as s r}(h:WD a as s (zj r)):WE (fP (aC a aN) lstP) as (zj r):=⟨_,qh h,(Xe r).1,(Xe r).2⟩
def Cv{fr as os x}(h:WO fr as os)(hl:os.length<=sizeLine)(hs:O.strs os=true)(e:D.tup (O.toDs os)=x):WE (yf fr) as x:=by
 refine⟨_,S_ h hl, ?_, ?_⟩
 . unfold Wy
   split
   . exact hs
   . exact hs
 . unfold Wy
   split
   . exact e
   . exact e
def Vs{r a}(h:a.toNat<r.length):vW r a=r[a.toNat]:=by unfold vW;rw[zzE h];rfl
theorem Ows.frz{α:Type}{toD:α->D}{Q:α->Prop}{os:List O}{l:List α}(h:Ows toD Q os l):(O.nd .ls os).frz = .lf true (.lst<|l.map toD):=by
 show O.lf (O.strs os) (.lst _)=_;rw[h.st,h.ds]
def Ss{as as2}{j:Nat}{ps fr os}(hj:as[j]? = some (sN ps))(hr:fr (as.set j<|some (O.nd .ls ps).frz)=some (os,as2)):dC (fV j) fr as=some ((O.nd .ls ps).frz::os,as2):=by
 unfold dC;rw[Nh hj];show((C4 as _).bind _)=_;rw[Dv hj];show(fr _).bind _=_;rw[hr];rfl
def EM{as as1 fr os}(h:fr as=some (os,as1))(hl:os.length<=sizeLine):yf fr as=some (.ow<|Wy os,as1):=by
 unfold yf;rw[h];show(if os.length<=sizeLine then _ else _)=_;rw[if_pos hl]
def HU{f as ds}(h:WE f as (.lst ds)):Yi f as=some (ds.map λd=>(true,d),as):=by
 obtain⟨o,h1,h2,h3⟩:=h;unfold Yi;rw[h1];have e:W3 as (.ow o)=some _:=rfl;show(W3 as<|RV.ow o).bind (λq=>(Q7 q.1).bind λds=>some (ds,q.2))=_;rw[e,h2,h3];show some _=_;rw[Xs]
noncomputable abbrev UV(n:Nat):List Int:=(List.range n).map λ(i:Nat)=>(i:Int)
abbrev Ud(p:Str×List Int):D:=.tup [.str p.1,zj p.2]
def oj{x y c}:zx (.lst [.int x,.int y]) (.int (if c=true then 1 else 0))=some (.im<|.int (if c=true then y else x)):=by cases c<;>rfl
noncomputable abbrev B0:Str:="abcdefghijklmnopqrstuvwxyz"
def C9:∀k,k<26->B0.cps.toList[k]? = some (97+k):=by decide +kernel
def Dt{i}(h0:0<=i)(h1:i<26):zx (.str B0) (.int i)=some (.im<|.str ⟨#[97+i.toNat]⟩):=by
 show(if B0.length<=sizeLine then(atI B0.cps.toList i).bind _ else none)=_;have:=V0<|C9 i.toNat ⋯;rw[show i.toNat=i by trivial]at this;rw[this];rfl
def xM{F}{n:Nat}(h:F.Perm (UV n)):Row n F/\∀b:Int,0<=b->b<n->b ∈ F:=by
 refine⟨⟨by rw[h.length_eq,zzB,zyU],λx m=>?_⟩,λb c d=>h.mem_iff.mpr ?_⟩
 . obtain⟨i,a,rfl⟩:=zxB.mp<|h.mem_iff.mp m;have:=List.mem_range.mp a;trivial
 . exact zxB.mpr ⟨b.toNat,List.mem_range.mpr (by trivial),by trivial⟩
def B_{F}{n:Nat}(h:F.Perm (UV n)){v w}(hv:zR n v)(hw:zR n w)(e:vW F v=vW F w):v=w:=by
 have a:=(xM h).1.1;have nd:F.Nodup:=by
  refine h.nodup_iff.mpr<|List.pairwise_map.mpr<|List.nodup_range.imp λz q=>z ⋯
 rw[Vs ⋯,Vs ⋯]at e;have:=(List.getElem_inj nd).mp e;trivial
def Mx{f g as as' x}(h:WE f as x)(hg:g (true,x) as=some as'):YI f g as=some (.nx as'):=by
 obtain⟨o,a,b,c⟩:=h;exact Es a (by rwa [b,c])
abbrev XJ(p:Str×TZ):D:=.tup [.str p.1,xZ p.2]
structure Alg(n m:Nat)(J:TZ)(e:Int)(Ds:DD):Prop where
 n1:1<=n
 n8:n<=8
 m1:1<=m
 m6:m<=6
 j:Tab n n J
 e0:0<=e
 en:e<n
 dl:Ds.length<=6
 ds:∀p ∈ Ds,Tab m n p.2
 nd:(Ds.map (·.1)).Nodup
structure LawA(n m:Nat)(J:TZ)(e:Int)(Ds:DD):Prop where
 lj:LJ n (yJ J) e
 ld:∀p ∈ Ds,LD n m (yJ J) e<|yJ p.2
abbrev vO(n m:Nat)(J:TZ)(e:Int)(Ds:DD)(S:SS):D:=.tup [.int n,.int m,xZ J,.int e,.lst<|Ds.map XJ,.lst<|S.map Ud]
def OY{f as k}(h:WD f as true (.int k)):oS f as=some (some k,as):=by
 unfold oS;rw[h];rfl
abbrev Mg(T:TZ):O:=.nd .ls<|T.map xl
def QB{n:Nat}{J w v}(hJ:Tab n n J)(hw:zR n w)(hv:zR n v):zR n (yJ J w v):=(rowAt (ZL hJ hw).2 hv).2
def w_{a b c as}{n:Nat}{J w v}(hJ:Tab n n J)(hw:zR n w)(hv:zR n v)(ha:WD a as true (xZ J))(hb:WD b as true (.int w))(hc:WD c as true (.int v)):WD (f2 (f2 a b zx) c zx) as true (.int<|yJ J w v):=
 zY (Xq ha hb (ZL hJ hw).1) hc (rowAt (ZL hJ hw).2 hv).1 rfl
def qA{fr as rs g kvs}(ha:WA fr as rs)(hg:g (rs.map (·.2))=some (.fd kvs)):fP fr g as=some (.ow (.nd (.dc (kvs.map (·.1))) ((kvs.map (·.2)).map (B4 (rs.all (·.1))))),as):=by
 unfold fP;rw[ha];show(views as _).bind _=_;rw[XG];show(g _).bind _=_;rw[hg];show(if _=true then _ else _:Option RV).bind _=_;rw[if_pos ⋯];rfl
abbrev RT(o:O):Prop:=o.str=true/\∃ds,o.toD = .tup ds
theorem Fe(I:AS->Prop)(P:xi->Prop):∀(xs:List xi) (as:AS),(∀x ∈ xs,∀as,I as->∃as1,g x as=some as1/\((∃as2,f as1=some (.nx as2)/\I as2/\P x)\/∃o,f as1=some (.rt o)/\RT o/\¬P x))->I as->
 (∃as',forL g f xs as=some (.nx as')/\I as'/\∀x ∈ xs,P x)\/∃o,forL g f xs as=some (.rt o)/\RT o/\¬ ∀x ∈ xs,P x
 | [],as,_,h=>.inl ⟨as,rfl,h,λ_ m=>nomatch m⟩
 |x::r,as,H,h=>by
  obtain⟨n,b,a⟩:=H x (zzF ..) as h
  rcases a with⟨c,a,d,e⟩|⟨o,a,d,e⟩
  . rcases Fe I P r c (λy m=>H y<|zzD _ m) d with⟨i,j,k,l⟩|⟨o,j,k,l⟩
    . refine .inl ⟨i,vP b a j,k,λy m=>?_⟩
      rcases zzC.mp m with rfl|m
      . exact e
      . exact l y m
    . exact .inr ⟨o,vP b a j,k,λz=>l λy m=>z y<|zzD _ m⟩
  . exact .inr ⟨o,Os b a,d,λz=>e<|z x ⋯⟩
abbrev Ux(r:Option Out)(I:AS->Prop)(P:Prop):Prop:=(∃as',r=some (.nx as')/\I as'/\P)\/∃o,r=some (.rt o)/\RT o/\¬P
def Ux.imp{P Q:Prop}(h:Ux r I P)(k:P ↔ Q):Ux r I Q:=by
 rcases h with⟨a,b,c,d⟩|⟨a,b,c,d⟩
 . exact .inl ⟨a,b,c,k.mp d⟩
 . exact .inr ⟨a,b,c,λz=>d<|k.mpr z⟩
def XD{v n:Nat}{f fr:SF}(I)(P:Int->Prop)(H:∀b,zR n b->∀as,I as->∃as1,gN v (true,.int b) as=some as1/\Ux (f as1) I (P b)){as:AS}(h:I as):Ux (forL (gN v) f (yR 0 n) as) I (∀b,zR n b->P b):=by
 have k:=Fe I (λx=>∀b,x=(true,.int b)->P b) (yR 0 n) as (λx m as j=>by
  obtain⟨b,rfl,l,u⟩:=UW m;obtain⟨a,o,q⟩:=H b ⟨l,⋯⟩ as j;exact⟨a,o,q.imp ⋯⟩) h
 refine Ux.imp k ⟨λp b d=>p _ ?_ b rfl,λp x m b e=>?_⟩
 . have r:=d.1;refine zyA (i:=b.toNat) ?_;unfold yR;rw[zzI,List.getElem?_range<|by trivial];show some (true,D.int _)=_;rw[show 0+b.toNat=b by trivial]
 . subst e;obtain⟨c,e,t,w⟩:=UW m;cases e;exact p b ⟨t,⋯⟩
def YG{v n:Nat}(h:as[v]? = some (some<|.lf s<|.int n))(hn:n<=1000):yx (yu (aC (fV v) aN) yH) g f as=forL g f (yR 0 n) as:=
 yn (y6 (ze (za h) zo) (by trivial) ⋯) ⋯
def Md{P:Prop}(ht:WT c as q)(hq:q=true ↔ ¬P)(hf:WE f as (.tup ds))(hI:I as):Ux (xk c (zy f) xh as) I P:=by
 cases q with
 |false=>exact .inl ⟨as,zu ht rfl,hI,Classical.byContradiction λz=>nomatch hq.mpr z⟩
 |true=>
  obtain⟨o,a,b,d⟩:=SA hf;exact .inr ⟨o,xf ht a,⟨b,ds,d⟩,hq.mp rfl⟩
def OG(ha:WD a as s (.int x))(hb:WD b as t (.int y)):WT (fT<|f2 a b<|zw .NotEq) as (!(x==y)):=yF (E9 ha hb rfl) rfl
def EB{x y:Int}:(!(x==y))=true ↔ ¬x=y:=⋯
abbrev mE(n:Nat)(J:TZ)(e:Int):Prop:=∀a,zR n a->yJ J e a=a/\yJ J a e=a
abbrev As(n:Nat)(J:TZ):Prop:=∀a,zR n a->∀b,zR n b->∀c,zR n c->yJ J (yJ J a b) c=yJ J a (yJ J b c)
section
variable{S:Option O->Option O->Option O->AS}{vj vn ve:Nat}{J:TZ}{n:Nat}{e:Int}
def uX{x y z:Option O}(hJ:Tab n n J)(he:zR n e)(hj:∀x y z,(S x y z)[vj]? = some (sT<|xZ J))(hv:∀x y z,(S x y z)[ve]? = some (sI e))(h3:∀x y z,(S x y z)[3]? = some x)(g3:∀d x y z,gN 3 (true,d) (S x y z)=some (S (sT d) y z)):
 Ux (forL (gN 3) (xk (UP (fT<|f2 (f2 (f2 (fV vj) (fV ve) zx) (fV 3) zx) (fV 3)<|zw .NotEq)<|fT<|f2 (f2 (f2 (fV vj) (fV 3) zx) (fV ve) zx) (fV 3)<|zw .NotEq) (zy<|yf<|dC (fC<|.str "nothing")<|dC (fV 3) dN) xh) (yR 0 n)<|S x y z) (λas=>∃x,as=S x y z) (mE n J e):=by
 refine XD (fr:=xh) _ _ (λa c as f=>?_) ⟨x,rfl⟩;obtain⟨x,rfl⟩:=f;have b:WD _ (S (sI a) y z) true _:=za<|h3 _ _ _;have g:=OG (w_ hJ he c (za<|hj _ y z) (za<|hv _ y z) b) b;have i:=OG (w_ hJ c he (za<|hj _ y z) b<|za<|hv _ y z) b;refine⟨S _ y z,g3 _ _ _ _,Md (q:=!_ || !(yJ J a e==a)) (NA g (λh=>by rwa [h]) λh=>by rw[h];rfl) (by grind) (Cv (zE zb<|zE b yG) (W6 rfl) rfl rfl) ⟨_,rfl⟩⟩
abbrev q_(vj vn:Nat):SF:=yx (yu (aC (fV vn) aN) yH) (gN 4)<|yx (yu (aC (fV vn) aN) yH) (gN 5)<|xk (fT<|f2 (f2 (f2 (fV vj) (f2 (f2 (fV vj) (fV 3) zx) (fV 4) zx) zx) (fV 5) zx) (f2 (f2 (fV vj) (fV 3) zx) (f2 (f2 (fV vj) (fV 4) zx) (fV 5) zx) zx)<|zw .NotEq) (zy<|yf<|dC (fC<|.str "parting")<|dC (fV 3)<|dC (fV 4)<|dC (fV 5) dN) xh
def JZ{x y z:Option O}(n8:n<=8)(hJ:Tab n n J)(hj:∀x y z,(S x y z)[vj]? = some (sT<|xZ J))(hn:∀x y z,(S x y z)[vn]? = some (sI n))(h3:∀x y z,(S x y z)[3]? = some x)(h4:∀x y z,(S x y z)[4]? = some y)(h5:∀x y z,(S x y z)[5]? = some z)
 (g3:∀d x y z,gN 3 (true,d) (S x y z)=some (S (sT d) y z)) (g4:∀d x y z,gN 4 (true,d) (S x y z)=some (S x (sT d) z)) (g5:∀d x y z,gN 5 (true,d) (S x y z)=some (S x y<|sT d)):
 Ux (forL (gN 3) (q_ vj vn) (yR 0 n)<|S x y z) (λas=>∃x y z,as=S x y z) (As n J):=by
 refine XD (fr:=xh) _ _ (λa i as e=>?_) ⟨x,y,z,rfl⟩;obtain⟨x,y,z,rfl⟩:=e;refine⟨_,g3 _ _ _ _, ?_⟩;unfold q_;rw[YG (hn _ _ _)<|by trivial];have k:=XD (fr:=xh) (f:=yx _ _ _) (λas=>∃y z,as=S (sI a) y z) _ (λb g as e=>by
  obtain⟨y,z,rfl⟩:=e;refine⟨_,g4 _ _ _ _, ?_⟩;rw[YG (hn _ _ _)<|by trivial];have k:=XD (fr:=xh) (λas=>∃z,as=S (sI a) (sI b) z) _ (λc j as e=>by
   obtain⟨z,rfl⟩:=e;have l:WD _ (S (sI a) (sI b)<|sI c) true _:=za<|h3 _ _ _;have m:WD _ (S (sI a) (sI b)<|sI c) true _:=za<|h4 _ _ _;have o:WD _ (S (sI a) (sI b)<|sI c) true _:=za<|h5 _ _ _;have h:WD _ (S (sI a) (sI b)<|sI c) true _:=za<|hj _ _ _;have s:=QB hJ i g;have bc:=QB hJ g j;exact⟨_,g5 _ _ _ _,Md (ds:=[.str "parting",.int a,.int b,.int c]) (OG (w_ hJ s j h (w_ hJ i g h l m) o)<|w_ hJ i bc h l<|w_ hJ g j h m o) EB (Cv (zE zb<|zE l<|zE m<|zE o yG) (W6 rfl) rfl rfl) ⟨_,rfl⟩⟩) ⟨z,rfl⟩
  rcases k with⟨p,q,⟨t,rfl⟩,r⟩|k
  . exact .inl ⟨_,q,⟨_,_,rfl⟩,r⟩
  . exact .inr k) ⟨y,z,rfl⟩
 rcases k with⟨p,q,⟨u,t,rfl⟩,r⟩|k
 . exact .inl ⟨_,q,⟨_,_,_,rfl⟩,r⟩
 . exact .inr k
end
abbrev B2(r:Option O)(P:Prop):Prop:=(RE r .non/\P)\/((∃ds,RE r<|.tup ds)/\¬P)
def Mo{n m:Nat}{P:Prop}(hl:ds.length=m)(h:(Rt (c<|vU n ds) .non/\P)\/((∃es,Rt (c<|vU n ds)<|.tup es)/\¬P)):B2 (xY n m c ds) P:=by
 rcases h with⟨h,p⟩|⟨⟨a,h⟩,p⟩
 . exact .inl ⟨zN hl h,p⟩
 . exact .inr ⟨⟨a,zN hl h⟩,p⟩
def Lk{P Q:Prop}(h:Ux (f as) I P)(k:∀as',I as'->P->(Rt (g as') .non/\Q)\/((∃es,Rt (g as')<|.tup es)/\¬Q)):(Rt (zh f g as) .non/\P/\Q)\/((∃es,Rt (zh f g as)<|.tup es)/\¬(P/\Q)):=by
 rcases h with⟨b,a,c,p⟩|⟨o,a,⟨c,d,i⟩,p⟩
 . rcases k b c p with⟨e,q⟩|⟨⟨d,e⟩,q⟩
   . exact .inl ⟨zc a e,p,q⟩
   . exact .inr ⟨⟨d,zc a e⟩,λz=>q z.2⟩
 . exact .inr ⟨⟨d,o,vY a,c,i⟩,λz=>p z.1⟩
def Kg:(Rt (zy (fC .non) as) .non/\True)\/((∃es,Rt (zy (fC .non) as)<|.tup es)/\¬True):=.inl ⟨zF<|WD.e zb,trivial⟩
def B2.imp{P Q:Prop}(h:B2 r P)(k:P ↔ Q):B2 r Q:=by
 rcases h with⟨h,p⟩|⟨h,p⟩
 . exact .inl ⟨h,k.mp p⟩
 . exact .inr ⟨h,λz=>p<|k.mpr z⟩
section
variable{n m:Nat}{J T:TZ}{e:Int}{Ds:DD}{S:SS}
abbrev Dn(n m:Nat)(J T:TZ):Prop:=∀a,zR n a->∀i,zR m i->∀b,zR n b->∀k,zR m k->yJ T ((i+k)%m) (yJ J a b)=yJ J (yJ T i a) (yJ T k b)
def XR(hT:Tab m n T)(hw:zR m w)(hv:zR n v)(ha:WD a as true (xZ T))(hb:WD b as true (.int w))(hc:WD c as true (.int v)):WD (f2 (f2 a b zx) c zx) as true (.int<|yJ T w v)/\zR n (yJ T w v):=
 ⟨zY (Xq ha hb (ZL hT hw).1) hc (rowAt (ZL hT hw).2 hv).1 rfl,(rowAt (ZL hT hw).2 hv).2⟩
abbrev mH:SF:=(xk (fT<|f2 (f2 (f2 (fV 2) (f2 (f2 (fV 7) (fV 9)<|ZM .Add) (fV 4)<|ZM .Mod) zx) (f2 (f2 (fV 5) (fV 6) zx) (fV 8) zx) zx) (f2 (f2 (fV 5) (f2 (f2 (fV 2) (fV 7) zx) (fV 6) zx) zx) (f2 (f2 (fV 2) (fV 9) zx) (fV 8) zx) zx)<|zw .NotEq) (zy<|yf<|dC (fC<|.str "doing")<|dC (fV 1)<|dC (fV 6)<|dC (fV 7)<|dC (fV 8)<|dC (fV 9) dN) xh)
abbrev LV(n m:Nat)(J T:TZ)(e:Int)(Ds:DD)(S:SS)(s:Str)(x y z w:Option O):AS:=[sT<|vO n m J e Ds S,sT<|.str s,sT<|xZ T,sI n,sI m,sT<|xZ J,x,y,z,w]
def iX{a i b:Int}(hJ:Tab n n J)(hT:Tab m n T)(m1:1<=m)(ha:zR n a)(hi:zR m i)(hb:zR n b):Ux (forL (gN 9) mH (yR 0 m)<|LV n m J T e Ds S s (sI a) (sI i) (sI b) w) (λas=>∃w,as=LV n m J T e Ds S s (sI a) (sI i) (sI b) w) (∀k,zR m k->yJ T ((i+k)%m) (yJ J a b)=yJ J (yJ T i a) (yJ T k b)):=by
 refine XD (fr:=xh) _ _ (λk l as o=>?_) ⟨w,rfl⟩;obtain⟨w,rfl⟩:=o;have c:WD (fV 2) (LV n m J T e Ds S s (sI a) (sI i) (sI b)<|sI k) true _:=za rfl;have j:WD (fV 5) (LV n m J T e Ds S s (sI a) (sI i) (sI b)<|sI k) true _:=za rfl;have d:WD (fV 6) (LV n m J T e Ds S s (sI a) (sI i) (sI b)<|sI k) true _:=za rfl;have f:WD (fV 7) (LV n m J T e Ds S s (sI a) (sI i) (sI b)<|sI k) true _:=za rfl;have g:WD (fV 8) (LV n m J T e Ds S s (sI a) (sI i) (sI b)<|sI k) true _:=za rfl;have h:WD (fV 9) (LV n m J T e Ds S s (sI a) (sI i) (sI b)<|sI k) true _:=za rfl;obtain⟨p,q⟩:=XR hT hi ha c f d;obtain⟨r,t⟩:=XR hT l hb c h g;have u:=QB hJ ha hb;obtain⟨v,y⟩:=XR hT (X0 m1) u c (ya (zM f h) (za (i:=4) rfl)<|by trivial)<|w_ hJ ha hb j d g;exact⟨_,rfl,Md (OG v<|w_ hJ q t j p r) EB (Cv ⋯ (W6 rfl) rfl rfl) ⟨_,rfl⟩⟩
def B2.none{P:Prop}(h:B2 r P)(p:P):RE r .non:=by
 rcases h with⟨h,_⟩|⟨_,h⟩
 . exact h
 . exact absurd p h
def LawA.un(L:LawA n m J e Ds):mE n J e:=λa b=>⟨L.lj.ul a b,L.lj.ur a b⟩
theorem LawA.as(L:LawA n m J e Ds):As n J:=λa d b f c g=>L.lj.as a b c d f g
theorem LawA.dn(L:LawA n m J e Ds)(hp:p ∈ Ds):Dn n m J p.2:=λa c i d b f k g=>(L.ld p hp).dn a i b k c d f g
end
noncomputable def iP(b k:Int):Int:=if k=0 then b/2 else b%2
def jP(a b:Int):Int:=2*iP b (a/2)+iP b (a%2)
noncomputable def sP(a:Int):Int:=2*(1-a%2)+1-a/2
def ja:LJ 4 jP 1:=by
 refine⟨λa b d e=>?_,⟨by decide,by decide⟩,λa d=>?_,λa d=>?_,λa b c d e f=>?_⟩
 . revert b;refine f4 (P:=λa=>∀b,zR 4 b->zR 4 _) ?_ d
   have:∀a ∈ ([0,1,2,3]:List Int),∀b ∈ ([0,1,2,3]:List Int),zR 4 (jP a b):=by decide
   exact λa m b e=>f4 (this a m) e
 . exact f4 (P:=λa=>jP 1 a=a) (by decide) d
 . exact f4 (P:=λa=>jP a 1=a) (by decide) d
 . have:∀a ∈ ([0,1,2,3]:List Int),∀b ∈ ([0,1,2,3]:List Int),∀c ∈ ([0,1,2,3]:List Int),jP (jP a b) c=jP a (jP b c):=by decide
   refine f4 (λa m=>f4 (λb g=>f4 (this a m b g) f) e) d
def gh{m:Nat}{r:Int->Int}(h:(∀a,zR 4 a->r a=a)\/(∀a,zR 4 a->r a=sP a)):LD 4 m jP 1 (λ_ a=>r a):=by
 rcases h with h|h
 . refine⟨λc a _ d=>by rw[h a d];exact d,h 1 ⟨by decide,by decide⟩,λa i b k d _ e _=>?_⟩;rw[h a d,h b e,h _<|ja.cl a b d e]
 . refine⟨λc a _ d=>by rw[h a d];exact f4 (P:=λa=>zR 4 _) (by decide) d,h 1 ⟨by decide,by decide⟩,λa i b k d _ e _=>?_⟩;rw[h a d,h b e,h _<|ja.cl a b d e];have:∀a ∈ ([0,1,2,3]:List Int),∀b ∈ ([0,1,2,3]:List Int),sP (jP a b)=jP (sP a) (sP b):=by decide
   exact f4 (λa m=>f4 (this a m) e) d
def gz{n1 n2:Nat}(h1:LJ n1 j1 e1)(h2:LJ n2 j2 e2)(p2:0<n2):LJ (n1*n2) (jB n2 j1 j2) (e1*n2+e2):=by
 refine⟨λa b d e=>?_,Dg h1.ce h2.ce,λa d=>?_,λa d=>?_,λa b c d e f=>?_⟩
 . exact Dg (h1.cl _ _ (z_ p2 d).1 (z_ p2 e).1)<|h2.cl _ _ (z_ p2 d).2 (z_ p2 e).2
 . unfold jB;rw[(Wq h2.ce).1,(Wq h2.ce).2,h1.ul _ (z_ p2 d).1,h2.ul _ (z_ p2 d).2,qH]
 . unfold jB;rw[(Wq h2.ce).1,(Wq h2.ce).2,h1.ur _ (z_ p2 d).1,h2.ur _ (z_ p2 d).2,qH]
 . unfold jB;rw[(Wq<|h2.cl _ _ (z_ p2 d).2 (z_ p2 e).2).1,(Wq<|h2.cl _ _ (z_ p2 d).2 (z_ p2 e).2).2,(Wq<|h2.cl _ _ (z_ p2 e).2 (z_ p2 f).2).1,(Wq<|h2.cl _ _ (z_ p2 e).2 (z_ p2 f).2).2,h1.as _ _ _ (z_ p2 d).1 (z_ p2 e).1 (z_ p2 f).1,h2.as _ _ _ (z_ p2 d).2 (z_ p2 e).2 (z_ p2 f).2]
def i0{n1 n2 m:Nat}(h1:LJ n1 j1 u1)(h2:LJ n2 j2 u2)(p2:0<n2)(e1:LD n1 m j1 u1 d1)(e2:LD n2 m j2 u2 d2):LD (n1*n2) m (jB n2 j1 j2) (u1*n2+u2) (dB n2 d1 d2):=by
 refine⟨λc a h d=>Dg (e1.cl _ _ h (z_ p2 d).1)<|e2.cl _ _ h (z_ p2 d).2, ?_,λa i b k d f e g=>?_⟩
 . unfold dB;rw[(Wq h2.ce).1,(Wq h2.ce).2,e1.em,e2.em]
 . unfold jB dB;rw[(Wq<|h2.cl _ _ (z_ p2 d).2 (z_ p2 e).2).1,(Wq<|h2.cl _ _ (z_ p2 d).2 (z_ p2 e).2).2,(Wq<|e2.cl i _ f (z_ p2 d).2).1,(Wq<|e2.cl i _ f (z_ p2 d).2).2,(Wq<|e2.cl k _ g (z_ p2 e).2).1,(Wq<|e2.cl k _ g (z_ p2 e).2).2,e1.dn _ _ _ _ (z_ p2 d).1 f (z_ p2 e).1 g,e2.dn _ _ _ _ (z_ p2 d).2 f (z_ p2 e).2 g]
def gi{n:Nat}{F B:Int->Int}(h:LJ n j e)(hF:∀a,zR n a->zR n (F a))(hB:∀a,zR n a->zR n (B a))(hFB:∀a,zR n a->F (B a)=a)(q:∀a b,zR n a->zR n b->j' (F a) (F b)=F (j a b)):LJ n j' (F e):=by
 have g:=λa b d f=>by
  have:=q _ _ (hB a d)<|hB b f
  rwa [hFB a d,hFB b f]at this
 refine⟨λa b d f=>by rw[g a b d f];exact hF _<|h.cl _ _ (hB a d)<|hB b f,hF e h.ce,λa d=>?_,λa d=>?_,λa b c d f i=>?_⟩
 . have:=q e _ h.ce<|hB a d
   rwa [h.ul _<|hB a d,hFB a d]at this
 . have:=q _ e (hB a d) h.ce
   rwa [h.ur _<|hB a d,hFB a d]at this
 . have k:=hB a d;have l:=hB b f;have m:=hB c i;rw[g a b d f,g b c f i];have x:=q _ _ (h.cl _ _ k l) m;have y:=q _ _ k<|h.cl _ _ l m;rw[hFB c i]at x;rw[hFB a d]at y;rw[x,y,h.as _ _ _ k l m]
def gE{n m:Nat}{F B:Int->Int}(hm:0<m)(h:LJ n j e)(k:LD n m j e d)(hF:∀a,zR n a->zR n (F a))(hB:∀a,zR n a->zR n (B a))(hFB:∀a,zR n a->F (B a)=a)
 (q:∀a b,zR n a->zR n b->j' (F a) (F b)=F (j a b)) (p:∀c a,zR m c->zR n a->d' c (F a)=F (d c a)):LD n m j' (F e) d':=by
 refine⟨λc a t f=>?_, ?_,λa i b l f r u s=>?_⟩
 . have:=p c _ t<|hB a f;rw[hFB a f]at this;rw[this];exact hF _<|k.cl _ _ t<|hB a f
 . rw[p 0 e ⋯ h.ce,k.em]
 . have g:=hB a f;have o:=hB b u;have x:=q _ _ g o;have y:=p i _ r g;have z:=p l _ s o;rw[hFB a f]at x y;rw[hFB b u]at x z;rw[x,y,z,p _ _ (X0 hm)<|h.cl _ _ g o,q _ _ (k.cl _ _ r g)<|k.cl _ _ s o,k.dn _ _ _ _ g r o s]
def KN(k:Int)(n:Nat):Prop:=(k=0/\1<=n)\/(k=1/\1<=n)\/(k=2/\1<=n)\/(k=3/\n=4)
def jK(k:Int)(n:Nat):Int->Int->Int:=if k=0 then jS n else if k=1 then jM else if k=2 then jL else jP
noncomputable def eK(k:Int):Int:=if k=3 then 1 else 0
def jo{n:Nat}(h:KN k n):LJ n (jK k n) (eK k):=by
 rcases h with⟨rfl,h⟩|⟨rfl,h⟩|⟨rfl,h⟩|⟨rfl,rfl⟩
 . exact jV h
 . exact i9 h
 . exact hW h
 . exact ja
def HN(h:WA fr as [(u,.int i),(v,.int j)])(h0:0<=i)(h1:i<=1000)(h2:0<=j)(h3:j<=1000):yu fr IH as=some (yR i (j-i).toNat,as):=by
 unfold yu;rw[h];show((if -_<=i/\i<2 ^ 62 /\ -_<=j/\j<2 ^ 62 then some _ else none).bind _)=_;rw[if_pos ⋯];rfl
noncomputable abbrev W4(r:List Int):D:=.tup<|r.map D.int
abbrev Zk(T:TZ):D:=.tup<|T.map W4
def EJ{α:Type}{f}{l:List α}{i:Nat}{p}(h:l[i]? = some p):zx (.tup<|l.map f) (.int (i:Int))=some (.im<|f p):=by
 have h:=V0 (v:=f p) (by rw[zzI,h];rfl);show O_ _=_;rw[h];rfl
def lM{k n:Nat}{T}{w:Int}(hT:Tab k n T)(hw:zR k w):zx (Zk T) (.int w)=some (.im<|W4<|Qk T w):=by
 have a:w.toNat<T.length:=by rw[hT.1];exact iT hw
 have g:=zzE a;unfold Qk;rw[g];have:=EJ (f:=W4) g
 rwa [iC hw]at this
def pL{n:Nat}{r}{v:Int}(hr:Row n r)(hv:zR n v):zx (W4 r) (.int v)=some (.im<|.int<|vW r v):=by
 have a:v.toNat<r.length:=by rw[hr.1];exact iT hv
 have g:=zzE a;rw[Vs a];have:=EJ (f:=D.int) g
 rwa [iC hv]at this
def HP{m n:Nat}(hT:Tab m n T)(hw:zR m w)(hv:zR n v)(ha:WD a as true (Zk T))(hb:WD b as true (.int w))(hc:WD c as true (.int v)):WD (f2 (f2 a b zx) c zx) as true (.int<|yJ T w v):=
 zY (Xq ha hb<|lM hT hw) hc (pL (ZL hT hw).2 hv) rfl
section
variable{α:Type}{kf:α->Str}{vf:α->D}
theorem Gy:∀l:List α,QO (l.map λp=>.tup [.str<|kf p,vf p])=some (l.map λp=>(.inr<|kf p,vf p))
 | []=>rfl
 |p::l=>by
  show(QO _).bind _=_;rw[Gy l];rfl
theorem S6:∀(kvs:List (Key×D)),(kvs.map (·.1)).zip (kvs.map (·.2))=kvs
 | []=>rfl
 |p::r=>congrArg _<|S6 r
def qV{l:List α}(nd:(l.map kf).Nodup)(h:WE a as (.lst<|l.map λp=>.tup [.str<|kf p,vf p])):WE (fP (aC a aN) L7) as (.dct<|l.map λp=>(.inr<|kf p,vf p)):=by
 have c:L7 [.lst<|l.map λp=>.tup [.str<|kf p,vf p]]=some (.fd<|l.map λp=>(.inr<|kf p,vf p)):=by
  show(QO _).bind _=_;rw[Gy];refine if_pos ?_;rw[zyB];exact List.pairwise_map.mpr<|(List.pairwise_map.mp nd).imp λh e=>h<|Sum.inr.inj e
 have k:=qA (yV h<|zo) c;rw[show([(true,D.lst _)].all _)=true from rfl,Lc]at k;refine⟨_,k,ZV _, ?_⟩;show D.dct _=_;rw[VN,S6]
end
def xG{i:Nat}{os}(h:WE fe as d)(hi:as[i]? = some (some<|.nd (.ob c ns) os))(hc:c ∈ cs)(hn:f ∉ ns)(hl:ns.length<1000):Xn i cs f fe as=some (as.set i<|some<|.nd (.ob c<|ns++[f])<|os++[.lf true d]):=by
 obtain⟨o,a,b,g⟩:=h;unfold Xn;have e:W3 as (.ow o)=some _:=rfl;simp only[a,zyL,e,hi,if_pos (⟨hc,hn,hl⟩:c ∈ cs/\f ∉ ns/\ns.length<1000),b,g]
def yI(h:f as=some as1)(h2:g as1=o):Za f g as=o:=by
 unfold Za
 rwa [h]
def OX(h:WE fe as d):J5 fe as=some as:=by
 obtain⟨o,a,_,_⟩:=h;unfold J5;rw[a];rfl
def jg{i:Nat}(h:as[i]? = some (sT<|.ob c ns ds))(hc:c ∈ cs)(hl:N4 ns ds f=some d):WD (f1 (fV i)<|zU cs f) as true d:=by
 have:=Lo (za h) hc hl
 rwa [zyD]at this
def bh(A B:TZ):TZ:=(A.zip B).map λp=>p.1.map<|vW p.2
def uG{m n:Nat}(hA:Tab m n A)(hB:Tab m n B){i:Nat}(hi:i<m):(bh A B)[i]? = some ((Qk A i).map<|vW<|Qk B i):=by
 have a:=zzE (by rwa [hA.1]);have b:=zzE (by rwa [hB.1]);unfold bh Qk;rw[zzI,zyI,a,b];have:_[i]? = some (A[i]'_,B[i]'_):=List.getElem?_zip_eq_some.mpr ⟨a,b⟩;rw[this];rfl
def uj{m n:Nat}(hA:Tab m n A)(hB:Tab m n B):Tab m n (bh A B):=by
 refine⟨by unfold bh;rw[zzB,List.length_zip,hA.1,hB.1,Nat.min_self],λr h=>?_⟩;obtain⟨p,b,rfl⟩:=zxB.mp h;obtain⟨c,d⟩:=List.of_mem_zip b;have a:=hA.2 _ c;have e:=hB.2 _ d;exact⟨by rw[zzB];exact a.1,λx f=>by
  obtain⟨y,g,rfl⟩:=zxB.mp f;exact(rowAt e<|a.2 y g).2⟩
def oh{m n:Nat}(hA:Tab m n A)(hB:Tab m n B)(hc:zR m c)(ha:zR n a):yJ (bh A B) c a=yJ B c (yJ A c a):=by
 have d:=iT hc;have g:=uG hA hB d;have e:=iC hc;rw[e]at g;have f:=(ZL hA hc).2;show vW _ a=vW _ (vW _ a);rw[g];show vW ((Qk A c).map _) a=_;have b:a.toNat<(Qk A c).length:=by rw[f.1];exact iT ha
 rw[Vs (by rwa [zzB]),List.getElem_map,Vs b]
end PF
end
section
namespace G42
open PySem PySem.Spec PyProof.Rows L2 PF
abbrev zi:EF:=fV 1
abbrev zT:EF:=fC<|.int 0
abbrev zk:EF:=fV 0
abbrev yE:EF:=fC<|.int 2
abbrev zA:EF:=fC<|.int 1
abbrev zv:EF:=fV 2
abbrev YK:EF:=fC<|.int 4
abbrev Wp:GF:=gN 4
abbrev zP:EF:=fV 4
abbrev zz:EF:=fV 3
abbrev xF:GF:=gN 0
abbrev zp:=ZM .Add
abbrev yq:EF:=fV 5
abbrev L_:EF:=fC<|.int 5
abbrev xm:EF:=fV 6
abbrev Qa:EF:=fV 7
abbrev Pc:EF:=fV 11
abbrev zC:=ZM .Mod
abbrev zS:=ZM .Mult
abbrev PY:EF:=fC<|.int 8
abbrev zq:=ZM .FloorDiv
abbrev ZN:EF:=fC<|.int 3
abbrev yp:=ZM .Sub
abbrev S0:EF:=fC<|.int 6
abbrev Zd:AF:=aC (fV 3) aN
abbrev wY:AF:=aC (fV 0) aN
abbrev yy:AF:=aC (fV 1) aN
abbrev vN:AF:=aC (fV 2) aN
abbrev Py:AF:=aC (fV 5) aN
abbrev CZ:AF:=aC (fV 7) aN
noncomputable def w5:List Str:=["Knot"]
noncomputable def YR:List Str:=["Knot"]
noncomputable def vX:List Str:=["Knot"]
noncomputable def ZY:List Str:=["Knot"]
noncomputable def Xp:List Str:=["Knot"]
noncomputable def Zb:List Str:=["Knot"]
noncomputable def yz:List Str:=["Knot"]
noncomputable def xV:List Str:=["Knot","Ways"]
noncomputable def Px:List Str:=["Ways"]
noncomputable def Wj:List Str:=["Ways"]
noncomputable def wG:List Str:=["Makes"]
noncomputable def xg:List Str:=["Makes"]
noncomputable def PD:List Str:=["Ways"]
noncomputable def Lx:List Str:=["Ways"]
noncomputable def RO:List Str:=["Ways"]
noncomputable abbrev Mz:List Str:=["thing"]
def RM:SF:=(zy<|Tg (Vc zk "int")<|BN<|Vc zk "bool")
def PB:Fn:=xY 1 1 RM
noncomputable abbrev Np:List Str:=["thing","least","most"]
def Q0:SF:=(zy<|Tg (zd wY PB)<|GQ zi zk zv (zw .LtE)<|zw .LtE)
def wU:Fn:=xY 3 3 Q0
noncomputable abbrev UU:List Str:=["algebra","join","nothing","a"]
abbrev kL:SF:=(xk (UP (fT<|f2 (f2 (f2 zi zv zx) zz zx) zz<|zw .NotEq)<|fT<|f2 (f2 (f2 zi zz zx) zv zx) zz<|zw .NotEq) (zy<|yf<|dC (fC<|.str "nothing")<|dC zz dN) xh)
def Zh:SF:=(zh (zm true 1<|f2 zk yE zx)<|zh (zm true 2<|f2 zk ZN zx)<|zh (yx (yu (aC (f2 zk zT zx) aN) yH) (gN 3) kL)<|zy<|fC .non)
def Zl:Fn:=xY 4 1 Zh
noncomputable abbrev UJ:List Str:=["algebra","n","join","a","b","c"]
def Xk:SF:=(zh (zm true 1<|f2 zk zT zx)<|zh (zm true 2<|f2 zk yE zx)<|zh (yx (yu yy yH) (gN 3)<|yx (yu yy yH) Wp<|yx (yu yy yH) (gN 5)<|xk (fT<|f2 (f2 (f2 zv (f2 (f2 zv zz zx) zP zx) zx) yq zx) (f2 (f2 zv zz zx) (f2 (f2 zv zP zx) yq zx) zx)<|zw .NotEq) (zy<|yf<|dC (fC<|.str "parting")<|dC zz<|dC zP<|dC yq dN) xh)<|zy<|fC .non)
def Zj:Fn:=xY 6 1 Xk
noncomputable abbrev Td:List Str:=["algebra","name","rows","n","m","join","a","i","b","j"]
def Z6:SF:=(zh (zm true 3<|f2 zk zT zx)<|zh (zm true 4<|f2 zk zA zx)<|zh (zm true 5<|f2 zk yE zx)<|zh (yx (yu Zd yH) (gN 6)<|yx (yu (aC zP aN) yH) (gN 7)<|yx (yu Zd yH) (gN 8)<|yx (yu (aC zP aN) yH) (gN 9)<|xk (fT<|f2 (f2 (f2 zv (f2 (f2 Qa (fV 9) zp) zP zC) zx) (f2 (f2 yq xm zx) (fV 8) zx) zx) (f2 (f2 yq (f2 (f2 zv Qa zx) xm zx) zx) (f2 (f2 zv (fV 9) zx) (fV 8) zx) zx)<|zw .NotEq) (zy<|yf<|dC (fC<|.str "doing")<|dC zi<|dC xm<|dC Qa<|dC (fV 8)<|dC (fV 9) dN) xh)<|zy<|fC .non)
def Yb:Fn:=xY 10 3 Z6
noncomputable abbrev Kn:List Str:=["algebra","nothing","name","rows","fault"]
abbrev nj:SF:=(xk (fT<|f2 (f2 (f2 zz zT zx) zi zx) zi<|zw .NotEq) (zy<|yf<|dC (fC<|.str "empty")<|dC zv dN) xh)
def VP:SF:=(zh (zm true 1<|f2 zk ZN zx)<|zh (yx (Yi<|f2 zk YK zx) (gT 2<|yQ (gN 2)<|yQ (gN 3) Yu)<|zh nj<|zh (zm true 4<|zd (aC zk<|aC zv Zd) Yb)<|xk (fT<|f2 zP (fC .non)<|zw .IsNot) (zy zP) xh)<|zy<|fC .non)
def YS:Fn:=xY 5 1 VP
noncomputable abbrev G6:List Str:=["algebra","fault"]
def VQ:SF:=(zh (zm true 1<|zd wY Zl)<|zh (xk (fT<|f2 zi (fC .non)<|zw .Is) (zm true 1<|zd wY Zj) xh)<|zh (xk (fT<|f2 zi (fC .non)<|zw .Is) (zm true 1<|zd wY YS) xh)<|zy zi)
def YT:Fn:=xY 2 1 VQ
noncomputable abbrev RK:List Str:=["algebra","fault"]
def ZC:SF:=(zh (zm true 1<|zd wY YT)<|xk (fT<|f2 zi (fC .non)<|zw .IsNot) IZ xh)
def vJ:Fn:=xY 2 1 ZC
noncomputable abbrev Xd:List Str:=["self","whole","back","wait","turn","one","other"]
abbrev pY:EF:=(FD (fT<|f2 yq (fC .non)<|zw .Is) zT<|f2 zA (fP (aC (f1 yq<|zU yz "deep")<|aC (f1 xm<|zU yz "deep") aN) Tp) zp)
abbrev qw:EF:=(FD (fT<|f2 yq (fC .non)<|zw .Is) zA<|f2 (f1 yq<|zU xV "size") (f1 xm<|zU xV "size") zp)
def Zc:Bc:=(Za (Xn 0 w5 "whole" zi)<|Za (Xn 0 YR "back" zv)<|Za (Xn 0 vX "wait" zz)<|Za (Xn 0 ZY "turn" zP)<|Za (Xn 0 Xp "one" yq)<|Za (Xn 0 Zb "other" xm)<|Za (Xn 0 yz "deep" pY)<|Xn 0 xV "size" qw)
def yi(c:Str):Fn:=sJ c 7 7 Zc
noncomputable abbrev F_:List Str:=["value"]
def TL:SF:=(zy<|zd (aC zk<|aC zk<|aC (fC .non)<|aC (fC<|.bl false)<|aC (fC .non)<|aC (fC .non) aN)<|yi "Knot")
def Wk:Fn:=xY 1 1 TL
noncomputable abbrev LU:List Str:=["self","one","other"]
def Q_:SF:=(zy<|f2 (f2 (f1 zk<|zU Px "table") zi zx) zv zx)
def X8:Fn:=xY 3 3 Q_
def Vx:List (Str×Fn):=[("Ways",X8)]
noncomputable abbrev BS:List Str:=["way","one","other"]
def GK:SF:=(zy<|zd (aC (Z1 Vx "join" zk<|aC (f1 zi<|zU w5 "whole")<|aC (f1 zv<|zU w5 "whole") aN)<|aC (Z1 Vx "join" zk<|aC (f1 zv<|zU YR "back")<|aC (f1 zi<|zU YR "back") aN)<|aC (fC .non)<|aC (fC<|.bl false)<|aC zi vN)<|yi "Knot")
def yr:Fn:=xY 3 3 GK
noncomputable abbrev GI:List Str:=["way","row","half"]
def Tx(self:Fn):SF:=(zh (xk (fT<|f2 (fP yy yo) zT<|zw .Eq) (zy<|fC .non) xh)<|zh (xk (fT<|f2 (fP yy yo) zA<|zw .Eq) (zy<|zd (aC (f2 zi zT zx) aN) Wk) xh)<|zh (zm true 2<|f2 (fP yy yo) yE zq)<|zy<|zd (aC zk<|aC (zd (aC zk<|aC (Xr zi oN (oS zv) Wx) aN) self)<|aC (zd (aC zk<|aC (Xr zi (oS zv) oN Wx) aN) self) aN) yr)
def wV:Nat->Fn
 |0=>λ_=>none
 |n+1=>xY 3 2<|Tx<|wV n
noncomputable abbrev BH:List Str:=["tree"]
def T_:SF:=(zy<|FD (fT<|f2 zk (fC .non)<|zw .Is) zT<|f1 zk<|zU xV "size")
def yS:Fn:=xY 1 1 T_
noncomputable abbrev Tj:List Str:=["self","one","other"]
abbrev Bg:EF:=(zX (xX zk) [none,some 1] xF yK<|f2 zi zk zx)
def WS:SF:=(zy<|fP (aC (zX (Y_<|aC zi vN) [none,none] (gT 2<|yQ xF<|yQ (gN 1) Yu) yK<|fP (aC Bg aN) tupP) aN) tupP)
def Z4:Fn:=xY 3 3 WS
def Ga:List (Str×Fn):=[("Ways",Z4)]
noncomputable abbrev Kl:List Str:=["way","one","other"]
def VI:SF:=(zh (xk (fT<|f2 zi (fC .non)<|zw .Is) (zy zv) xh)<|zh (xk (fT<|f2 zv (fC .non)<|zw .Is) (zy zi) xh)<|zy<|Z1 Ga "behind" zk<|aC zi vN)
def YW:Fn:=xY 3 3 VI
noncomputable abbrev LG:List Str:=["self","wait","value","many"]
def Q4:SF:=(zy<|f2 (f2 zi (f2 zz (f1 zk<|zU Wj "around") zC) zx) zv zx)
def X3:Fn:=xY 4 4 Q4
def VV:List (Str×Fn):=[("Ways",X3)]
noncomputable abbrev M4:List Str:=["way","tree","wait","whole","back"]
abbrev rY:EF:=(zd (aC zk<|aC (f1 zi<|zU vX "wait") vN) YW)
abbrev qf:AF:=(aC (f1 zi<|zU Xp "one")<|aC (f1 zi<|zU Zb "other") aN)
def Pb:SF:=(zh (xk (fT<|f2 zi (fC .non)<|zw .Is) (zy<|fC .non) xh)<|zh (zm true 3<|Z1 VV "made" zk<|aC zv<|aC (f1 zi<|zU w5 "whole")<|aC (f1 zi<|zU xV "size") aN)<|zh (xk (fT<|f2 (f1 zi<|zU yz "deep") zT<|zw .Eq) (zy<|zd Zd Wk) xh)<|zh (zm true 4<|Z1 VV "made" zk<|aC zv<|aC (f1 zi<|zU YR "back")<|aC (f1 zi<|zU xV "size") aN)<|zy<|zd (aC zz<|aC zP<|aC rY<|aC (f1 zi<|zU ZY "turn") qf)<|yi "Knot")
def YC:Fn:=xY 5 3 Pb
noncomputable abbrev Kp:List Str:=["way","tree"]
def VD:SF:=(zh (xk (fT<|f2 zi (fC .non)<|zw .Is) (zy<|fC .non) xh)<|zy<|zd (aC (f1 zi<|zU YR "back")<|aC (f1 zi<|zU w5 "whole")<|aC (f1 zi<|zU vX "wait")<|aC (BN<|f1 zi<|zU ZY "turn") qf)<|yi "Knot")
def xS:Fn:=xY 2 2 VD
noncomputable abbrev Er:List Str:=["way","knot","one","other"]
abbrev rK:SF:=(zh (zm true 2<|zd (aC zk<|aC zv<|aC (f1 zi<|zU vX "wait") aN) YC)<|zm true 3<|zd (aC zk<|aC zz<|aC (f1 zi<|zU vX "wait") aN) YC)
def R_:SF:=(zh (zm true 2<|f1 zi<|zU Xp "one")<|zh (zm true 3<|f1 zi<|zU Zb "other")<|zh (xk (fT<|f2 (f1 zi<|zU vX "wait") (fC .non)<|zw .IsNot) rK xh)<|zh (xk (fT<|f1 zi<|zU ZY "turn") (zy<|yf<|dC (zd (aC zk Zd) xS)<|dC (zd (aC zk vN) xS) dN) xh)<|zy<|yf<|dC zv<|dC zz dN)
def wR:Fn:=xY 4 2 R_
noncomputable abbrev Rj:List Str:=["way","tree","wait","turn","row","owed","contrary","parts","part"]
abbrev nh:EF:=(FD (fT<|f2 zv (fC .non)<|zw .Is) (f1 zi<|zU w5 "whole")<|Z1 VV "made" zk<|aC zv<|aC (f1 zi<|zU w5 "whole")<|aC zA aN)
abbrev uH:AF:=(aC zk<|aC (fV 8)<|aC yq<|aC xm<|aC zP aN)
def Vu(self:List xi->O->Option O):SF:=(xk (fT<|f2 (f1 zi<|zU yz "deep") zT<|zw .Eq) (yc<|wQ 4 (dC nh dN) vH)<|zh (zm true 5 rY)<|zh (zm true 6<|f2 (f1 zi<|zU ZY "turn") zz<|zw .NotEq)<|zh (zm true 7<|FD (fT xm) (yf<|dC (f1 zi<|zU Zb "other")<|dC (f1 zi<|zU Xp "one") dN)<|yf<|dC (f1 zi<|zU Xp "one")<|dC (f1 zi<|zU Zb "other") dN)<|yx (Yi Qa) (gN 8)<|ZJ 4 uH self)
def vF:Nat->List xi->O->Option O
 |0=>λ_ _=>none
 |n+1=>gL 9 5<|Vu<|vF n
noncomputable abbrev SE:List Str:=["way","tree","row"]
def LB:SF:=(zh (zm false 2<|zZ dN)<|zh (xk (fT<|f2 zi (fC .non)<|zw .IsNot) (ZJ 2 (aC zk<|aC zi<|aC (fC .non)<|aC (fC<|.bl false) vN)<|vF 20) xh)<|zy zv)
def Yr:Fn:=xY 3 2 LB
noncomputable abbrev Te:List Str:=["way","one","other","parts","inner"]
abbrev DM:SF:=(zm true 3<|zd (aC zk yy) wR)
def Wu:SF:=(zh DM<|zh (xk (fT<|f2 (f1 (f2 zz zT zx)<|zU yz "deep") (f1 (f2 zz zA zx)<|zU yz "deep")<|zw .GtE) (zy<|zd (aC zk<|aC (f2 zz zT zx)<|aC (zd (aC zk<|aC (f2 zz zA zx) vN) yr) aN) yr) xh)<|zh (zm true 4<|zd (aC zk<|aC (f2 zz zA zx) aN) wR)<|zy<|zd (aC zk<|aC (zd (aC zk<|aC (f2 zz zT zx)<|aC (f2 zP zT zx) aN) yr)<|aC (zd (aC zk<|aC (f2 zP zA zx) vN) yr) aN) yr)
def Z9:Fn:=xY 5 3 Wu
noncomputable abbrev RY:List Str:=["way","one","other","parts","inner"]
def Xu:SF:=(zh (zm true 3<|zd (aC zk vN) wR)<|zh (xk (fT<|f2 (f1 (f2 zz zA zx)<|zU yz "deep") (f1 (f2 zz zT zx)<|zU yz "deep")<|zw .GtE) (zy<|zd (aC zk<|aC (zd (aC zk<|aC zi<|aC (f2 zz zT zx) aN) yr)<|aC (f2 zz zA zx) aN) yr) xh)<|zh (zm true 4<|zd (aC zk<|aC (f2 zz zT zx) aN) wR)<|zy<|zd (aC zk<|aC (zd (aC zk<|aC zi<|aC (f2 zP zT zx) aN) yr)<|aC (zd (aC zk<|aC (f2 zP zA zx)<|aC (f2 zz zA zx) aN) yr) aN) yr)
def Zz:Fn:=xY 5 3 Xu
noncomputable abbrev Oa:List Str:=["way","one","other"]
abbrev qy:TF:=(fT<|f2 (f1 zi<|zU yz "deep") (f2 (f1 zv<|zU yz "deep") zA zp)<|zw .Gt)
abbrev qX:TF:=(fT<|f2 (f1 zv<|zU yz "deep") (f2 (f1 zi<|zU yz "deep") zA zp)<|zw .Gt)
def NO:SF:=(zh (xk qy (zy<|zd (aC zk<|aC zi vN) Z9) xh)<|zh (xk qX (zy<|zd (aC zk<|aC zi vN) Zz) xh)<|zy<|zd (aC zk<|aC zi vN) yr)
def Vf:Fn:=xY 3 3 NO
noncomputable abbrev XX:List Str:=["way","one","other","parts"]
def Wa(self:Fn):SF:=(zh (xk (fT<|f2 zi (fC .non)<|zw .Is) (zy zv) xh)<|zh (xk (fT<|f2 zv (fC .non)<|zw .Is) (zy zi) xh)<|zh (xk qy (zh DM<|zy<|zd (aC zk<|aC (f2 zz zT zx)<|aC (zd (aC zk<|aC (f2 zz zA zx) vN) self) aN) Vf) xh)<|zh (xk qX (zh (zm true 3<|zd (aC zk vN) wR)<|zy<|zd (aC zk<|aC (zd (aC zk<|aC zi<|aC (f2 zz zT zx) aN) self)<|aC (f2 zz zA zx) aN) Vf) xh)<|zy<|zd (aC zk<|aC zi vN) yr)
def yh:Nat->Fn
 |0=>λ_=>none
 |n+1=>xY 4 3<|Wa<|yh n
noncomputable abbrev Uc:List Str:=["way","tree","place","parts","ahead","pair"]
def QQ(self:Fn):SF:=(zh (xk (fT<|f2 zv zT<|zw .Eq) (zy<|yf<|dC (fC .non)<|dC zi dN) xh)<|zh (xk (fT<|f2 zv (f1 zi<|zU xV "size")<|zw .Eq) (zy<|yf<|dC zi<|dC (fC .non) dN) xh)<|zh DM<|zh (zm true 4<|f1 (f2 zz zT zx)<|zU xV "size")<|zh (xk (fT<|f2 zv zP<|zw .Lt) (zh (zm true 5<|zd (aC zk<|aC (f2 zz zT zx) vN) self)<|zy<|yf<|dC (f2 yq zT zx)<|dC (zd (aC zk<|aC (f2 yq zA zx)<|aC (f2 zz zA zx) aN)<|yh 20) dN) xh)<|zh (zm true 5<|zd (aC zk<|aC (f2 zz zA zx)<|aC (f2 zv zP yp) aN) self)<|zy<|yf<|dC (zd (aC zk<|aC (f2 zz zT zx)<|aC (f2 yq zT zx) aN)<|yh 20)<|dC (f2 yq zA zx) dN)
def xo:Nat->Fn
 |0=>λ_=>none
 |n+1=>xY 6 3<|QQ<|xo n
noncomputable abbrev Ti:List Str:=["place","least","most"]
def Z5:SF:=(xk (wF<|fT<|zd (aC zk<|aC zi vN) wU) IZ xh)
def yY:Fn:=xY 3 3 Z5
noncomputable abbrev K_:List Str:=["size"]
def Yx:SF:=(xk (fT<|f2 zk (fC<|.int 300)<|zw .Gt) IZ xh)
def xU:Fn:=xY 1 1 Yx
noncomputable abbrev A_:List Str:=["rows"]
def Ot:SF:=(zy<|fP (aC (zX (xX zk) [none] xF yK<|fP wY tupP) aN) tupP)
def Ln:Fn:=xY 1 1 Ot
noncomputable abbrev Mh:List Str:=["_law_script","_law_k","_law_most","_law_x","_law_found","_law_j"]
abbrev qx:EF:=(f2 (fC<|.int 1000) (f2 (fC<|.int 10) (fC<|.int 64)<|ZM .Pow) zS)
abbrev qF:EF:=(f2 (f2 (f2 (f2 zk zi zx) zv zC) (f2 (fC<|.int 7919) (fC<|.int 15)<|ZM .Pow) zS) zv zC)
abbrev pe:EF:=(f2 (f2 (f2 zi zi zS) (f2 (fC<|.int 7) zi zS) zp) (fC<|.int 11) zp)
abbrev pP:SF:=(zm true 3<|f2 zz (f2 (f2 (f2 zk (f2 zi (fP wY yo) zC) zx) (fC<|.int 1000003) zC) (f2 (f2 yE zi zS) zA zp) zS) zp)
abbrev oK:SF:=(zm true 3<|f2 (f2 (f2 (f2 (f2 zz zz zS) (f2 (fC<|.int 48271) zz zS) zp) (f2 (fC<|.int 69621) yq zS) zp) zi zp) (fC<|.int 2147483629) zC)
abbrev pR:SF:=(zm true 4<|f2 (f2 zP (fC<|.int 998244353) zS) (f2 (f2 zz (fC<|.int 16807) zS) (fC<|.int 2147483587) zC) zp)
def Pg:SF:=(zh (zm true 2 qx)<|zh (xk (fT<|f2 zi (fP wY yo)<|zw .Lt) (zy qF) xh)<|zh (zm true 3 pe)<|zh (xk (fT<|f2 zk (zZ dN)<|zw .NotEq) pP xh)<|zh (zm true 4 zT)<|zh (yx (yu (aC PY aN) yH) (gN 5)<|zh oK pR)<|zy<|f2 zP zv zC)
def ym:Fn:=xY 6 2 Pg
noncomputable abbrev Kc:List Str:=["_law_x","_law_sizes","_law_found","_law_size"]
def Vq:SF:=(zh (zm false 2<|zZ dN)<|zh (yx (Yi zi) (gN 3)<|zh (yc<|wQ 2 (dC (f2 zk zz zC) dN) vH)<|zm true 0<|f2 zk zz zq)<|zy zv)
def yt:Fn:=xY 4 2 Vq
noncomputable abbrev NU:List Str:=["_law_x","_law_many","_law_letters","_law_size","_law_at","_law_step_here","_law_names_here","_law_k","_law_name","_law_j","_law_turn"]
abbrev pw:EF:=(zd (aC zk<|aC (zZ<|dC PY<|dC (fC<|.int 840)<|dC PY dN) aN) yt)
abbrev oO:EF:=(f2 (zZ<|dC zT<|dC yE<|dC YK<|dC S0<|dC PY<|dC (fC<|.int 10)<|dC (fC<|.int 14)<|dC (fC<|.int 16) dN) yq zx)
abbrev tq:EF:=(f2 zk (f2 (fC<|.int 53761) (f2 (f2 (fC<|.int 26) (fV 9) zS) (fV 9) zS) zp) zq)
abbrev su:SF:=(zm true 10<|f2 (fV 10) (f2 Qa (f2 yq zA zp) zS) zp)
abbrev rC:SF:=(zm true 8<|f2 (fV 8) (f2 zv (f2 (fV 10) (fC<|.int 26) zC) zx) zp)
def Q8:SF:=(zh (zm true 2<|fC<|.str "abcdefghijklmnopqrstuvwxyz")<|zh (YI pw<|gT 3<|yQ (gN 3)<|yQ Wp<|yQ (gN 5) Yu)<|zh (zm true 5 oO)<|zh (zm true 4<|f2 zP (f2 zz zA zp) zC)<|zh (zm false 6<|zZ dN)<|zh (yx (yu yy yH) (gN 7)<|zh (zm true 8<|fC<|.str "")<|zh (yx (yu (aC (f2 zz zA zp) aN) yH) (gN 9)<|zh (zm true 10 tq)<|zh (xk (fT<|f2 (fV 9) zP<|zw .Eq) su xh) rC)<|yc<|wQ 6 (dC (fV 8) dN) vH)<|zy xm)
def ZS:Fn:=xY 11 2 Q8
noncomputable abbrev UT:List Str:=["_law_part","_law_a","_law_b","_law_kind","_law_size"]
abbrev Da:EF:=(zZ<|dC (f2 zv yE zq)<|dC (f2 zv yE zC) dN)
def Xj:SF:=(zh (YI zk<|gT 2<|yQ (gN 3)<|yQ Wp Yu)<|zh (xk (fT<|f2 zz zT<|zw .Eq) (zy<|f2 (f2 zi zv zp) zP zC) xh)<|zh (xk (fT<|f2 zz zA<|zw .Eq) (zy<|fP (aC zi vN) Tp) xh)<|zh (xk (fT<|f2 zz yE<|zw .Eq) (zy<|f2 (zZ<|dC zv<|dC zi dN) (fP (aC (f2 zv zT<|zw .Eq) aN) PC) zx) xh)<|zy<|f2 (f2 yE (f2 Da (f2 zi yE zq) zx) zS) (f2 Da (f2 zi yE zC) zx) zp)
def wI:Fn:=xY 5 3 Xj
noncomputable abbrev Us:List Str:=["_law_part","_law_x","_law_c","_law_a","_law_kind","_law_size"]
abbrev ph:EF:=(f2 zi (f2 (zZ<|dC zA<|dC ZN<|dC (fC<|.int 9)<|dC (fC<|.int 27)<|dC (fC<|.int 81)<|dC (fC<|.int 243)<|dC (fC<|.int 729) dN) zk zx) zq)
def Y1:SF:=(zh (YI zk<|gT 2<|yQ Wp<|yQ (gN 5) Yu)<|zh (xk (fT<|f2 zP zT<|zw .Eq) (zy<|f2 (f2 (f2 (f2 zi yq zC) zz zS) (f2 (f2 (f2 zi yq zq) yq zC) zv zS) zp) yq zC) xh)<|zh (xk (fT<|f2 zP zA<|zw .Eq) (zy<|fP (aC (f2 yq zA yp)<|aC (fP (aC (zX (yu Zd yH) [none,some 1] xF yK<|f2 ph ZN zC) aN) D3) aN) P6) xh)<|zh (xk (fT<|f2 zP yE<|zw .Eq) (zy<|f2 (fP (aC (f2 zz zT<|zw .Gt) aN) PC) (f2 zA (f2 (f2 zi (f2 (zZ<|dC zA<|dC S0<|dC (fC<|.int 36)<|dC (fC<|.int 216)<|dC (fC<|.int 1296)<|dC (fC<|.int 7776)<|dC (fC<|.int 46656) dN) zz zx) zq) (fP (aC zA<|aC (f2 yq zA yp) aN) Tp) zC) zp) zS) xh)<|zh (xk (fT<|f2 (f2 zi yE zC) zT<|zw .Eq) (zy zz) xh)<|zy<|f2 (f2 (f2 yE (f2 zA (f2 zz yE zC) yp) zS) zA zp) (f2 zz yE zq) yp)
def xr:Fn:=xY 6 4 Y1
noncomputable abbrev Ly:List Str:=["_law_x","_law_some"]
def QY:SF:=(zh (zm true 1<|zZ<|dC (zZ<|dC (yf<|dC zT<|dC ZN dN) dN)<|dC (zZ<|dC (yf<|dC yE<|dC ZN dN) dN)<|dC (zZ<|dC (yf<|dC zA<|dC YK dN) dN)<|dC (zZ<|dC (yf<|dC zT<|dC yE dN)<|dC (yf<|dC yE<|dC yE dN) dN)<|dC (zZ<|dC (yf<|dC ZN<|dC YK dN) dN)<|dC (zZ<|dC (yf<|dC yE<|dC YK dN) dN)<|dC (zZ<|dC (yf<|dC zT<|dC yE dN)<|dC (yf<|dC zA<|dC ZN dN) dN)<|dC (zZ<|dC (yf<|dC zT<|dC L_ dN) dN) dN)<|zh (zm true 1<|f2 zi (zZ<|dC (zZ<|dC (yf<|dC yE<|dC yE dN)<|dC (yf<|dC ZN<|dC YK dN) dN)<|dC (zZ<|dC (yf<|dC zA<|dC yE dN)<|dC (yf<|dC yE<|dC ZN dN) dN)<|dC (zZ<|dC (yf<|dC zT<|dC YK dN) dN)<|dC (zZ<|dC (yf<|dC ZN<|dC YK dN) dN)<|dC (zZ<|dC (yf<|dC zA<|dC S0 dN) dN)<|dC (zZ<|dC (yf<|dC zT<|dC yE dN)<|dC (yf<|dC ZN<|dC YK dN) dN) dN) zp)<|zh (zm true 1<|f2 zi (zZ<|dC (zZ<|dC (yf<|dC yE<|dC (fC<|.int 7) dN) dN)<|dC (zZ<|dC (yf<|dC zT<|dC S0 dN) dN) dN) zp)<|zy<|f2 zi (f2 zk (fC<|.int 16) zC) zx)
def XT:Fn:=xY 2 1 QY
noncomputable abbrev L6:List Str:=["_law_parts_here","_law_value","_law_found","_law_kind","_law_size"]
def Ub:SF:=(zh (zm false 2<|zZ dN)<|zh (yx (Yi zk) (gT 2<|yQ (gN 3)<|yQ Wp Yu)<|zh (yc<|wQ 2 (dC (f2 zi zP zC) dN) vH)<|zm true 1<|f2 zi zP zq)<|zy zv)
def Xy:Fn:=xY 5 2 Ub
noncomputable abbrev ML:List Str:=["_law_parts_here","_law_row_here","_law_value","_law_part","_law_one"]
abbrev uS:AF:=(aC (Xr zk oN (oS<|f1 zA P9) sL)<|aC (Xr zi oN (oS<|f1 zA P9) sL) aN)
abbrev rz:SF:=(zm true 2<|f2 (f2 zv (f2 zz zA zx) zS) zP zp)
def Po:SF:=(zh (zm true 2 zT)<|zh (yx (Y_ uS) (gT 2<|yQ (gN 3)<|yQ Wp Yu) rz)<|zy zv)
def xq:Fn:=xY 5 2 Po
noncomputable abbrev LN:List Str:=["_law_x","_law_n","_law_order_here","_law_k"]
abbrev o4:SF:=(yc<|wQ 2 (dC (f2 zk (f2 zz zA zp) zC)<|dC zz dN) Bh)
def QW:SF:=(zh (zm false 2<|zZ dN)<|zh (yx (yu yy yH) (gN 3)<|zh o4<|zm true 0<|f2 zk (f2 zz zA zp) zq)<|zy zv)
def XH:Fn:=xY 4 2 QW
noncomputable abbrev Tc:List Str:=["_law_script","_law_start","_law_parts_here","_law_n","_law_m","_law_order_here","_law_values","_law_join","_law_a","_law_deeds","_law_names_here","_law_k","_law_x","_law_rows","_law_c","_law_signs","_law_nothing"]
abbrev qU:SF:=(zm true 2<|zd (aC (zd (aC zk yy) ym) aN) XT)
abbrev r_:SF:=(zm true 3<|f2 (zd (aC zv<|aC (zX (xX zv) [none,none] (gT 2<|yQ xF<|yQ (gN 1) Yu) yK<|f2 zi zA yp) aN) xq) zA zp)
abbrev nJ:SF:=(zm true 4<|f2 zA (f2 (f2 (zd (aC zk yy) ym) (fC<|.int 16) zq) YK zC) zp)
abbrev nQ:SF:=(xk (fT<|f2 (f2 (f2 zv zT zx) zT zx) zT<|zw .Eq) (zm true 4<|f2 (f2 zv zT zx) zA zx) xh)
abbrev rO:SF:=(zm true 5<|zd (aC (zd (aC zk<|aC (f2 zi zA zp) aN) ym) Zd) XH)
abbrev qu:SF:=(zm true 6<|zX (yu Zd yH) [none,some 2,some 5] xF yK<|zd (aC zi<|aC (Tz .lst zv wY Mn) aN) Xy)
abbrev Dr:GF:=(gT 3<|yQ xF<|yQ (gN 1)<|yQ (gN 2) Yu)
abbrev kZ:SF:=(yc<|wQ 7 (dC (zX (xX xm) [none,some 2,some 8] xF yK<|zd (aC zi<|aC (zX (E1<|aC zi<|aC zv wY) [none,none,none] Dr yK<|zd (aC zk<|aC zi vN) wI) aN) xq) dN) vH)
abbrev nS:SF:=(zm true 10<|zd (aC (zd (aC zk<|aC (f2 zi yE zp) aN) ym)<|aC (fC<|.int 7) aN) ZS)
abbrev nr:EF:=(zd (aC zk<|aC (f2 (f2 zi YK zp) Pc zp) aN) ym)
abbrev ky:SF:=(yc<|wQ 13 (dC (zX (xX xm) [none,some 2,some 12,some 14] xF yK<|zd (aC zi<|aC (zX (Y_<|aC zi wY) [none,none,some 2,some 3] (gT 2<|yQ xF<|yQ (gN 1) Yu) yK<|zd (aC zk<|aC zv<|aC zz yy) xr) aN) xq) dN) vH)
abbrev qC:EF:=(yf<|dC (f2 (fV 10) Pc zx)<|dC (zX (xX<|fV 13) [none,some 5] xF yK Bg) dN)
abbrev jx:SF:=(zh (zm true 12 nr)<|zh (zm false 13<|zZ dN)<|zh (yx (yu (aC zP aN) yH) (gN 14) ky)<|yc<|wQ 9 (dC qC dN) vH)
abbrev pA:SF:=(yx (yu (aC (f2 zA (f2 (zd (aC zk<|aC (f2 zi ZN zp) aN) ym) YK zC) zp) aN) yH) (gN 11) jx)
abbrev nB:EF:=(f2 (zd (aC zk<|aC (f2 (f2 zi (fC<|.int 9) zp) Pc zp) aN) ym) (fC<|.int 7) zq)
abbrev ri:TF:=(fT<|f2 (f2 (f2 zi (f2 (zZ<|dC zA<|dC yE<|dC YK<|dC PY<|dC (fC<|.int 16)<|dC (fC<|.int 32)<|dC (fC<|.int 64)<|dC (fC<|.int 128) dN) zk zx) zq) yE zC) zA<|zw .Eq)
abbrev jN:SF:=(zh (zm true 12 nB)<|yc<|wQ 15 (dC (yf<|dC (f2 (fV 10) (f2 YK Pc zp) zx)<|dC (zX (yu Zd yH) [none,some 12] xF ri zk) dN) dN) vH)
abbrev rD:SF:=(yx (yu (aC (f2 zA (f2 (zd (aC zk<|aC (f2 zi PY zp) aN) ym) ZN zC) zp) aN) yH) (gN 11) jN)
abbrev qW:SF:=(zm true 16<|f2 yq (zd (aC zv<|aC (zX (xX zv) [none,none] (gT 2<|yQ xF<|yQ (gN 1) Yu) yK<|fP (aC (f2 zk ZN<|zw .Eq) aN) PC) aN) xq) zx)
abbrev pS:DF:=(dC zz<|dC zP<|dC Qa<|dC (fV 16)<|dC (fV 9)<|dC (fV 15) dN)
def WI:SF:=(zh qU<|zh r_<|zh nJ<|zh nQ<|zh rO<|zh qu<|zh (zm false 7<|zZ dN)<|zh (yx (Yi xm) (gN 8) kZ)<|zh (zm false 7<|zX (xX Qa) [none,some 5] xF yK Bg)<|zh (zm false 9<|zZ dN)<|zh nS<|zh pA<|zh (zm false 15<|zZ dN)<|zh rD<|zh qW<|zy<|yf pS)
def Z8:Fn:=xY 17 2 WI
noncomputable abbrev Uy:List Str:=["_law_script","_law_cells","_law_odd","_law_n","_law_m","_law_deeds","_law_signs","_law_nothing","_law_names_here","_law_table","_law_join","_law_told","_law_k","_law_rows","_law_held","_law_bits"]
abbrev oZ:EF:=(f2 (fC<|.int 12) (fP (aC (Xr zk oN (oS<|fC<|.int 12) Wx) aN) yo) yp)
abbrev lZ:EF:=(f2 (zX (xX<|Xr zk oN (oS<|fC<|.int 12) Wx) [none] xF yK zk) (f2 (zZ<|dC zT dN) oZ zS) zp)
abbrev qe:EF:=(zd (aC (f2 zi zT zx)<|aC (zZ<|dC yE<|dC PY<|dC S0<|dC (fC<|.int 7)<|dC L_<|dC PY dN) aN) yt)
abbrev qO:SF:=(YI qe<|gT 6<|yQ (gN 2)<|yQ (gN 3)<|yQ Wp<|yQ (gN 5)<|yQ (gN 6)<|yQ (gN 7) Yu)
abbrev nP:SF:=(zm true 8<|zd (aC (zd (aC zk<|aC (fC<|.int 12) aN) ym)<|aC (fC<|.int 10) aN) ZS)
abbrev pz:SF:=(zm true 9<|zd (aC (f2 zi zA zx)<|aC (f2 (zZ<|dC zz dN) (f2 zz zz zS) zS) aN) yt)
abbrev pN:EF:=(Xr zi (oS<|f2 zv zk zS) (oS<|f2 (f2 zv zk zS) zv zp) Wx)
abbrev oM:SF:=(zm true 10<|zX (yu Zd yH) [none,some 9,some 3] xF yK pN)
abbrev lV:SF:=(zh (zm true 13<|zd (aC (f2 zi (f2 yE (fV 12) zp) zx)<|aC (f2 (zZ<|dC zz dN) (f2 zz zP zS) zS) aN) yt)<|yc<|wQ 11 (dC (yf<|dC (f2 (fV 8) (fV 12) zx)<|dC (zX (yu (aC zP aN) yH) [none,some 13,some 3] xF yK pN) dN) dN) vH)
abbrev ko:SF:=(zh (zm true 15<|zd (aC (f2 zi (f2 PY (fV 12) zp) zx)<|aC (f2 (zZ<|dC yE dN) zz zS) aN) yt)<|yc<|wQ 14 (dC (yf<|dC (f2 (fV 8) (f2 (fC<|.int 9) (fV 12) yp) zx)<|dC (zX (yu Zd yH) [none,some 15] xF (fT<|f2 (f2 zi zk zx) zA<|zw .Eq) zk) dN) dN) vH)
abbrev o8:DF:=(dC zz<|dC zP<|dC (fV 10)<|dC (f2 Qa zz zC)<|dC Pc<|dC (fV 14) dN)
def Xa:SF:=(zh (zm true 1 lZ)<|zh qO<|zh (zm true 3<|f2 zz zA zp)<|zh (zm true 4<|f2 zP zA zp)<|zh nP<|zh pz<|zh oM<|zh (zm false 11<|zZ dN)<|zh (yx (yu Py yH) (gN 12) lV)<|zh (zm false 14<|zZ dN)<|zh (yx (yu (aC xm aN) yH) (gN 12) ko)<|zy<|yf o8)
def wK:Fn:=xY 16 1 Xa
noncomputable abbrev M3:List Str:=["_law_m","_law_join","_law_rows","_law_a","_law_b","_law_i","_law_j","_law_one","_law_other"]
abbrev nW:SF:=(zh (zm true 7<|f2 (f2 zv (f2 (f2 yq xm zp) zk zC) zx) (f2 (f2 zi zz zx) zP zx) zx)<|zh (zm true 8<|f2 (f2 zi (f2 (f2 zv yq zx) zz zx) zx) (f2 (f2 zv xm zx) zP zx) zx)<|xk (fT<|f2 Qa (fV 8)<|zw .NotEq) (zy<|fC<|.bl false) xh)
def RU:SF:=(zh (yx (yu wY yH) (gN 5)<|yx (yu wY yH) (gN 6) nW)<|zy<|fC<|.bl true)
def WY:Fn:=xY 9 5 RU
noncomputable abbrev Tn:List Str:=["_law_algebra_here","_law_n","_law_m","_law_join","_law_nothing","_law_deeds","_law_signs","_law_p","_law_a","_law_b","_law_name","_law_rows","_law_empty"]
abbrev Jy:SF:=(YI zk<|gT 6<|yQ (gN 1)<|yQ (gN 2)<|yQ (gN 3)<|yQ Wp<|yQ (gN 5)<|yQ (gN 6) Yu)
abbrev pX:SF:=(YI (fP (aC Qa yy) ID)<|gT 2<|yQ (gN 8)<|yQ (gN 9) Yu)
abbrev rJ:SF:=(xk (wF<|fT<|zd (aC zv<|aC zz<|aC Pc<|aC (fV 8)<|aC (fV 9) aN) WY) (zy<|fC<|.bl false) xh)
abbrev lA:SF:=(zh pX<|zh (xk (UP (fT<|f2 (f2 (f2 zz zP zx) (fV 8) zx) (fV 8)<|zw .NotEq)<|fT<|f2 (f2 (f2 zz (fV 8) zx) zP zx) (fV 8)<|zw .NotEq) (zy<|fC<|.bl false) xh)<|zh (xk (fT<|f2 (f2 zz (f2 (f2 zz (fV 8) zx) (fV 9) zx) zx) (zX (xX<|f2 zz (fV 9) zx) [none,some 3,some 8] xF yK<|f2 (f2 zi zv zx) zk zx)<|zw .NotEq) (zy<|fC<|.bl false) xh)<|yx (Yi yq) (gT 2<|yQ (gN 10)<|yQ (gN 11) Yu) rJ)
def WQ:SF:=(zh Jy<|zh (yx (yu (aC (f2 zi zi zS) aN) yH) (gN 7) lA)<|zh (zm true 12<|zX (xX yq) [none,none,some 4] (gT 2<|yQ xF<|yQ (gN 1) Yu) (fT<|f2 (f2 (f2 zi zT zx) zv zx) zv<|zw .NotEq) zk)<|zy<|Tg (f2 (fV 12) (zZ dN)<|zw .Eq)<|Tg (f2 yq (zZ dN)<|zw .NotEq)<|f2 xm (zZ dN)<|zw .NotEq)
def Z2:Fn:=xY 13 1 WQ
noncomputable abbrev BP:List Str:=["_law_script","_law_algebra_here"]
abbrev pQ:TF:=(T5 (fT<|f2 (fP wY yo) zT<|zw .Gt)<|fT<|f2 (f2 (f2 zk zT zx) yE zC) zA<|zw .Eq)
def TB:SF:=(zh (xk pQ (zh (zm true 1<|zd wY wK)<|xk (fT<|zd yy Z2) (zy zi) xh) xh)<|zy<|zd (aC zk<|aC zT aN) Z8)
def We:Fn:=xY 2 1 TB
noncomputable abbrev El:List Str:=["_law_algebra_here","_law_n","_law_m","_law_join","_law_nothing","_law_deeds","_law_signs"]
abbrev qz:SF:=(zm true 5<|zX (xX yq) [none,none] (gT 2<|yQ xF<|yQ (gN 1) Yu) yK<|yf<|dC zk<|dC (zX (xX zi) [none] xF yK<|fP wY lstP) dN)
def RH:SF:=(zh Jy<|zh qz<|zy<|yf<|dC zi<|dC zv<|dC (zX (xX zz) [none] xF yK<|fP wY lstP)<|dC zP<|dC yq<|dC (zX (xX xm) [none,none] (gT 2<|yQ xF<|yQ (gN 1) Yu) yK<|yf<|dC zk<|dC (fP yy lstP) dN) dN)
def YJ:Fn:=xY 7 1 RH
noncomputable abbrev Bb:List Str:=["_law_x","_law_n","_law_most","_law_many"]
abbrev pB:TF:=(fT<|f2 (f2 (f2 zk (fC<|.int 64) zq) PY zC) zA<|zw .Eq)
abbrev qc:SF:=(xk pB (zm true 3<|f2 (fC<|.int 20) (f2 (f2 zk (fC<|.int 512) zq) (fC<|.int 40) zC) zp) xh)
def Gc:SF:=(zh (zm true 3<|f2 zk (f2 zv zA zp) zC)<|zh qc<|zy<|zd (aC (f2 zk (fC<|.int 32768) zq)<|aC (f2 (zZ<|dC zi dN) zz zS) aN) yt)
def Qd:Fn:=xY 4 3 Gc
noncomputable abbrev P1:List Str:=["_law_found","_law_due"]
def WB:SF:=(zh (xk (UP (wF<|fT<|Vc zk "list")<|fT<|f2 zk zi<|zw .NotEq) (zy<|fC<|.bl false) xh)<|zy<|f2 (zX (xX zk) [none] xF (UP (fT<|Vc zk "bool")<|wF<|fT<|Vc zk "int") zk) (zZ dN)<|zw .Eq)
def xx:Fn:=xY 2 2 WB
noncomputable abbrev Uu:List Str:=["_law_found","_law_due"]
def YY:SF:=(zy<|Tg (Vc zk "int")<|Tg (BN<|Vc zk "bool")<|f2 zk zi<|zw .Eq)
def yd:Fn:=xY 2 2 YY
noncomputable abbrev Ko:List Str:=["_law_x","_law_many","_law_one","_law_other","_law_kind"]
def VY:SF:=(zh (YI (zd (aC zk<|aC (zZ<|dC (fC<|.int 27720)<|dC (fC<|.int 27720)<|dC L_ dN) aN) yt)<|gT 3<|yQ (gN 2)<|yQ (gN 3)<|yQ Wp Yu)<|zh (zm true 2<|f2 zv (f2 zi zA zp) zC)<|zh (zm true 3<|f2 zz (f2 zi zA zp) zC)<|zh (xk (fT<|f2 zP zT<|zw .Eq) (zy<|yf<|dC zT<|dC zi dN) xh)<|zh (xk (fT<|f2 zP zA<|zw .Eq) (zy<|yf<|dC zv<|dC (fP (aC (f2 zv zA zp) yy) P6) dN) xh)<|zy<|yf<|dC (fP (aC zv Zd) P6)<|dC (fP (aC zv Zd) Tp) dN)
def YU:Fn:=xY 5 2 VY
noncomputable abbrev US:List Str:=["self","make"]
abbrev Dp:EF:=(fP (aC (f1 zk<|zU wG "trees") aN) yo)
def Y5:SF:=(zh (xk (wF<|fT<|zd (aC zi<|aC zT<|aC (f2 Dp zA yp) aN) wU) IZ xh)<|zy<|f2 (f1 zk<|zU wG "trees") zi zx)
def yA:Fn:=xY 2 2 Y5
def yB:List (Str×Fn):=[("Makes",yA)]
noncomputable abbrev Wr:List Str:=["self","make","i","j","tree","pair","ahead"]
abbrev o5:SF:=(yc<|zd (aC zv<|aC zT<|aC (zd (aC zP aN) yS) aN) yY)
def Zp:SF:=(zh (zm true 4<|Z1 yB "tree_at" zk yy)<|zh o5<|zh (yc<|zd (aC zz<|aC zv<|aC (zd (aC zP aN) yS) aN) yY)<|zh (zm true 5<|zd (aC (f1 zk<|zU xg "way")<|aC zP Zd)<|xo 20)<|zh (zm true 6<|zd (aC (f1 zk<|zU xg "way")<|aC (f2 yq zT zx) vN)<|xo 20)<|zy<|yf<|dC (f2 xm zT zx)<|dC (f2 xm zA zx)<|dC (f2 yq zA zx) dN)
def y7:Fn:=xY 7 4 Zp
noncomputable abbrev Vy:List Str:=["self","tree"]
def Zw:VF:=(xN (nF 0 1 wG "trees")<|ZO<|f2 (p8 0 wG "trees") zA yp)
def ye:List xi->O->Option (D×O):=JO 2 2 Zw
def ZE:List (Str×Fn):=[("Makes",y7)]
noncomputable abbrev Uk:List Str:=["self","make","i","j","parts","stretch"]
abbrev Jp:EF:=(xa 0 ZE "three_parts" (aC zi<|aC zv Zd))
abbrev nA:DF:=(dC (wX 0 "Makes" "keep" ye<|aC (zd (aC (BV 0 xg "way")<|aC (f2 zP zT zx)<|aC (f2 zP yE zx) aN)<|yh 20) aN) dN)
def Ua:VF:=(xN (zm true 4 Jp)<|xN (zm true 5<|wX 0 "Makes" "keep" ye<|aC (f2 zP zA zx) aN)<|ZO<|yf<|dC yq nA)
def v9:List xi->O->Option (D×O):=JO 6 4 Ua
noncomputable abbrev Pi:List Str:=["self","make"]
def XC:SF:=(zy<|zd (aC (f1 zk<|zU xg "way")<|aC (Z1 yB "tree_at" zk yy) aN) Yr)
def vC:Fn:=xY 2 2 XC
def Yg:List (Str×Fn):=[("Makes",vC)]
noncomputable abbrev Gg:List Str:=["_law_makes","_law_rows","_law_make","_law_i","_law_j","_law_found"]
abbrev uU:EF:=(wX 0 "Makes" "cut" v9<|aC zv<|aC zz<|aC zP aN)
abbrev tX:EF:=(f2 (Xr (f2 zi zv zx) oN (oS zz) Wx) (Xr (f2 zi zv zx) (oS zP) oN Wx) zp)
abbrev jf:EF:=(zd (aC (f2 yq zT zx)<|aC (f2 (fP yy yo) yE yp) aN) yd)
abbrev nC:TF:=(UP (wF<|fT<|Vc yq "tuple")<|UP (fT<|f2 (fP Py yo) yE<|zw .NotEq)<|wF<|fT jf)
abbrev mQ:EF:=(zd (aC (f2 yq zA zx)<|aC (f2 (fP yy yo) zA yp) aN) yd)
def Wi:VF:=(xN (zm true 5 uU)<|xN (yc<|wQ 1 (dC (P7<|Xr (f2 zi zv zx) (oS zz) (oS zP) Wx) dN) vH)<|xN (yc<|wQ 1 (dC (P7 tX) dN) vH)<|Cf nC (ZO<|fC<|.bl false)<|ZO<|Tg mQ<|zd (aC (xa 0 Yg "listed" (aC (f2 yq zT zx) aN))<|aC (f2 zi (f1 yE P9) zx) aN) xx)
def vQ:List xi->O->O->Option (D×O×O):=qN 0 6 5 Wi
noncomputable abbrev YE:List Str:=["self","ahead","stretch","rest"]
def vG:SF:=(zy<|P7<|zd (aC (f1 zk<|zU xg "way")<|aC (zd (aC (f1 zk<|zU xg "way")<|aC zi vN)<|yh 20) Zd)<|yh 20)
def zK:Fn:=xY 4 4 vG
def xD:List (Str×Fn):=[("Makes",zK)]
noncomputable abbrev XY:List Str:=["self","make","i","j","parts"]
abbrev p_:EF:=(xa 0 xD "three_together" (aC (f2 zP zT zx)<|aC (zd (aC (BV 0 xg "way")<|aC (f2 zP zA zx) aN) xS)<|aC (f2 zP yE zx) aN))
def X2:VF:=(xN (zm true 4 Jp)<|ZO<|wX 0 "Makes" "keep" ye<|aC p_ aN)
def xI:List xi->O->Option (D×O):=JO 5 4 X2
noncomputable abbrev X5:List Str:=["self","make","i","other","tree","second","pair"]
abbrev uW:EF:=(zd (aC (f2 (zd (aC zP aN) yS) (zd Py yS) zp) aN) xU)
abbrev rS:EF:=(xa 0 xD "three_together" (aC (f2 xm zT zx)<|aC yq<|aC (f2 xm zA zx) aN))
def XF:VF:=(xN (zm true 4<|xa 0 yB "tree_at" yy)<|xN (zm true 5<|xa 0 yB "tree_at" Zd)<|xN o5<|xN (yc uW)<|xN (zm true 6<|zd (aC (BV 0 xg "way")<|aC zP vN)<|xo 20)<|ZO<|wX 0 "Makes" "keep" ye<|aC rS aN)
def xJ:List xi->O->Option (D×O):=JO 7 4 XF
noncomputable abbrev UK:List Str:=["self","thing"]
def Xg:SF:=(zy<|zd (aC zi<|aC zT<|aC (f2 (f1 zk<|zU xV "size") zA yp) aN) wU)
def Ze:Fn:=xY 2 2 Xg
def QZ:List (Str×Fn):=[("Ways",Ze)]
noncomputable abbrev Wn:List Str:=["self","thing"]
def wB:SF:=(xk (wF<|fT<|Z1 QZ "is_value" (f1 zk<|zU xg "way") yy) IZ xh)
def yD:Fn:=xY 2 2 wB
def y9:List (Str×Fn):=[("Makes",yD)]
noncomputable abbrev YZ:List Str:=["self","make","i","value","tree","parts"]
abbrev rG:EF:=(xa 0 ZE "three_parts" (aC zi<|aC zv<|aC (f2 zv zA zp) aN))
abbrev oT:EF:=(xa 0 xD "three_together" (aC (f2 yq zT zx)<|aC (zd (aC (BV 0 xg "way")<|aC (zZ<|dC zz dN) aN)<|wV 20)<|aC (f2 yq yE zx) aN))
def Y4:VF:=(xN (zm true 4<|xa 0 yB "tree_at" yy)<|xN (yc<|zd (aC zv<|aC zT<|aC (f2 (zd (aC zP aN) yS) zA yp) aN) yY)<|xN (yc<|xa 0 y9 "check_value" Zd)<|xN (zm true 5 rG)<|ZO<|wX 0 "Makes" "keep" ye<|aC oT aN)
def xu:List xi->O->Option (D×O):=JO 6 4 Y4
noncomputable abbrev Pp:List Str:=["_law_makes","_law_rows","_law_x","_law_n","_law_make","_law_row_here","_law_i","_law_j","_law_kind","_law_other"]
abbrev oX:SF:=(YI (zd (aC (f2 zv (fC<|.int 1000) zq)<|aC (fP Py yo) aN) YU)<|gT 2<|yQ (gN 6)<|yQ (gN 7) Yu)
abbrev nv:TF:=(T5 (fT<|f2 (fV 8) yE<|zw .Eq)<|fT<|f2 (f2 (fP Py yo) (fP (aC (f2 zi (fV 9) zx) aN) yo) zp) (fC<|.int 61)<|zw .Lt)
abbrev qG:EF:=(f2 (f2 (Xr yq oN (oS xm) Wx) (f2 zi (fV 9) zx) zp) (Xr yq (oS xm) oN Wx) zp)
abbrev ny:TF:=(T5 (fT<|f2 (fV 8) ZN<|zw .Eq)<|fT<|f2 xm (fP Py yo)<|zw .Lt)
abbrev sY:EF:=(f2 (f2 (Xr yq oN (oS xm) Wx) (Xr (Xr yq (oS xm) (oS Qa) Wx) oN (oS<|f1 zA P9) sL) zp) (Xr yq (oS Qa) oN Wx) zp)
def YA:VF:=(xN (zm true 4<|f2 (zZ<|dC (P7<|f2 (fP yy yo) zA yp)<|dC (P7<|f2 (fP yy yo) zA yp)<|dC (P7<|f2 (f2 zv (fC<|.int 12) zq) (fP yy yo) zC) dN) (f2 zv ZN zC) zx)<|xN (zm true 5<|f2 zi zP zx)<|xN oX<|xN (zm true 8<|f2 (f2 zv ZN zq) YK zC)<|xN (zm true 9<|f2 (zZ<|dC zP<|dC (P7<|f2 (f2 zv (fC<|.int 7) zq) (fP yy yo) zC)<|dC (P7<|f2 (f2 zv (fC<|.int 7) zq) (fP yy yo) zC)<|dC zT dN) (f2 (f2 zv (fC<|.int 77) zq) YK zC) zx)<|Cf (fT<|f2 (fV 8) zA<|zw .Eq) (ZO<|XW 0 0 1 (aC zk<|aC zi<|aC zP<|aC xm CZ) vQ)<|Cf nv (xN (yc<|wQ 1 (dC (P7 qG) dN) vH)<|ZO<|zd (aC (wX 0 "Makes" "put_in" xJ<|aC zP<|aC xm<|aC (fV 9) aN)<|aC (f2 (fP yy yo) zA yp) aN) yd)<|Cf ny (xN (yc<|wQ 1 (dC (P7<|f2 (f2 (Xr yq oN (oS xm) Wx) (zZ<|dC (P7<|f2 (f2 zv L_ zq) zz zC) dN) zp) (Xr yq (oS<|f2 xm zA zp) oN Wx) zp) dN) vH)<|ZO<|zd (aC (wX 0 "Makes" "changed" xu<|aC zP<|aC xm<|aC (f2 (f2 zv L_ zq) zz zC) aN)<|aC (f2 (fP yy yo) zA yp) aN) yd)<|xN (yc<|wQ 1 (dC (P7 sY) dN) vH)<|ZO<|zd (aC (wX 0 "Makes" "turned" xI<|aC zP<|aC xm CZ)<|aC (f2 (fP yy yo) zA yp) aN) yd)
def xQ:List xi->O->O->Option (D×O×O):=qN 0 10 4 YA
noncomputable abbrev Ys:List Str:=["self","way"]
def Ym:Bc:=(Za (Xn 0 xg "way" zi)<|AL 0 wG "trees" (zZ dN))
def vT(c:Str):Fn:=sJ c 2 2 Ym
noncomputable abbrev Y8:List Str:=["self","algebra"]
abbrev rn:EF:=(fP (aC (zX (xX<|f2 zi YK zx) [none,none] (gT 2<|yQ xF<|yQ (gN 1) Yu) yK<|yf<|dC zk<|dC (zd yy Ln) dN) aN) L7)
abbrev oR:EF:=(fP (aC (zX (xX<|f2 zi L_ zx) [none,none] (gT 2<|yQ xF<|yQ (gN 1) Yu) yK<|yf<|dC zk<|dC (fP yy tupP) dN) aN) L7)
def Zi:Bc:=(Za (J5<|zd yy vJ)<|Za (Xn 0 xV "size" (f2 zi zT zx))<|Za (Xn 0 Wj "around" (f2 zi zA zx))<|Za (Xn 0 Px "table" (zd (aC (f2 zi yE zx) aN) Ln))<|Za (Xn 0 PD "neutral" (f2 zi ZN zx))<|Za (Xn 0 Lx "waits" rn)<|Xn 0 RO "holders" oR)
def xt(c:Str):Fn:=sJ c 2 2 Zi
noncomputable abbrev VU:List Str:=["self","row","value"]
def Zr:VF:=(xN (xk (wF<|fT<|Vc zi "list") IZ xh)<|xN (yx (Yi zi) (gN 2)<|yc<|xa 0 y9 "check_value" vN)<|xN (yc<|zd (aC (fP yy yo) aN) xU)<|ZO<|wX 0 "Makes" "keep" ye<|aC (zd (aC (BV 0 xg "way") yy)<|wV 20) aN)
def vK:List xi->O->Option (D×O):=JO 3 2 Zr
noncomputable abbrev GT:List Str:=["self","make"]
def VG:SF:=(zy<|zd (aC (Z1 yB "tree_at" zk yy) aN) yS)
def Zt:Fn:=xY 2 2 VG
def KR:List (Str×Fn):=[("Makes",Zt)]
noncomputable abbrev EO:List Str:=["_law_script","_law_algebra_here","_law_makes","_law_rows","_law_k"]
abbrev pM:AF:=(aC (fC<|.int 14)<|aC (fP (aC (fC<|.int 22)<|aC (fP (aC (fP wY yo)<|aC (fC<|.int 63) aN) P6) aN) Tp) aN)
abbrev rd:SF:=(xk (wF<|fT<|XW 0 2 3 (aC zv<|aC zz<|aC (zd (aC zk<|aC zP aN) ym)<|aC (f2 zi zT zx) aN) xQ) (zy<|fC<|.bl false) xh)
abbrev rT:SF:=(xk (wF<|fT<|zd (aC (xa 2 Yg "listed" (aC (f2 (fP Zd yo) zA yp) aN))<|aC (f2 zz (f1 zA P9) zx) aN) xx) (zy<|fC<|.bl false) xh)
abbrev nO:SF:=(xk (UP (wF<|fT<|zd (aC (xa 2 Yg "listed" (aC zP aN))<|aC (f2 zz zP zx) aN) xx)<|wF<|fT<|zd (aC (xa 2 KR "many" (aC zP aN))<|aC (fP (aC (f2 zz zP zx) aN) yo) aN) yd) (zy<|fC<|.bl false) xh)
def J_:SF:=(zh (zm true 1<|zd wY We)<|zh (zm false 2<|zd (aC (zd (aC (zd yy YJ) aN)<|xt "Ways") aN)<|vT "Makes")<|zh (zm false 3<|zZ<|dC (P7<|zd (aC (zd (aC zk<|aC (fC<|.int 13) aN) ym)<|aC (f2 zi zT zx)<|aC (fC<|.int 11) aN) Qd) dN)<|zh (xk (wF<|fT<|zd (aC (wX 2 "Makes" "made" vK<|aC (fP (aC (f2 zz zT zx) aN) lstP) aN)<|aC zT aN) yd) (zy<|fC<|.bl false) xh)<|zh (yx (yu pM IH) Wp<|zh rd rT)<|zh (yx (yu (aC (fP Zd yo) aN) yH) Wp nO)<|zy<|fC<|.bl true)
def TR:Fn:=xY 5 1 J_
set_option genInjectivity false in
set_option genSizeOf false in
structure Txt(P:Program)(w:World)(K:zzA)(mg:Str->Option Value)(base:Heap)(kd:KD):Prop where
 hkd:sX P w K kd
 MZ:Fq K mg "is_whole" Rg
 Nu:Fq K mg "is_within" QV
 UI:Fq K mg "nothing_fails" Y0
 Um:Fq K mg "parting_fails" Y2
 Tu:Fq K mg "doing_fails" WV
 Li:Fq K mg "deeds_fail" VL
 Kq:Fq K mg "what_fails" Vo
 RF:Fq K mg "check_let_by" XU
 BF:Fq K mg "leaf_of" TC
 F8:Fq K mg "knot_of" T9
 TN:Fq K mg "tree_of" GH
 Bv:Fq K mg "size_of" GJ
 K1:Fq K mg "both_waits" Vl
 M6:Fq K mg "done_all" Rx
 GY:Fq K mg "turned_all" Vv
 MI:Fq K mg "parts_of" Rc
 L3:Fq K mg "gather" Nr
 HE:Fq K mg "row_of" Nt
 PX:Fq K mg "leaned_left" Wz
 PU:Fq K mg "leaned_right" XO
 OR:Fq K mg "evened" NJ
 Xz:Fq K mg "put_together" XQ
 QP:Fq K mg "parted_at" QX
 Tw:Fq K mg "check_place" WR
 GN:Fq K mg "check_size" Vp
 DH:Fq K mg "firm" OM
 Ex:Fq K mg "_law_draw" Ra
 KZ:Fq K mg "_law_digits" VE
 NP:Fq K mg "_law_names" Ue
 Up:Fq K mg "_law_part_join" Y3
 UM:Fq K mg "_law_part_done" Xi
 LQ:Fq K mg "_law_parts" QU
 N0:Fq K mg "_law_split" Q6
 En:Fq K mg "_law_laid" PM
 NZ:Fq K mg "_law_order" QT
 Tt:Fq K mg "_law_algebra" WG
 UC:Fq K mg "_law_by_digits" Xh
 M9:Fq K mg "_law_does" PJ
 P8:Fq K mg "_law_is_good" WU
 BK:Fq K mg "_law_any" Gr
 M7:Fq K mg "_law_copy" RA
 Br:Fq K mg "_law_row" Gn
 P4:Fq K mg "_law_is_list" WJ
 Uv:Fq K mg "_law_is_number" Xf
 G2:Fq K mg "_law_places" VC
 Ba:Fq K mg "_law_cut" T7
 Eu:Fq K mg "_law_step" Pe
 nR:Fq K mg "law" EC
 YD:CI K kd mg "Knot" (kd.c "Knot")
 xp:CI K kd mg "Makes" (kd.c "Makes")
 ZI:CI K kd mg "Ways" (kd.c "Ways")
 UO:Mq K kd "Knot" "__init__" "Knot.__init__" Xb
 Nc:Mq K kd "Ways" "join" "Ways.join" QR
 P5:Mq K kd "Ways" "behind" "Ways.behind" WN
 NW:Mq K kd "Ways" "made" "Ways.made" Ul
 Ur:Mq K kd "Makes" "tree_at" "Makes.tree_at" Y7
 Wm:Mq K kd "Makes" "three_parts" "Makes.three_parts" Zn
 KW:Mq K kd "Makes" "keep" "Makes.keep" V2
 Ny:Mq K kd "Makes" "cut" "Makes.cut" Q5
 RB:Mq K kd "Makes" "listed" "Makes.listed" Xv
 Yw:Mq K kd "Makes" "three_together" "Makes.three_together" vE
 Pu:Mq K kd "Makes" "turned" "Makes.turned" X7
 RR:Mq K kd "Makes" "put_in" "Makes.put_in" X6
 UQ:Mq K kd "Ways" "is_value" "Ways.is_value" Xl
 Ws:Mq K kd "Makes" "check_value" "Makes.check_value" Zm
 UR:Mq K kd "Makes" "changed" "Makes.changed" Xm
 QM:Mq K kd "Makes" "__init__" "Makes.__init__" Yk
 Uq:Mq K kd "Ways" "__init__" "Ways.__init__" YX
 KS:Mq K kd "Makes" "made" "Makes.made" V4
 GM:Mq K kd "Makes" "many" "Makes.many" Vt
 K9:yC K (kd.c "Knot") "whole"
 LZ:yC K (kd.c "Knot") "back"
 NB:yC K (kd.c "Knot") "wait"
 LM:yC K (kd.c "Knot") "turn"
 Ms:yC K (kd.c "Knot") "one"
 KB:yC K (kd.c "Knot") "other"
 Nd:yC K (kd.c "Knot") "deep"
 Nn:yC K (kd.c "Knot") "size"
 NR:yC K (kd.c "Ways") "size"
 Lq:yC K (kd.c "Ways") "table"
 To:yC K (kd.c "Ways") "around"
 Tv:yC K (kd.c "Makes") "trees"
 NI:yC K (kd.c "Makes") "way"
 Pf:yC K (kd.c "Ways") "neutral"
 KM:yC K (kd.c "Ways") "waits"
 PL:yC K (kd.c "Ways") "holders"
 Tf:GC K kd mg "MOST_IN_ROW" (.int 300)
 uP:mg "bool"=none
 uT:mg "dict"=none
 HK:mg "divmod"=none
 Aj:mg "int"=none
 Zu:mg "isinstance"=none
 A8:mg "len"=none
 Hk:mg "list"=none
 qk:mg "max"=none
 qg:mg "min"=none
 KH:mg "range"=none
 qI:mg "sum"=none
 FB:mg "tuple"=none
 Sb:mg "zip"=none
abbrev Ct{P:Program}{w:World}{K:zzA}{mg:Str->Option Value}{base:Heap}{kd:KD}(_:Txt P w K mg base kd)(x:Str)(k:Nat)(m:Fn):Prop:=Cn x P w K mg base k<|Qc K kd m
abbrev Cz{P:Program}{w:World}{K:zzA}{mg:Str->Option Value}{base:Heap}{kd:KD}(_:Txt P w K mg base kd)(c m:Str)(k:Nat)(sp:Sp):Prop:=Cm c m P w K mg base kd k sp
abbrev Tm{P:Program}{w:World}{K:zzA}{mg:Str->Option Value}{base:Heap}{kd:KD}(_:Txt P w K mg base kd)(m:Str)(k:Nat)(tb:List (Str×Fn)):Prop:=MT P w K mg base kd m k tb
abbrev Ts{P:Program}{w:World}{K:zzA}{mg:Str->Option Value}{base:Heap}{kd:KD}(_:Txt P w K mg base kd)(m:Str)(k:Nat)(c:Str)(g:List xi->O->Option (D×O)):Prop:=MS P w K mg base kd m k c g
abbrev Cs{P:Program}{w:World}{K:zzA}{mg:Str->Option Value}{base:Heap}{kd:KD}(_:Txt P w K mg base kd)(x:Str)(k:Nat)(sp:Sp):Prop:=Cn x P w K mg base k sp
set_option maxHeartbeats 8000000
def iz(T r:Lean.Ident)(w:List String):Lean.MacroM (Lean.TSyntax `tactic):=do
 let a <-(w.drop 1).toArray.mapM λx=>match x with | "?"=>`(?_) | "="=>`(rfl) | "_"=>`(_) | "R"=>`($r) | "h"=>`(Txt.hkd $T) | "a"=>`(by assumption) | "d"=>`(by decide) | "f"=>`(λ_=>rfl) | "v"=>`(pv _) | "w"=>`(pv 0) | "t"=>`(by trivial) | "o"=>`(($r).mono (by omega)) | "b"=>`(Bt.n _ rfl) | "H"=>`(Txt.hkd $T _ rfl rfl rfl)|x=>let n:Lean.Ident:=Lean.mkIdent (((x.replace "@" "").replace "%" "").replace "!" "").toName;if x.startsWith "@" then `(($n $T))else if x.startsWith "%" then `(($n (Txt.hkd $T _ rfl rfl rfl)))else if x.startsWith "!" then `(($n rfl))else return n
 `(tactic| (refine $(Lean.mkIdent (w.headD "").toName) $a* <;> trivial))
def j6(l:List (Lean.TSyntax `tactic)):Lean.MacroM (Lean.TSyntax `tactic):=do l.foldrM (λa b=>`(tactic| first | $a:tactic | $b:tactic)) (<- `(tactic| fail))
def Gb(T r:Lean.Ident)(q:List (Lean.TSyntax `tactic))(s:String):Lean.MacroM (Lean.TSyntax `tactic):=do
 let l:=s.splitOn ";";let x <-j6 ((<-(l.drop 1).mapM λz=>iz T r<|z.splitOn " ")++q)
 match(l.headD "").splitOn " " with | [h,k]=>`(tactic| (show $(Lean.mkIdent h.toName) $(Array.replicate k.toNat! (<- `(_)))*;$x:tactic))|_=>return x
section
variable{P:Program}{w:World}{K:zzA}{mg:Str->Option Value}{base:Heap}{kd:KD}(T:Txt P w K mg base kd)
include T
def FE:CF K kd w5 "whole":=(x_ T.YD T.K9 wO)
def OZ:CF K kd YR "back":=(x_ T.YD T.LZ wO)
def Od:CF K kd vX "wait":=(x_ T.YD T.NB wO)
def SG:CF K kd ZY "turn":=(x_ T.YD T.LM wO)
def AJ:CF K kd Xp "one":=(x_ T.YD T.Ms wO)
def E6:CF K kd Zb "other":=(x_ T.YD T.KB wO)
def SJ:CF K kd yz "deep":=(x_ T.YD T.Nd wO)
def HX:CF K kd xV "size":=(x_ T.YD T.Nn<|x_ T.ZI T.NR wO)
def FH:CF K kd Px "table":=(x_ T.ZI T.Lq wO)
def L1:CF K kd Wj "around":=(x_ T.ZI T.To wO)
def U9:CF K kd wG "trees":=(x_ T.xp T.Tv wO)
def Sl:CF K kd xg "way":=(x_ T.xp T.NI wO)
def BB:CF K kd PD "neutral":=(x_ T.ZI T.Pf wO)
def Jf:CF K kd Lx "waits":=(x_ T.ZI T.KM wO)
def BD:CF K kd RO "holders":=(x_ T.ZI T.PL wO)
local macro_rules | `(tactic| trivial)=>do let T:=Lean.mkIdent `T;let r:=Lean.mkIdent `hr;j6 [<-Gb T r [<- `(tactic| (refine Se (Lb ((Txt.hkd $T) _ rfl rfl rfl) (NM $r) _) (Lb ((Txt.hkd $T) _ rfl rfl rfl) (NM $r) _) ?_ ?_ ?_ (by with_unfolding_all rfl)<;>trivial)),<- `(tactic| (refine Cb (ty:=.lst) ((Txt.hkd $T) _ rfl rfl rfl) (Sg ((Txt.hkd $T) _ rfl rfl rfl) (NM $r)) PySem.F.plainAttrs_list PySem.F.slot_list_index PySem.F.type_list_index ?_ ?_ rfl rfl rfl rfl rfl<;>trivial)),<- `(tactic| (refine mJ (ME rfl (Txt.hkd $T _ rfl rfl rfl)) (Txt.uT $T) Bt.dict ?_;trivial))] "AE 4;av _;aI;ax h ? ?;bn ? ?;aS;aZ;aB;ec h R ? ?;cn a R ?;DW ?;tH ?;cm ? ? ? ?;HY ? ? ?;ua ? ?;bi %BE @Txt.A8 Bt.len ?;bi !FT @Txt.qk Bt.max ?;bi !Bl @Txt.qg Bt.min ?;bi FP @Txt.HK Bt.divmod ?;bi !BJ @Txt.qI Bt.sum ?;mJ Eo @Txt.Aj Bt.int ?;Ky H = = @Txt.Zu Bt.isinstance = @Txt.Aj Bt.int ? b d b d = = =;mJ FR @Txt.FB Bt.tuple ?;mJ FU @Txt.Hk Bt.list ?;Ky H = = @Txt.Zu Bt.isinstance = @Txt.Hk Bt.list ? b d b d = = =;Ky H = = @Txt.Zu Bt.isinstance = @Txt.uP Bt.bool ? b d b d = = =;sG ?;oA lh ?;nK ? ? ?;DI ? ?;DR ?;SC Gq tB PySem.F.slot_list_append PySem.F.type_list_append v ? = = = = =;SC uJ Dj PySem.F.slot_list_insert PySem.F.type_list_insert v ? = = = = =;Di @Txt.Tf = d;fd @SJ ?;fd @HX ?;fd @FH ?;fd @FE ?;fd @OZ ?;fd @L1 ?;fd @Od ?;fd @SG ?;fd @AJ ?;fd @E6 ?;fd @U9 ?;fd @Sl ?;ix a R ?;mt a R ? ? =;JM a o Uj v ? = = =;J0 a o Uj v ? = = =;qY ?;nH @Sl v =;pZ @U9 v = = @Txt.A8 = =;SW _ _ _ a R a a a ?;Ky H = = @Txt.Zu Bt.isinstance = @Txt.FB Bt.tuple ? b d b d = = =",<-Gb T r [] "AA 4;bc ? ?;DO",<-Gb T r [] "Lw 4;iy a ? ? ? ?;u_ ?;qt ? ? ?;i8 ? ? ?;Cp ? =;sv _ _ a ?;kJ ? ?;jb a R ?;pJ",<-Gb T r [] "E5 4;sj _ a ? ?;Nj ? ?;CN ?;Jt",<-Gb T r [] "AT 4;tc h R ? ?;D8 ?;uK ? f;AW.at_ ?",<-Gb T r [] "AD 4;bd ? ?;u6",<-Gb T r [] "AO 4;EZ ?;Cc",<-Gb T r [<- `(tactic| exact gC (an _ (by assumption)) (an _ (by assumption))),<- `(tactic| exact an _ (gu (by kernel_rfl)))] "AG 5;an _ a;Mm = ? = =",<-Gb T r [] "A4 5;iO ? ?;Lp",<-Gb T r [] "sM 4;lU _ a;ke ?",<-Gb T r [] "Oi 4;lP ? ?;lK",<-Gb T r [] "Jd 5;FW = @Txt.KH ? =;J7 = @Txt.Sb ? = =;Ii = @Txt.Sb ? = =;uo ?",<-Gb T r [] "AI 5;FY = @Txt.KH ? =;BO = @Txt.KH ? = =;Jz = @Txt.Sb ? = =;sf ?",<-Gb T r [] "AW 4;pC ? ?;DS ? ?;BY ?;MO ?",<-Gb T r [] "JD 5;Hz ? ?;Io ?;ue ? ? ?",<-Gb T r [] "AP 5;gy _ _ d a ?;JR ? =;nt ? ? ?;iG t t;iR t t t;oB @U9 v v = = = = = = =;m_ a R ?;oi",<-Gb T r [] "O7 5;OA ? ?;Iz ?;Jm",<-Gb T r [] "oJ 4;SO ? ?;CH ?",<-Gb T r [] "sO 4;Jw ? =;xC @FE w ? =;xC @OZ w ? =;xC @Od w ? =;xC @SG w ? =;xC @AJ w ? =;xC @E6 w ? =;xC @SJ w ? =;xC @HX w ? =;xC @Sl w ? =;xC @L1 w ? =;xC @FH w ? =;xC @BB w ? =;xC @Jf w ? =;xC @BD w ? =;Sw @U9 w ? =",<-Gb T r [] "-;Ip;CA ?",<- `(tactic| (intro _;trivial)),<- `(tactic| (show lB _ _ _ _ _;refine F5 ?_ ?_ ?_<;>trivial))]
def Ed:Ct T "is_whole" 1 PB:=by
 refine ZQ (N:=Mz) (n:=1) (k:=0) (cc:=RM) T.MZ λhN _ _ _ _ _ _ _ hr=>?_;conv=>arg 3;whnf
 trivial
def Xx:Ct T "is_within" 2 wU:=by
 refine ZQ (N:=Np) (n:=3) (k:=1) (cc:=Q0) T.Nu λhN _ _ _ _ _ _ _ hr=>?_;have:=Ed T;conv=>arg 3;whnf
 trivial
def UB:Ct T "nothing_fails" 1 Zl:=by
 refine ZQ (N:=UU) (n:=1) (k:=0) (cc:=Zh) T.UI λhN _ _ _ _ _ _ _ hr=>?_;conv=>arg 3;whnf
 trivial
def UD:Ct T "parting_fails" 1 Zj:=by
 refine ZQ (N:=UJ) (n:=1) (k:=0) (cc:=Xk) T.Um λhN _ _ _ _ _ _ _ hr=>?_;conv=>arg 3;whnf
 trivial
def Tr:Ct T "doing_fails" 1 Yb:=by
 refine ZQ (N:=Td) (n:=3) (k:=0) (cc:=Z6) T.Tu λhN _ _ _ _ _ _ _ hr=>?_;conv=>arg 3;whnf
 trivial
def Kx:Ct T "deeds_fail" 2 YS:=by
 refine ZQ (N:=Kn) (n:=1) (k:=1) (cc:=VP) T.Li λhN _ _ _ _ _ _ _ hr=>?_;have:=Tr T;conv=>arg 3;whnf
 trivial
def Km:Ct T "what_fails" 3 YT:=by
 refine ZQ (N:=G6) (n:=1) (k:=2) (cc:=VQ) T.Kq λhN _ _ _ _ _ _ _ hr=>?_;have:=UB T;have:=UD T;have:=Kx T;conv=>arg 3;whnf
 trivial
def RI:Ct T "check_let_by" 4 vJ:=by
 refine ZQ (N:=RK) (n:=1) (k:=3) (cc:=ZC) T.RF λhN _ _ _ _ _ _ _ hr=>?_;have:=Km T;conv=>arg 3;whnf
 trivial
def wM(c:Str):Cz T "Knot" "__init__" 1 (sA K kd c<|yi c):=by
 refine WC (N:=Xd) (n:=7) T.YD T.UO λF S=>MR (N:=Xd) (k:=0) (b:=Zc) F S (by decide) λcdv A outer s H E hr=>?_;have hN:=S.nd;conv=>arg 3;whnf
 trivial
def T4:Ct T "leaf_of" 3 Wk:=by
 refine ZQ (N:=F_) (n:=1) (k:=2) (cc:=TL) T.BF λhN _ _ _ _ _ _ _ hr=>?_;have:=wM T "Knot";conv=>arg 3;whnf
 trivial
def NC:Cz T "Ways" "join" 1 (Qc K kd X8):=by
 refine O8 (N:=LU) (n:=3) (k:=0) (cc:=Q_) T.ZI T.Nc λhN _ _ _ _ _ _ _ hr=>?_;conv=>arg 3;whnf
 trivial
def DC:Tm T "join" 1 Vx:=(O9 (NC T) Yd)
def Yp:Ct T "knot_of" 3 yr:=by
 refine ZQ (N:=BS) (n:=3) (k:=2) (cc:=GK) T.F8 λhN _ _ _ _ _ _ _ hr=>?_;have:=wM T "Knot";have:=DC T;conv=>arg 3;whnf
 trivial
theorem QD:∀n:Nat,Ct T "tree_of" (3+n) (wV n)
 |0=>ll T.TN GI 2
 |n+1=>by
  have G:=QD n;refine ZQ (N:=GI) (n:=2) (k:=3+n) (cc:=Tx<|wV n) T.TN λhN _ _ _ _ _ _ _ hr=>?_;have:=T4 T;have:=Yp T;conv=>arg 3;whnf
  trivial
def Wd:Ct T "size_of" 1 yS:=by
 refine ZQ (N:=BH) (n:=1) (k:=0) (cc:=T_) T.Bv λhN _ _ _ _ _ _ _ hr=>?_;conv=>arg 3;whnf
 trivial
def Th:Cz T "Ways" "behind" 1 (Qc K kd Z4):=by
 refine O8 (N:=Tj) (n:=3) (k:=0) (cc:=WS) T.ZI T.P5 λhN _ _ _ _ _ _ _ hr=>?_;conv=>arg 3;whnf
 trivial
def Ol:Tm T "behind" 1 Ga:=(O9 (Th T) Yd)
def V8:Ct T "both_waits" 2 YW:=by
 refine ZQ (N:=Kl) (n:=3) (k:=1) (cc:=VI) T.K1 λhN _ _ _ _ _ _ _ hr=>?_;have:=Ol T;conv=>arg 3;whnf
 trivial
def LF:Cz T "Ways" "made" 1 (Qc K kd X3):=by
 refine O8 (N:=LG) (n:=4) (k:=0) (cc:=Q4) T.ZI T.NW λhN _ _ _ _ _ _ _ hr=>?_;conv=>arg 3;whnf
 trivial
def Hr:Tm T "made" 1 VV:=(O9 (LF T) Yd)
def Mt:Ct T "done_all" 4 YC:=by
 refine ZQ (N:=M4) (n:=3) (k:=3) (cc:=Pb) T.M6 λhN _ _ _ _ _ _ _ hr=>?_;have:=Hr T;have:=T4 T;have:=wM T "Knot";have:=V8 T;conv=>arg 3;whnf
 trivial
def Qb:Ct T "turned_all" 3 xS:=by
 refine ZQ (N:=Kp) (n:=2) (k:=2) (cc:=VD) T.GY λhN _ _ _ _ _ _ _ hr=>?_;have:=wM T "Knot";conv=>arg 3;whnf
 trivial
def YL:Ct T "parts_of" 5 wR:=by
 refine ZQ (N:=Er) (n:=2) (k:=4) (cc:=R_) T.MI λhN _ _ _ _ _ _ _ hr=>?_;have:=Mt T;have:=Qb T;conv=>arg 3;whnf
 trivial
theorem Nm:∀n:Nat,Cs T "gather" (2+n) (Mv K kd<|vF n)
 |0=>TM (N:=Rj) (n:=5) T.L3 λ_ _=>Hj
 |n+1=>by
  have G:=Nm n;refine TM (N:=Rj) (n:=5) T.L3 λF S=>tL (N:=Rj) (k:=2+n) (c:=Vu<|vF n) F S (by decide) λ_ _ _ _ _ _ hr=>?_;have hN:=S.nd;have:=Hr T;have:=V8 T;conv=>arg 4;whnf
  trivial
def O3:Ct T "row_of" 23 Yr:=by
 refine ZQ (N:=SE) (n:=2) (k:=22) (cc:=LB) T.HE λhN _ _ _ _ _ _ _ hr=>?_;have:=Nm T 20;conv=>arg 3;whnf
 trivial
def P3:Ct T "leaned_left" 6 Z9:=by
 refine ZQ (N:=Te) (n:=3) (k:=5) (cc:=Wu) T.PX λhN _ _ _ _ _ _ _ hr=>?_;have:=YL T;have:=Yp T;conv=>arg 3;whnf
 trivial
def PR:Ct T "leaned_right" 6 Zz:=by
 refine ZQ (N:=RY) (n:=3) (k:=5) (cc:=Xu) T.PU λhN _ _ _ _ _ _ _ hr=>?_;have:=YL T;have:=Yp T;conv=>arg 3;whnf
 trivial
def On:Ct T "evened" 7 Vf:=by
 refine ZQ (N:=Oa) (n:=3) (k:=6) (cc:=NO) T.OR λhN _ _ _ _ _ _ _ hr=>?_;have:=P3 T;have:=PR T;have:=Yp T;conv=>arg 3;whnf
 trivial
theorem vI:∀n:Nat,Ct T "put_together" (7+n) (yh n)
 |0=>ll T.Xz XX 3
 |n+1=>by
  have G:=vI n;refine ZQ (N:=XX) (n:=3) (k:=7+n) (cc:=Wa<|yh n) T.Xz λhN _ _ _ _ _ _ _ hr=>?_;have:=YL T;have:=On T;have:=Yp T;conv=>arg 3;whnf
  trivial
theorem X9:∀n:Nat,Ct T "parted_at" (27+n) (xo n)
 |0=>ll T.QP Uc 3
 |n+1=>by
  have G:=X9 n;refine ZQ (N:=Uc) (n:=3) (k:=27+n) (cc:=QQ<|xo n) T.QP λhN _ _ _ _ _ _ _ hr=>?_;have:=YL T;have:=vI T 20;conv=>arg 3;whnf
  trivial
def Z0:Ct T "check_place" 3 yY:=by
 refine ZQ (N:=Ti) (n:=3) (k:=2) (cc:=Z5) T.Tw λhN _ _ _ _ _ _ _ hr=>?_;have:=Xx T;conv=>arg 3;whnf
 trivial
def VJ:Ct T "check_size" 1 xU:=by
 refine ZQ (N:=K_) (n:=1) (k:=0) (cc:=Yx) T.GN λhN _ _ _ _ _ _ _ hr=>?_;conv=>arg 3;whnf
 trivial
def uR:Ct T "firm" 1 Ln:=by
 refine ZQ (N:=A_) (n:=1) (k:=0) (cc:=Ot) T.DH λhN _ _ _ _ _ _ _ hr=>?_;conv=>arg 3;whnf
 trivial
def W8:Ct T "_law_draw" 1 ym:=by
 refine ZQ (N:=Mh) (n:=2) (k:=0) (cc:=Pg) T.Ex λhN _ _ _ _ _ _ _ hr=>?_;conv=>arg 3;whnf
 trivial
def Zs:Ct T "_law_digits" 1 yt:=by
 refine ZQ (N:=Kc) (n:=2) (k:=0) (cc:=Vq) T.KZ λhN _ _ _ _ _ _ _ hr=>?_;conv=>arg 3;whnf
 trivial
def QS:Ct T "_law_names" 2 ZS:=by
 refine ZQ (N:=NU) (n:=2) (k:=1) (cc:=Q8) T.NP λhN _ _ _ _ _ _ _ hr=>?_;have:=Zs T;conv=>arg 3;whnf
 trivial
def UG:Ct T "_law_part_join" 1 wI:=by
 refine ZQ (N:=UT) (n:=3) (k:=0) (cc:=Xj) T.Up λhN _ _ _ _ _ _ _ hr=>?_;conv=>arg 3;whnf
 trivial
def UN:Ct T "_law_part_done" 1 xr:=by
 refine ZQ (N:=Us) (n:=4) (k:=0) (cc:=Y1) T.UM λhN _ _ _ _ _ _ _ hr=>?_;conv=>arg 3;whnf
 trivial
def N3:Ct T "_law_parts" 1 XT:=by
 refine ZQ (N:=Ly) (n:=1) (k:=0) (cc:=QY) T.LQ λhN _ _ _ _ _ _ _ hr=>?_;conv=>arg 3;whnf
 trivial
def NG:Ct T "_law_split" 1 Xy:=by
 refine ZQ (N:=L6) (n:=2) (k:=0) (cc:=Ub) T.N0 λhN _ _ _ _ _ _ _ hr=>?_;conv=>arg 3;whnf
 trivial
def M8:Ct T "_law_laid" 1 xq:=by
 refine ZQ (N:=ML) (n:=2) (k:=0) (cc:=Po) T.En λhN _ _ _ _ _ _ _ hr=>?_;conv=>arg 3;whnf
 trivial
def Nq:Ct T "_law_order" 1 XH:=by
 refine ZQ (N:=LN) (n:=2) (k:=0) (cc:=QW) T.NZ λhN _ _ _ _ _ _ _ hr=>?_;conv=>arg 3;whnf
 trivial
def Tq:Ct T "_law_algebra" 3 Z8:=by
 refine ZQ (N:=Tc) (n:=2) (k:=2) (cc:=WI) T.Tt λhN _ _ _ _ _ _ _ hr=>?_;have:=N3 T;have:=W8 T;have:=M8 T;have:=Nq T;have:=NG T;have:=UG T;have:=QS T;have:=UN T;conv=>arg 3;whnf
 trivial
def UE:Ct T "_law_by_digits" 3 wK:=by
 refine ZQ (N:=Uy) (n:=1) (k:=2) (cc:=Xa) T.UC λhN _ _ _ _ _ _ _ hr=>?_;have:=Zs T;have:=QS T;have:=W8 T;conv=>arg 3;whnf
 trivial
def Eh:Ct T "_law_does" 1 WY:=by
 refine ZQ (N:=M3) (n:=5) (k:=0) (cc:=RU) T.M9 λhN _ _ _ _ _ _ _ hr=>?_;conv=>arg 3;whnf
 trivial
def P_:Ct T "_law_is_good" 2 Z2:=by
 refine ZQ (N:=Tn) (n:=1) (k:=1) (cc:=WQ) T.P8 λhN _ _ _ _ _ _ _ hr=>?_;have:=Eh T;conv=>arg 3;whnf
 trivial
def F7:Ct T "_law_any" 4 We:=by
 refine ZQ (N:=BP) (n:=1) (k:=3) (cc:=TB) T.BK λhN _ _ _ _ _ _ _ hr=>?_;have:=UE T;have:=P_ T;have:=Tq T;conv=>arg 3;whnf
 trivial
def MA:Ct T "_law_copy" 1 YJ:=by
 refine ZQ (N:=El) (n:=1) (k:=0) (cc:=RH) T.M7 λhN _ _ _ _ _ _ _ hr=>?_;conv=>arg 3;whnf
 trivial
def Bs:Ct T "_law_row" 2 Qd:=by
 refine ZQ (N:=Bb) (n:=3) (k:=1) (cc:=Gc) T.Br λhN _ _ _ _ _ _ _ hr=>?_;have:=Zs T;conv=>arg 3;whnf
 trivial
def WW:Ct T "_law_is_list" 1 xx:=by
 refine ZQ (N:=P1) (n:=2) (k:=0) (cc:=WB) T.P4 λhN _ _ _ _ _ _ _ hr=>?_;conv=>arg 3;whnf
 trivial
def Zg:Ct T "_law_is_number" 1 yd:=by
 refine ZQ (N:=Uu) (n:=2) (k:=0) (cc:=YY) T.Uv λhN _ _ _ _ _ _ _ hr=>?_;conv=>arg 3;whnf
 trivial
def K8:Ct T "_law_places" 2 YU:=by
 refine ZQ (N:=Ko) (n:=2) (k:=1) (cc:=VY) T.G2 λhN _ _ _ _ _ _ _ hr=>?_;have:=Zs T;conv=>arg 3;whnf
 trivial
def UL:Cz T "Makes" "tree_at" 3 (Qc K kd yA):=by
 refine O8 (N:=US) (n:=2) (k:=2) (cc:=Y5) T.xp T.Ur λhN _ _ _ _ _ _ _ hr=>?_;have:=Xx T;conv=>arg 3;whnf
 trivial
def Yn:Tm T "tree_at" 3 yB:=(O9 (UL T) Yd)
def Wt:Cz T "Makes" "three_parts" 48 (Qc K kd y7):=by
 refine O8 (N:=Wr) (n:=4) (k:=47) (cc:=Zp) T.xp T.Wm λhN _ _ _ _ _ _ _ hr=>?_;have:=Yn T;have:=Z0 T;have:=Wd T;have:=X9 T 20;conv=>arg 3;whnf
 trivial
def GV:Cz T "Makes" "keep" 1 (spS K kd ye):=by
 refine WC (N:=Vy) (n:=2) T.xp T.KW λF S=>Ql (N:=Vy) (k:=0) (c:=Zw) F S (by decide) λcdv A outer s H E hr=>?_;have hN:=S.nd;conv=>arg 4;whnf
 trivial
def Yc:Tm T "three_parts" 48 ZE:=(O9 (Wt T) Yd)
def VM:Ts T "keep" 1 "Makes" ye:=sR<|GV T
def N2:Cz T "Makes" "cut" 49 (spS K kd v9):=by
 refine WC (N:=Uk) (n:=4) T.xp T.Ny λF S=>Ql (N:=Uk) (k:=48) (c:=Ua) F S (by decide) λcdv A outer s H E hr=>?_;have hN:=S.nd;have:=Yc T;have:=VM T;have:=vI T 20;conv=>arg 4;whnf
 trivial
def PQ:Cz T "Makes" "listed" 24 (Qc K kd vC):=by
 refine O8 (N:=Pi) (n:=2) (k:=23) (cc:=XC) T.xp T.RB λhN _ _ _ _ _ _ _ hr=>?_;have:=O3 T;have:=Yn T;conv=>arg 3;whnf
 trivial
def NL:Tm T "listed" 24 Yg:=(O9 (PQ T) Yd)
def uI:Ts T "cut" 49 "Makes" v9:=sR<|N2 T
def Bm:Cs T "_law_cut" 50 (spT 0 K kd vQ):=by
 refine TM (N:=Gg) (n:=5) T.Ba λF S=>SM (N:=Gg) (k:=49) 0 (b:=Wi) F S (by decide) λcdv A outer s H E hr=>?_;have hN:=S.nd;have:=uI T;have:=Zg T;have:=WW T;have:=NL T;conv=>arg 4;whnf
 trivial
def YM:Cz T "Makes" "three_together" 28 (Qc K kd zK):=by
 refine O8 (N:=YE) (n:=4) (k:=27) (cc:=vG) T.xp T.Yw λhN _ _ _ _ _ _ _ hr=>?_;have:=vI T 20;conv=>arg 3;whnf
 trivial
def vR:Tm T "three_together" 28 xD:=(O9 (YM T) Yd)
def RS:Cz T "Makes" "turned" 49 (spS K kd xI):=by
 refine WC (N:=XY) (n:=4) T.xp T.Pu λF S=>Ql (N:=XY) (k:=48) (c:=X2) F S (by decide) λcdv A outer s H E hr=>?_;have hN:=S.nd;have:=Yc T;have:=VM T;have:=vR T;have:=Qb T;conv=>arg 4;whnf
 trivial
def Rv:Cz T "Makes" "put_in" 48 (spS K kd xJ):=by
 refine WC (N:=X5) (n:=4) T.xp T.RR λF S=>Ql (N:=X5) (k:=47) (c:=XF) F S (by decide) λcdv A outer s H E hr=>?_;have hN:=S.nd;have:=Yn T;have:=Z0 T;have:=Wd T;have:=VJ T;have:=X9 T 20;have:=VM T;have:=vR T;conv=>arg 4;whnf
 trivial
def UH:Cz T "Ways" "is_value" 3 (Qc K kd Ze):=by
 refine O8 (N:=UK) (n:=2) (k:=2) (cc:=Xg) T.ZI T.UQ λhN _ _ _ _ _ _ _ hr=>?_;have:=Xx T;conv=>arg 3;whnf
 trivial
def MF:Tm T "is_value" 3 QZ:=(O9 (UH T) Yd)
def Wo:Cz T "Makes" "check_value" 4 (Qc K kd yD):=by
 refine O8 (N:=Wn) (n:=2) (k:=3) (cc:=wB) T.xp T.Ws λhN _ _ _ _ _ _ _ hr=>?_;have:=MF T;conv=>arg 3;whnf
 trivial
def WM:Tm T "check_value" 4 y9:=(O9 (Wo T) Yd)
def Uo:Cz T "Makes" "changed" 49 (spS K kd xu):=by
 refine WC (N:=YZ) (n:=4) T.xp T.UR λF S=>Ql (N:=YZ) (k:=48) (c:=Y4) F S (by decide) λcdv A outer s H E hr=>?_;have hN:=S.nd;have:=Yn T;have:=Z0 T;have:=Wd T;have:=WM T;have:=Yc T;have:=VM T;have:=vR T;have:=QD T 20;conv=>arg 4;whnf
 trivial
def N5:Ts T "changed" 49 "Makes" xu:=sR<|Uo T
def Bj:Ts T "put_in" 48 "Makes" xJ:=sR<|Rv T
def BM:Ts T "turned" 49 "Makes" xI:=sR<|RS T
def MJ:Cs T "_law_step" 51 (spT 0 K kd xQ):=by
 obtain⟨_,_,_,F_law_cut,m_law_cut_,k_law_cut_,b_law_cut_⟩:=Bm T;refine TM (N:=Pp) (n:=4) T.Eu λF S=>SM (N:=Pp) (k:=50) 0 (b:=YA) F S (by decide) λcdv A outer s H E hr=>?_;have hN:=S.nd;have:=K8 T;have:=Zg T;have:=Bj T;have:=N5 T;have:=BM T;conv=>arg 4;whnf
 trivial
def Qv(c:Str):Cz T "Makes" "__init__" 1 (sA K kd c<|vT c):=by
 refine WC (N:=Ys) (n:=2) T.xp T.QM λF S=>MR (N:=Ys) (k:=0) (b:=Ym) F S (by decide) λcdv A outer s H E hr=>?_;have hN:=S.nd;conv=>arg 3;whnf
 trivial
def Uz(c:Str):Cz T "Ways" "__init__" 5 (sA K kd c<|xt c):=by
 refine WC (N:=Y8) (n:=2) T.ZI T.Uq λF S=>MR (N:=Y8) (k:=4) (b:=Zi) F S (by decide) λcdv A outer s H E hr=>?_;have hN:=S.nd;have:=RI T;have:=uR T;conv=>arg 3;whnf
 trivial
def K5:Cz T "Makes" "made" 24 (spS K kd vK):=by
 refine WC (N:=VU) (n:=2) T.xp T.KS λF S=>Ql (N:=VU) (k:=23) (c:=Zr) F S (by decide) λcdv A outer s H E hr=>?_;have hN:=S.nd;have:=WM T;have:=VJ T;have:=VM T;have:=QD T 20;conv=>arg 4;whnf
 trivial
def G8:Cz T "Makes" "many" 4 (Qc K kd Zt):=by
 refine O8 (N:=GT) (n:=2) (k:=3) (cc:=VG) T.xp T.GM λhN _ _ _ _ _ _ _ hr=>?_;have:=Wd T;have:=Yn T;conv=>arg 3;whnf
 trivial
def uc:Tm T "many" 4 KR:=(O9 (G8 T) Yd)
def CP:Ts T "made" 24 "Makes" vK:=sR<|K5 T
def qR{f d}(F:Fun K "law" "law" EC f d):FnOk P w K mg base ZP 52 f d (EO.take 1) (Qc K kd TR):=by
 have S:FnScope EO (EO.take 1) (zH EC):=sH;have hN:=S.nd;obtain⟨_,_,_,F_law_step,m_law_step_,k_law_step_,b_law_step_⟩:=MJ T;refine Ht (N:=EO) (k:=51) (c:=J_) F S λ_ _ _ _ _ _ hr=>?_;have:=F7 T;have:=Qv T "Makes";have:=Uz T "Ways";have:=MA T;have:=Bs T;have:=W8 T;have:=Zg T;have:=CP T;have:=WW T;have:=NL T;have:=uc T;conv=>arg 3;whnf
 trivial
end
def D5{l:PySem.W.OpenLaw}{w:World}{K:zzA}{mg:Str->Option Value}{fa:Addr}{kd:KD}(h:Heap)(hfa:mg "law"=some (.ref fa))(T:∀base,Txt l.prog w K mg base kd):
 ∃fd:FuncData,(∀(s:Shared) (v:Value),BindsTo s fd ⟨[v],[]⟩ [("_law_script",v)])/\∀base:Heap,K.In base->base.Ns mainGlobals mg->FnOk l.prog w K mg base ZP 52 fa fd ["_law_script"] (kQ K TR):=by
 obtain⟨f,d,F,e⟩:=(T h).nR;cases hfa.symm.trans e;obtain⟨_,_,_,_,_,_,_,_,_,rfl,_,_⟩:=F.ex;exact⟨_,λs v=>.of_eq rfl,λbase _ _=>(qR (T base) F).imp λvs H Q E h=>h _⟩
def walk{l:PySem.W.OpenLaw}{q:Program}{loose:List Str}{XP:(Str->Option Value)->Heap->Prop}{YP:World->Heap->Prop}{d:DefRec}{K:Params->zzA}(hn:l.most=some 63)(hdf:d.params.defaults=[])
 (hY:∀(w:World) (h:Heap),YP w h->(K w.params).In h) (hm:∀ns:List Int,ns.length<=63->TR [(true,.lst<|ns.map D.int)]=some (.lf true<|.bl true))
 (F:∀(w:World) (mg:Str->Option Value) (fa:Addr) (h:Heap),(K w.params).In h->h.Ns mainGlobals mg->mg d.name=some (.ref fa)->
  ∃fd:FuncData,(∀(s:Shared) (u:Value),BindsTo s fd ⟨[u],[]⟩ [("_law_script",u)])/\∀base:Heap,(K w.params).In base->base.Ns mainGlobals mg->FnOk l.prog w (K w.params) mg base ZP 52 fa fd ["_law_script"] (kQ (K w.params) TR)):
 PySem.W.WalkO q loose XP YP l.row.toRowW d [] (λf vs=>PySem.call f vs):=
 L2.walk_of (n:=63) (k:=52) (x:="_law_script") (CX:=λ_=>ZP) (sp:=λw=>kQ (K w.params) TR) hn (by decide) hdf ⟨rfl,by decide,by decide,rfl⟩ hY F (λ_ _ a ns hl _ hS kd=>uY (hm ns hl) hS) λ_ _ _ _ _ z=>z
local macro_rules | `(tactic| trivial)=>do `(tactic| first|with_reducible first|assumption|$(<-zqb "Int.natCast_nonneg _;Nat.le_refl _;Int.le_refl _;rfl;Df a;tw a;np2 a;nq1 a;nq2 a;Int.natCast_pos.mpr a;Nat.le_trans a d;bgL _;bgU a;mU a;zI _;bL0 a;bU0 a a;iL a;iU a a;iC a;iT a;stL a;stU a;lnK a a a;zi1 _;lnE a;ltL a;Int.toNat_of_nonneg a;tS a a;b6 a;Int.emod_nonneg _ d;Int.emod_lt_of_pos _ d"):tactic|decide|omega)
local macro_rules |`(⋯)=>do `(by first|with_reducible rfl|assumption|$(<-zqb "zb;zo;yG;zg"):tactic|(with_reducible refine za ?_;first|rfl|assumption)|$(<-zqc "WD.e ?;ze ? ?;zE ? ?;zM ? ?;x5 ? ?;ya ? ? ?;we ? ? ? ?;yZ ? ? ? ?;zY ? ? = =;zF ?;x6 ?;yF ? ="):tactic|exact zG (by decide)|omega|rfl|decide)
section
variable{n m:Nat}{J T:TZ}{e:Int}{Ds:DD}{S:SS}
def My(n8:n<=8)(hJ:Tab n n J)(he:zR n e):B2 (Zl [(true,vO n m J e Ds S)]) (mE n J e):=by
 refine B2.imp (P:=mE n J e/\True) (Mo rfl ?_) ⟨λz=>z.1,λz=>⟨z,trivial⟩⟩;have s1:zm true 1 (f2 zk yE zx) [sT<|vO n m J e Ds S,none,none,none]=some _:=zD ⋯ (zg rfl);have s2:zm true 2 _ [sT _,sT _,none,none]=some (.nx [sT<|vO n m J e Ds S,sT<|xZ J,sI e,none]):=zD ⋯ (zg rfl);have k:=Lk (g:=zy _) (uX (S:=λx y z=>[sT<|vO n m J e Ds S,sT<|xZ J,sI e,x]) (x:=none) (y:=none) (z:=none) (vj:=1) (ve:=2) hJ he (λ_ _ _=>rfl) (λ_ _ _=>rfl) (λ_ _ _=>rfl) λ_ _ _ _=>rfl) λ_ _ _=>Kg;have hf:∀f:SF,yx (yu (aC (f2 zk zT zx) aN) yH) _ f _=forL (gN 3) f _ [sT<|vO n m J e Ds S,sT<|xZ J,sI e,none]:=λf=>yn (y6 (j:=n) (ze (zY (za rfl) zb rfl rfl) zo) (by trivial)<|by trivial) ⋯;have fin:∀x,Rt _ x->Rt (Zh _) x:=λx h=>by
  refine zc s1<|zc s2 ?_;obtain⟨o,a,b⟩:=h;refine⟨o, ?_,b⟩;unfold zh at ⊢
  rwa [hf]
 rcases k with⟨k,p⟩|⟨⟨es,k⟩,p⟩
 . exact .inl ⟨fin _ k,p⟩
 . exact .inr ⟨⟨es,fin _ k⟩,p⟩
def N6(n8:n<=8)(hJ:Tab n n J):B2 (Zj [(true,vO n m J e Ds S)]) (As n J):=by
 have s1:zm true 1 (f2 zk zT zx) [sT<|vO n m J e Ds S,none,none,none,none,none]=some _:=zD ⋯ (zg rfl);have s2:zm true 2 (f2 zk yE zx) [sT<|vO n m J e Ds S,sI n,none,none,none,none]=some _:=zD ⋯ (zg rfl);have k:=JZ (S:=λx y z=>[sT<|vO n m J e Ds S,sI n,sT _,x,y,z]) (x:=none) (y:=none) (z:=none) (vj:=2) (vn:=1) n8 hJ (λ_ _ _=>rfl) (λ_ _ _=>rfl) (λ_ _ _=>rfl) (λ_ _ _=>rfl) (λ_ _ _=>rfl) (λ_ _ _ _=>rfl) (λ_ _ _ _=>rfl) λ_ _ _ _=>rfl;rw[<-YG (v:=1) rfl (by trivial)]at k;refine B2.imp (P:=As n J/\True) (Mo rfl ?_) ⟨λz=>z.1,λz=>⟨z,trivial⟩⟩
 rcases Lk k λ_ _ _=>Kg with⟨k,p⟩|⟨⟨es,k⟩,p⟩
 . exact .inl ⟨zc s1<|zc s2 k,p⟩
 . exact .inr ⟨⟨es,zc s1<|zc s2 k⟩,p⟩
def Sy{s:Str}(n8:n<=8)(m1:1<=m)(m6:m<=6)(hJ:Tab n n J)(hT:Tab m n T):B2 (Yb [(true,vO n m J e Ds S),(true,.str s),(true,xZ T)]) (Dn n m J T):=by
 have k:Ux (forL (gN 6) (yx (yu (aC zP aN) yH) (gN 7)<|yx (yu Zd yH) (gN 8)<|yx (yu (aC zP aN) yH) (gN 9) mH) (yR 0 n)<|LV n m J T e Ds S s none none none none) (λas=>∃x y z w,as=LV n m J T e Ds S s x y z w) (Dn n m J T):=by
  refine XD (fr:=xh) _ _ (λa ha as hI=>?_) ⟨_,_,_,_,rfl⟩;obtain⟨x,y,z,w,rfl⟩:=hI;refine⟨LV n m J T e Ds S s (sI a) y z w,rfl, ?_⟩;rw[YG (v:=4) (n:=m) rfl<|by trivial];have k:=XD (v:=7) (n:=m) (fr:=xh) (f:=yx (yu Zd yH) (gN 8)<|yx (yu (aC zP aN) yH) (gN 9) mH) (as:=LV n m J T e Ds S s (sI a) y z w) (λas=>∃y z w,as=LV n m J T e Ds S s (sI a) y z w) _ (λi hi as hI=>by
   obtain⟨y,z,w,rfl⟩:=hI;refine⟨LV n m J T e Ds S s (sI a) (sI i) z w,rfl, ?_⟩;rw[YG (v:=3) (n:=n) rfl<|by trivial];have k:=XD (v:=8) (n:=n) (fr:=xh) (f:=yx _ (gN 9) mH) (as:=LV n m J T e Ds S s (sI a) (sI i) z w) (λas=>∃z w,as=LV n m J T e Ds S s (sI a) (sI i) z w) _ (λb hb as hI=>by
    obtain⟨z,w,rfl⟩:=hI;refine⟨LV n m J T e Ds S s (sI a) (sI i) (sI b) w,rfl, ?_⟩;rw[YG (v:=4) (n:=m) rfl<|by trivial]
    rcases iX (s:=s) (w:=w) (e:=e) (S:=S) hJ hT m1 ha hi hb with⟨as',k1,⟨w',rfl⟩,k3⟩|k
    . exact .inl ⟨_,k1,⟨_,_,rfl⟩,k3⟩
    . exact .inr k) ⟨_,_,rfl⟩
   rcases k with⟨as',k1,⟨z',w',rfl⟩,k3⟩|k
   . exact .inl ⟨_,k1,⟨_,_,_,rfl⟩,k3⟩
   . exact .inr k) ⟨_,_,_,rfl⟩
  rcases k with⟨as',k1,⟨y',z',w',rfl⟩,k3⟩|k
  . exact .inl ⟨_,k1,⟨_,_,_,_,rfl⟩,k3⟩
  . exact .inr k
 rw[<-YG (v:=3) (n:=n) rfl (by trivial)]at k;have s3:zm true 3 (f2 zk zT zx) [sT<|vO n m J e Ds S,sT<|.str s,sT<|xZ T,none,none,none,none,none,none,none]=some (.nx _):=zD (i:=3) ⋯ (zg rfl);have s4:zm true 4 (f2 zk zA zx) [sT<|vO n m J e Ds S,sT<|.str s,sT<|xZ T,sI n,none,none,none,none,none,none]=some (.nx _):=zD (i:=4) ⋯ (zg rfl);have s5:zm true 5 (f2 zk yE zx) [sT<|vO n m J e Ds S,sT<|.str s,sT<|xZ T,sI n,sI m,none,none,none,none,none]=some _:=zD (i:=5) ⋯ (zg rfl);refine B2.imp (P:=Dn n m J T/\True) (Mo (n:=10) (m:=3) (c:=Z6) rfl ?_) ⟨λz=>z.1,λz=>⟨z,trivial⟩⟩
 rcases Lk k λ_ _ _=>Kg with⟨k,p⟩|⟨⟨es,k⟩,p⟩
 . exact .inl ⟨zc s3<|zc s4<|zc s5 k,p⟩
 . exact .inr ⟨⟨es,zc s3<|zc s4<|zc s5 k⟩,p⟩
def Ml(A:Alg n m J e Ds)(L:LawA n m J e Ds):RE (YS [(true,vO n m J e Ds S)]) .non:=by
 have n8:=A.n8;have m1:=A.m1;have s1:zm true 1 (f2 zk ZN zx) [sT<|vO n m J e Ds S,none,none,none,none]=some (.nx _):=zD ⋯ (zg rfl);obtain⟨as',hf,x,y,z,rfl⟩:=yW (g:=gT 2<|yQ (gN 2)<|yQ (gN 3) Yu) (f:=(zh nj
  (zh _
  (xk (fT<|f2 zP (fC .non)<|zw .IsNot) (zy zP) xh))))
  (λi as=>∃(x y z:Option O),as=[sT _,sI e,x,y,z])
  ((Ds.map XJ).map λd=>(true,d)) 0 [sT _,sI e,none,none,none] (λi x as hx' hI=>by
    obtain⟨x,y,z,rfl⟩:=hI;rw[zyB,zzI]at hx';obtain⟨p,hp,rfl⟩:=zzX.mp hx';have mp:=zyA hp;have hT:=A.ds p mp;obtain⟨q1,_⟩:=XR (as:=[sT _,sI e,sT<|.str p.1,sT<|xZ p.2,z]) hT ⟨by trivial,by trivial⟩ ⟨A.e0,A.en⟩ (za (i:=3) rfl) (zb)<|za (i:=1) rfl;have t1:=OG q1<|za (i:=1) rfl;rw[(L.ld p mp).em,show(!(e==e))=false by simp]at t1;have d:=(Sy (s:=p.1) (e:=e) (Ds:=Ds) (S:=S) n8 m1 A.m6 A.j hT).none<|L.dn mp;exact⟨[sT _,sI e,sT<|.str p.1,sT<|xZ p.2,z],rfl,_,zt (zu t1 rfl)<|zt (y2 (p:=4) (zW (WD.e<|za (i:=0) rfl) (WD.e<|za (i:=2) rfl) (WD.e<|za (i:=3) rfl) d)<|zg rfl) ⋯,_,_,_,rfl⟩)
  ⟨_,_,_,rfl⟩
 exact zN rfl<|zc s1<|zc (yn (EK ⋯) hf) ⋯
def BI(A:Alg n m J e Ds)(L:LawA n m J e Ds):RE (YT [(true,vO n m J e Ds S)]) .non:=by
 have r1:=(My (m:=m) (Ds:=Ds) (S:=S) A.n8 A.j ⟨A.e0,A.en⟩).none L.un;have r2:=(N6 (m:=m) (e:=e) (Ds:=Ds) (S:=S) A.n8 A.j).none L.as;have r3:=Ml (S:=S) A L;have tt:WT (fT<|f2 zi (fC .non)<|zw .Is) [sT<|vO n m J e Ds S,sT .non] true:=yF ⋯ rfl;exact zN rfl<|zc (y2 (y8 (WD.e<|za rfl) r1)<|zg rfl)<|zc (xf tt<|y2 (y8 (WD.e<|za (i:=0) rfl) r2)<|zg rfl)<|zc (xf tt<|y2 (p:=1) (y8 (WD.e<|za (i:=0) rfl) r3)<|zg rfl)<|zF<|WD.e<|za (i:=1) rfl
end
open L2 (Qm)
abbrev lD(p:Str×TZ):L2.Key×D:=(Sum.inr p.1,Zk p.2)
abbrev kX(p:Str×List Int):L2.Key×D:=(Sum.inr p.1,W4 p.2)
noncomputable abbrev oQ:List Str:=["size","around","table","neutral","waits","holders"]
abbrev Ou(n m:Nat)(J:TZ)(e:Int)(Ds:DD)(S:SS):D:=.ob "Ways" oQ [.int n,.int m,Zk J,.int e,.dct<|Ds.map lD,.dct<|S.map kX]
def Y9{α:Type}{f:EF}{as:AS}{g:α->D}{l:List α}(h:WE f as (.lst<|l.map g)):xX f as=some (l.map λa=>(true,g a),as):=by
 have:=rQ h
 rwa [zyB]at this
def EU{T:TZ}(hl:T.length<=1000):RE (Ln [(true,xZ T)]) (Zk T):=
 zN rfl (zF<|VH (QK T (Y9<|WD.e ⋯) ⋯ λr _=>⟨[sT _],rfl,VH (WD.e ⋯) rfl⟩) rfl)
section
variable{n m:Nat}{J:TZ}{e:Int}{Ds:DD}{S:SS}
def Hc(A:Alg n m J e Ds)(L:LawA n m J e Ds):RE (vJ [(true,vO n m J e Ds S)]) .non:=by
 have h:ZC (vU 2 [(true,vO n m J e Ds S)])=some _:=zt (y2 (y8 (WD.e ⋯)<|BI A L)<|zg rfl) ⋯;refine⟨.lf true .non, ?_,rfl,rfl⟩;unfold vJ xY;rw[h];rfl
def Ib(A:Alg n m J e Ds)(L:LawA n m J e Ds)(sl:S.length<=4)(sn:(S.map (·.1)).Nodup):RE (xt "Ways" [(true,vO n m J e Ds S)]) (Ou n m J e Ds S):=by
 have dl:=A.dl;have n8:=A.n8;have m6:=A.m6;have w1:∀o,WD zi [o,sT<|vO n m J e Ds S] true (vO n m J e Ds S):=λo=>za (i:=1) rfl;have h4:∀o,WE rn [o,sT<|vO n m J e Ds S] (.dct<|Ds.map lD):=λo=>
  qV (vf:=λp=>Zk p.2) A.nd (QK Ds (Y9 (g:=XJ)<|HD (WD.e<|w1 o) (WD.e zb) rfl) (q1I dl) λp mp=>⟨[sT<|.str p.1,sT<|xZ p.2],rfl,yw (WD.e<|za (i:=0) rfl)<|y8 (WD.e<|za (i:=1) rfl)<|EU<|by rw[(A.ds p mp).1];exact q0E m6⟩)
 have h5:∀o,WE oR [o,sT<|vO n m J e Ds S] (.dct<|S.map kX):=λo=>
  qV (vf:=λp=>W4 p.2) sn (QK S (Y9 (g:=Ud)<|HD (WD.e<|w1 o) (WD.e zb) rfl) (by omega) λp mp=>⟨[sT<|.str p.1,sT<|zj p.2],rfl,yw (WD.e<|za (i:=0) rfl)<|VH (WD.e<|za (i:=1) rfl) rfl⟩)
 have h:Zi (wj 2 (mG "Ways"::[(true,vO n m J e Ds S)].map M0))=some _:=
  yI (OX<|y8 (WD.e<|w1 _)<|Hc A L) (yI ⋯ (yI ⋯ (yI (xG (c:="Ways") (i:=0) (y8 (HD (WD.e<|w1 _) (WD.e zb) rfl)<|EU<|by rw[A.j.1];exact q0n n8) rfl (by decide +kernel) (by decide +kernel)<|by decide)<|yI ⋯ (yI (xG (c:="Ways") (i:=0) (h4 _) rfl (by decide +kernel) (by decide +kernel)<|by decide)<|xG (c:="Ways") (i:=0) (h5 _) rfl (by decide +kernel) (by decide +kernel)<|by decide))))
 refine⟨.nd (.ob "Ways" oQ) [.lf true<|.int n,.lf true<|.int m,.lf true<|Zk J,.lf true<|.int e,.lf true<|.dct<|Ds.map lD,.lf true<|.dct<|S.map kX], ?_,rfl,rfl⟩;unfold xt sJ;rw[if_pos (by rfl),h];rfl
def SD{a b:Int}(hJ:Tab n n J)(ha:zR n a)(hb:zR n b):RE (X8 [(true,Ou n m J e Ds S),(true,.int a),(true,.int b)]) (.int<|yJ J a b):=
 zN rfl (zF<|WD.e<|HP hJ ha hb ⋯ ⋯ ⋯)
end
structure Cx where
 n:Nat
 m:Nat
 J:TZ
 e:Int
 Ds:DD
 S:SS
abbrev Cx.w(c:Cx):D:=Ou c.n c.m c.J c.e c.Ds c.S
abbrev Cx.g(c:Cx):D:=vO c.n c.m c.J c.e c.Ds c.S
abbrev Cx.h(c:Cx):List Int->Int:=EW c.J c.e
abbrev Cx.In(c:Cx)(r:List Int):Prop:=∀x ∈ r,zR c.n x
structure Cx.Ok(c:Cx):Prop where
 A:Alg c.n c.m c.J c.e c.Ds
 L:LawA c.n c.m c.J c.e c.Ds
structure Cx.W(c:Cx)(T:TZ):Prop where
 t:Tab c.m c.n T
 l:LD c.n c.m (yJ c.J) c.e (yJ T)
def Rq:Option TZ->D
 |none=>.non
 |some T=>Zk T
def Cx.wok(c:Cx):Option TZ->Prop
 |none=>True
 |some T=>c.W T
def Cx.ap(c:Cx):Option TZ->List Int->List Int
 |none,r=>r
 |some T,r=>r.map<|yJ T<|1%(c.m:Int)
noncomputable def tn:Bool->List Int->List Int
 |false,r=>r
 |true,r=>r.reverse
noncomputable abbrev sS:List Str:=["whole","back","wait","turn","one","other","deep","size"]
abbrev kn(w b:Int)(q:D)(t:Bool)(x y:D)(p s:Int):D:=.ob "Knot" sS [.int w,.int b,q,.bl t,x,y,.int p,.int s]
inductive TK(c:Cx):D->List Int->Nat->Prop
 |lf (v:Int) (t:Bool):zR c.n v->TK c (kn v v .non t .non .non 0 1) [v] 0
 |nd (w:Option TZ) (t:Bool) {x y:D}{r s:List Int}{p q:Nat}{R:List Int}:TK c x r p->TK c y s q->p<=q+1->q<=p+1->c.wok w->R=tn t (c.ap w (r++s))->TK c (kn (c.h R) (c.h R.reverse) (Rq w) t x y ((1+max p q:Nat):Int) (R.length:Int)) R (1+max p q)
section
variable{c:Cx}{d:D}{R:List Int}{p:Nat}
def Ka(w:Option TZ)(r:List Int):(c.ap w r).length=r.length:=by cases w with
 |none=>rfl
 |some T=>exact zzB ..
def KI(t:Bool)(r:List Int):(tn t r).length=r.length:=by cases t with
 |false=>rfl
 |true=>exact List.length_reverse ..
def Ew(w:Option TZ)(r s:List Int):c.ap w (r++s)=c.ap w r++c.ap w s:=by cases w with
 |none=>rfl
 |some T=>exact zyM ..
def An(w:Option TZ)(t:Bool)(r:List Int):c.ap w (tn t r)=tn t (c.ap w r):=by cases w with
 |none=>rfl
 |some T=>cases t with
  |false=>rfl
  |true=>exact List.map_reverse ..
def pF(t u:Bool)(r:List Int):tn t (tn u r)=tn (u != t) r:=by cases t<;>cases u<;>first|rfl|exact List.reverse_reverse r
theorem Cx.Ok.m1(h:c.Ok):zR c.m (1%(c.m:Int)):=X0 h.A.m1
def nM(h:c.Ok){w:Option TZ}(hw:c.wok w){r:List Int}(k:c.In r):c.In (c.ap w r):=by cases w with
 |none=>exact k
 |some T=>
  intro x mx;obtain⟨z,mz,rfl⟩:=zxB.mp mx;exact hw.l.cl _ _ h.m1<|k z mz
def Av{t:Bool}{r:List Int}(k:c.In r):c.In (tn t r):=by cases t with
 |false=>exact k
 |true=>exact λx mx=>k x<|List.mem_reverse.mp mx
def Mw{r s:List Int}(k:c.In r)(l:c.In s):c.In (r++s):=λx mx=>(zzM.mp mx).elim (k x)<|l x
def TK.in(h:c.Ok):TK c d R p->c.In R:=λk=>by
 induction k with
 |lf v t hv=>exact λx mx=>by rcases zzC.mp mx with rfl|mx;exact hv;exact nomatch mx
 |nd w t a b _ _ hw e i j=>subst e;exact Av<|nM h hw<|Mw i j
def TK.rev(h:c.Ok)(k:TK c d R p):c.In R.reverse:=Av (t:=true)<|k.in h
noncomputable def fb:Nat->Nat
 |0=>1
 |1=>2
 |k+2=>fb (k+1)+fb k
def qP:∀k,fb k<=fb (k+1)
 |0=>⋯
 |k+1=>by show _<=fb _+fb k;omega
def Ar{a b:Nat}(h:a<=b):fb a<=fb b:=by
 induction h with
 |refl=>exact zzN _
 |step _ i=>exact zzO i (qP _)
theorem TK.fb(k:TK c d R p):fb p<=R.length:=by
 induction k with
 |lf=>exact zzN _
 | @nd w t x y r s p q R a b h1 h2 hw e i j=>
  subst e;rw[KI,Ka,zzJ]
  by_cases h:q<=p
  . rw[Nat.max_eq_left h,Nat.add_comm 1 p];cases p with
    |zero=>rw[show q=0 by omega]at j;exact Nat.add_le_add i j
    |succ p=>
     have:G42.fb p<=G42.fb q:=Ar ⋯;show G42.fb _+G42.fb p<=_;omega
  . rw[Nat.max_eq_right ⋯,Nat.add_comm 1 q,show q=p+1 from q1H h2 h1 h];rw[show q=p+1 from q1H h2 h1 h]at j;show G42.fb _+G42.fb p<=_;omega
def TK.lt(k:TK c d R p)(hl:R.length<=1000):p<20:=by
 refine Nat.lt_of_not_le λh=>?_;have h1:=k.fb;have h2:=Ar h;have:G42.fb 20=17711:=⋯;omega
def TK.gt(k:TK c d R p):∃q t x y,d=kn (c.h R) (c.h R.reverse) q t x y p R.length:=by
 cases k with
 |lf v t _=>exact⟨_,_,_,_,rfl⟩
 |nd w t=>exact⟨_,_,_,_,rfl⟩
def X_{a:EF}{as:AS}{w b:Int}{q x y:D}{t:Bool}{p s:Int}{cs:List Str}{f:Str}{v:D}(h:WD a as true (kn w b q t x y p s))(hc:("Knot":Str) ∈ cs)(hl:N4 sS [.int w,.int b,q,.bl t,x,y,.int p,.int s] f=some v):WD (f1 a<|zU cs f) as true v:=by
 have:=Lo h hc hl
 rwa [zyD]at this
variable{a:EF}{as:AS}
theorem TK.whole(k:TK c d R p)(ha:WD a as true d):WD (f1 a<|zU w5 "whole") as true (.int<|c.h R):=by
 obtain⟨q,t,x,y,rfl⟩:=k.gt;exact X_ ha ⋯ rfl
theorem TK.back(k:TK c d R p)(ha:WD a as true d):WD (f1 a<|zU YR "back") as true (.int<|c.h R.reverse):=by
 obtain⟨q,t,x,y,rfl⟩:=k.gt;exact X_ ha ⋯ rfl
theorem TK.deep(k:TK c d R p)(ha:WD a as true d):WD (f1 a<|zU yz "deep") as true (.int p):=by
 obtain⟨q,t,x,y,rfl⟩:=k.gt;exact X_ ha ⋯ rfl
theorem TK.size(k:TK c d R p)(ha:WD a as true d):WD (f1 a<|zU xV "size") as true (.int R.length):=by
 obtain⟨q,t,x,y,rfl⟩:=k.gt;exact X_ ha ⋯ rfl
def TK.isN(k:TK c d R p)(ha:WD a as true d):WT (fT<|f2 a (fC .non)<|zw .Is) as false:=by
 obtain⟨q,t,x,y,rfl⟩:=k.gt;exact yF (zY ha zb rfl rfl) rfl
def TK.isS(k:TK c d R p)(ha:WD a as true d):WT (fT<|f2 a (fC .non)<|zw .IsNot) as true:=by
 obtain⟨q,t,x,y,rfl⟩:=k.gt;exact yF (zY ha zb rfl rfl) rfl
def TK.zero(k:TK c d R p)(ha:WD a as true d):WT (fT<|f2 (f1 a<|zU yz "deep") zT<|zw .Eq) as (decide (p=0)):=yF (Gs (k.deep ha) zb (by
 show some _=_
 by_cases h:p=0
 . subst h;rfl
 . rw[zyG h,beq_eq_false_iff_ne.mpr ⋯])) rfl
end
section
variable{n m:Nat}{J:TZ}{e:Int}{Ds:DD}{S:SS}
def FV{W1 W2:TZ}{x:D}(h1:Tab m n W1)(h2:Tab m n W2)(m6:m<=6)(n8:n<=8):RE (Z4 [(true,x),(true,Zk W1),(true,Zk W2)]) (Zk<|bh W1 W2):=by
 have hz:Y_ (aC zi vN) [sT x,sT<|Zk W1,sT<|Zk W2]=some ((W1.zip W2).map λq=>(true,.tup [W4 q.1,W4 q.2]),[sT x,sT<|Zk W1,sT<|Zk W2]):=by
  have:=SH (as:=[sT x,sT<|Zk W1,sT<|Zk W2]) (WD.e<|za (i:=1) rfl) (WD.e<|za (i:=2) rfl) (.t _)<|.t _;rw[this,List.zip_map,zyB];rfl
 have:=QK (cap:=[none,none]) (gg:=gT 2<|yQ xF<|yQ (gN 1) Yu) (fe:=fP (aC Bg aN) tupP) _ hz (by rw[List.length_zip,h1.1];omega) (λq mq=>by
  obtain⟨q1,q2⟩:=List.of_mem_zip mq;have r1:=h1.2 _ q1;have r2:=h2.2 _ q2;refine⟨[sT<|W4 q.1,sT<|W4 q.2],rfl,VH (QK (it:=λa=>(true,D.int a)) q.1 ?_ (by rw[r1.1];exact q1J n8) λa ma=>⟨_,rfl,WD.e<|zY ⋯ ⋯ (pL r2<|r1.2 a ma) rfl⟩) ?_⟩
  . have:=uf (as:=[sT<|W4 q.1,sT<|W4 q.2])<|WD.e<|za (i:=0) rfl
    rwa [zyB]at this
  . show _=some (R0.im<|.tup<|(q.1.map<|vW q.2).map D.int);rw[zyB];rfl)
 refine zN rfl<|zF<|VH this ?_;show _=some (R0.im<|.tup<|((W1.zip W2).map λp=>p.1.map<|vW p.2).map W4);rw[zyB];rfl
def FC{W:TZ}{v k:Int}(m1:1<=m)(h1:Tab m n W)(hv:zR n v):X3 [(true,Ou n m J e Ds S),(true,Zk W),(true,.int v),(true,.int k)]=sI (yJ W (k%m) v):=by
 have wa:WD (f1 zk<|zU Wj "around") [sT<|Ou n m J e Ds S,sT<|Zk W,sI v,sI k] true _:=jg rfl ⋯ rfl;exact xO rfl<|x6<|HP h1 (X0 m1) hv ⋯ (ya ⋯ wa ⋯) ⋯
end
def Ph{a b c d e f:EF}{as:AS}{x y z u v w o:D}{g:List (Bool×D)->Option O}(ha:WE a as x)(hb:WE b as y)(hc:WE c as z)(hd:WE d as u)(he:WE e as v)(hf:WE f as w)(hg:RE (g [(true,x),(true,y),(true,z),(true,u),(true,v),(true,w)]) o):WE (zd (aC a<|aC b<|aC c<|aC d<|aC e<|aC f aN) g) as o:=by
 obtain⟨o,h1,h2⟩:=hg;exact⟨o,vL (yV ha<|yV hb<|yV hc<|yV hd<|yV he<|yV hf zo) (by simp;exact h1),h2⟩
abbrev k7(ns:List Str)(os:List O)(w b:Int)(a:D)(t:Bool)(x y:D):AS:=[some<|.nd (.ob "Knot" ns) os,sI w,sI b,sT a,sT<|.bl t,sT x,sT y]
def Af{w b:Int}{a x y:D}{t:Bool}{p s:Int}(hd:∀ns os,WE pY (k7 ns os w b a t x y)<|.int p)
 (hz:∀ns os,WE qw (k7 ns os w b a t x y)<|.int s):
 RE (yi "Knot" [(true,.int w),(true,.int b),(true,a),(true,.bl t),(true,x),(true,y)]) (kn w b a t x y p s):=by
 have v:∀(i:Nat) (d:D) ns os,(k7 ns os w b a t x y)[i]? = some (sT d)->WE (fV i) (k7 ns os w b a t x y) d:=λi d ns os h=>WD.e<|za h;have h:Zc (wj 7 (mG "Knot"::[(true,.int w),(true,.int b),(true,a),(true,.bl t),(true,x),(true,y)].map M0))=some (k7 sS _ w b a t x y):=
  yI (xG (i:=0) (ns:=[]) (os:=[]) (v 1 _ _ _ rfl) rfl (by decide +kernel) (by decide +kernel)<|by decide)
  (yI (xG (i:=0) (v 2 _ _ _ rfl) rfl (by decide +kernel) (by decide +kernel)<|by decide)
  (yI (xG (i:=0) (v 3 _ _ _ rfl) rfl (by decide +kernel) (by decide +kernel)<|by decide)
  (yI (xG (i:=0) (v 4 _ _ _ rfl) rfl (by decide +kernel) (by decide +kernel)<|by decide)
  (yI (xG (i:=0) (v 5 _ _ _ rfl) rfl (by decide +kernel) (by decide +kernel)<|by decide)
  (yI (xG (i:=0) (v 6 _ _ _ rfl) rfl (by decide +kernel) (by decide +kernel)<|by decide)
  (yI (xG (c:="Knot") (i:=0) (hd _ _) rfl (by decide +kernel) (by decide +kernel)<|by decide)
  (xG (c:="Knot") (i:=0) (hz _ _) rfl (by decide +kernel) (by decide +kernel)<|by decide)))))))
 refine⟨.nd (.ob "Knot" sS) [.lf true<|.int w,.lf true<|.int b,.lf true a,.lf true<|.bl t,.lf true x,.lf true y,.lf true<|.int p,.lf true<|.int s], ?_,rfl,rfl⟩;unfold yi sJ;rw[h];rfl
def LY{w b:Int}{a:D}{t:Bool}:RE (yi "Knot" [(true,.int w),(true,.int b),(true,a),(true,.bl t),(true,.non),(true,.non)]) (kn w b a t .non .non 0 1):=
 Af (λ_ _=>Ke ⋯ ⋯) λ_ _=>Ke ⋯ ⋯
section
variable{c:Cx}{x y d:D}{r s R:List Int}{p q:Nat}
def RG{w b:Int}{a:D}{t:Bool}(k:TK c x r p)(l:TK c y s q):RE (yi "Knot" [(true,.int w),(true,.int b),(true,a),(true,.bl t),(true,x),(true,y)]) (kn w b a t x y ((1+max p q:Nat):Int) ((r.length+s.length:Nat):Int)):=by
 have v5:∀ns os,WD yq (k7 ns os w b a t x y) true x:=λ_ _=>za rfl;have v6:∀ns os,WD xm (k7 ns os w b a t x y) true y:=λ_ _=>za rfl;refine Af (λns os=>G3 (k.isN ⋯) ?_) λns os=>G3 (k.isN ⋯) ?_
 . have h:=zM (zb (x:=.int 1))<|yX (g:=Tp) (ze (k.deep ⋯)<|ze (l.deep<|v6 ns os) zo) rfl rfl;rw[show((1+max p q:Nat):Int)=1+(if(q:Int) > p then(q:Int)else p) by split<;>omega];exact WD.e h
 . have h:=zM (k.size ⋯)<|l.size<|v6 ns os;exact WD.e h
def FI{v:Int}:RE (Wk [(true,.int v)]) (kn v v .non false .non .non 0 1):=
 zN rfl (zF<|Ph (WD.e ⋯) (WD.e ⋯) ⋯ ⋯ ⋯ ⋯ LY)
def TK.mk(h:c.Ok)(w:Option TZ)(t:Bool)(hw:c.wok w)(k:TK c x r p)(l:TK c y s q)(h1:p<=q+1)(h2:q<=p+1){u v:Int}(hu:u=c.h (tn t<|c.ap w<|r++s))(hv:v=c.h (tn t<|c.ap w<|r++s).reverse):TK c (kn u v (Rq w) t x y ((1+max p q:Nat):Int) ((r.length+s.length:Nat):Int)) (tn t<|c.ap w<|r++s) (1+max p q):=by
 have:=TK.nd w t k l h1 h2 hw rfl;rw[KI,Ka,zzJ]at this
 rwa [hu,hv]
def xW(h:c.Ok)(k:TK c x r p)(l:TK c y s q)(h1:p<=q+1)(h2:q<=p+1):∃d,RE (yr [(true,c.w),(true,x),(true,y)]) d/\TK c d (r++s) (1+max p q):=by
 have v1:WD zi [sT c.w,sT x,sT y] true x:=za rfl;have v2:WD zv [sT c.w,sT x,sT y] true y:=za rfl;have wy:WD zk [sT c.w,sT x,sT y] true c.w:=za rfl;have w1:=SU (tbl:=Vx) (m:="join") wy (by decide +kernel) rfl (WD.e<|k.whole v1) (WD.e<|l.whole v2)<|SD h.A.j (Z_ h.L.lj<|k.in h)<|Z_ h.L.lj<|l.in h;have w2:=SU (tbl:=Vx) (m:="join") wy (by decide +kernel) rfl (WD.e<|l.back v2) (WD.e<|k.back v1)<|SD h.A.j (Z_ h.L.lj<|l.rev h)<|Z_ h.L.lj<|k.rev h;refine⟨_,zN rfl<|zF<|Ph w1 w2 (WD.e zb) ⋯ (WD.e v1) (WD.e v2) (RG k l),TK.mk h none false trivial k l h1 h2 ?_ ?_⟩
 . exact(Sf h.L.lj (k.in h)<|l.in h).symm
 . show _=c.h (r++s).reverse;rw[List.reverse_append];exact(Sf h.L.lj (l.rev h)<|k.rev h).symm
def Fg(h:c.Ok){w u:Option TZ}(hw:c.wok w)(hu:c.wok u):∃v,RE (YW [(true,c.w),(true,Rq w),(true,Rq u)]) (Rq v)/\c.wok v/\∀r,c.In r->c.ap v r=c.ap u (c.ap w r):=by
 cases w with
 |none=>exact⟨u,zN rfl<|yj<|yO ⋯ (zF<|WD.e<|za rfl),hu,λ_ _=>rfl⟩
 |some A=>
  have t1:∀z,WT (fT<|f2 zi (fC .non)<|zw .Is) [sT c.w,sT<|Zk A,z] false:=λz=>yF ⋯ rfl;cases u with
  |none=>exact⟨some A,zN rfl<|zc ⋯ (yj<|yO ⋯ (zF<|WD.e<|za rfl)),hw,λ_ _=>rfl⟩
  |some B=>
   have m1:=h.m1;have at':∀{i a:Int},zR c.m i->zR c.n a->yJ (bh A B) i a=yJ B i (yJ A i a):=λhi ha=>oh hw.t hu.t hi ha;refine⟨some<|bh A B,zN rfl<|zc ⋯ (zc ⋯ (zF<|SU (za rfl) ⋯ rfl (WD.e<|za rfl) (WD.e<|za rfl) (FV hw.t hu.t h.A.m6 h.A.n8))),⟨uj hw.t hu.t, ?_⟩,λr hr=>?_⟩
   . have he:=h.L.lj.ce;have h0:zR c.m 0:=⟨Int.le_refl _,Int.natCast_pos.mpr h.A.m1⟩;refine⟨λi a hi ha=>?_, ?_,λa i b k ha hi hb hk=>?_⟩
     . rw[at' hi ha];exact hu.l.cl _ _ hi<|hw.l.cl _ _ hi ha
     . rw[at' h0 he,hw.l.em,hu.l.em]
     . rw[at' (X0 h.A.m1)<|h.L.lj.cl _ _ ha hb,at' hi ha,at' hk hb,hw.l.dn a i b k ha hi hb hk,hu.l.dn _ i _ k (hw.l.cl _ _ hi ha) hi (hw.l.cl _ _ hk hb) hk]
   . show r.map _=(r.map _).map _;rw[zyB];exact List.map_congr_left λa ma=>at' m1<|hr a ma
def ED(h:c.Ok){T:TZ}(hT:c.W T)(k:TK c d R p):∃d',RE (YC [(true,c.w),(true,d),(true,Zk T)]) d'/\TK c d' (c.ap (some T) R) p:=by
 have v1:∀a b,WD zi [sT c.w,sT d,sT<|Zk T,a,b] true d:=λ_ _=>za (i:=1) rfl;have mk:∀{v:Int}{j:EF}{a b:Option O},zR c.n v->WE j [sT c.w,sT d,sT<|Zk T,a,b] (.int v)->WE (Z1 VV "made" zk<|aC zv<|aC j<|aC (f1 zi<|zU xV "size") aN) [sT c.w,sT d,sT<|Zk T,a,b] (.int<|yJ T ((R.length:Int)%c.m) v):=λhv hj=>
  Ax (za (i:=0) rfl) (by decide +kernel) rfl (WD.e<|za (i:=2) rfl) hj (WD.e<|k.size<|v1 _ _) (RE.lf<|FC h.A.m1 hT.t hv)
 have e1:=Lh (T:=T) h.A.m1 h.L.lj hT.l R<|k.in h;have e2:=Lh (T:=T) h.A.m1 h.L.lj hT.l R.reverse<|k.rev h;rw[List.length_reverse]at e2;have s3:=y2 (p:=3) (mk (a:=none) (b:=none) (Z_ h.L.lj<|k.in h)<|WD.e<|k.whole<|v1 _ _)<|zg rfl;rw[<-e1]at s3;have s4:=y2 (p:=4) (mk (a:=sI<|EW c.J c.e<|R.map<|yJ T<|1%(c.m:Int)) (b:=none) (Z_ h.L.lj<|k.rev h)<|WD.e<|k.back<|v1 _ _)<|zg rfl;rw[<-e2]at s4;have t0:=k.zero<|v1 (sI<|EW c.J c.e<|R.map<|yJ T<|1%(c.m:Int)) none;cases k with
 |lf v t hv=>
  exact⟨_,zN rfl<|zc (zu ((TK.lf v t hv).isN<|za (i:=1) rfl) rfl)<|zc s3<|yj<|yO t0<|zF<|y8 (WD.e<|za (i:=3) rfl) FI,TK.lf _ false<|hT.l.cl _ _ h.m1 hv⟩
 | @nd w t x y r s p q R k l h1 h2 hw e=>
  obtain⟨v,b1,b2,b3⟩:=Fg h hw (show c.wok (some T)from hT);have kk:=TK.nd w t k l h1 h2 hw e;rw[zyG<|(q1b h1 h2)]at t0;have f:∀{cs:List Str}{n:Str}{z:D}(a b:Option O),("Knot":Str) ∈ cs->N4 sS _ n=some z->WE (f1 zi<|zU cs n) _ z:=λa b hc hl=>WD.e<|X_ (v1 a b) hc hl;have eR:c.ap (some T) R=tn t (c.ap v<|r++s):=by rw[e,An,b3 _<|Mw (k.in h)<|l.in h]
  refine⟨_,zN rfl<|zc (zu (kk.isN<|za (i:=1) rfl) rfl)<|zc s3<|zc (zu t0 rfl)<|zc s4<|zF<|Ph (WD.e<|za (i:=3) rfl) (WD.e<|za (i:=4) rfl) (zW (WD.e<|za (i:=0) rfl) (f _ _ (by decide +kernel) rfl) (WD.e<|za (i:=2) rfl) b1) (f _ _ (by decide +kernel) rfl) (f _ _ (by decide +kernel) rfl) (f _ _ (by decide +kernel) rfl)<|RG k l, ?_⟩;have:=TK.mk h v t b2 k l h1 h2 (u:=EW c.J c.e<|R.map<|yJ T<|1%(c.m:Int)) (v:=EW c.J c.e<|R.reverse.map<|yJ T<|1%(c.m:Int)) (by rw[<-eR];rfl) (by rw[<-eR,List.map_reverse];rfl);rw[<-eR]at this;exact this
def Qu(h:c.Ok)(k:TK c d R p):∃d',RE (xS [(true,c.w),(true,d)]) d'/\TK c d' R.reverse p:=by
 have v1:WD zi [sT c.w,sT d] true d:=za (i:=1) rfl;have w1:=WD.e<|k.back v1;have w2:=WD.e<|k.whole v1;have n0:=k.isN v1;cases k with
 |lf v t hv=>
  exact⟨_,zN rfl<|zc (zu n0 rfl)<|zF<|Ph w1 w2 (WD.e<|X_ v1 (by decide +kernel) rfl) (WD.e ⋯) (WD.e<|X_ v1 (by decide +kernel) rfl) (WD.e<|X_ v1 (by decide +kernel) rfl) LY,TK.lf _ _ hv⟩
 | @nd w t x y r s p q R k l h1 h2 hw e=>
  refine⟨_,zN rfl<|zc (zu n0 rfl)<|zF<|Ph w1 w2 (WD.e<|X_ v1 (by decide +kernel) rfl) (WD.e<|tZ<|X_ v1 (by decide +kernel) rfl) (WD.e<|X_ v1 (by decide +kernel) rfl) (WD.e<|X_ v1 (by decide +kernel) rfl)<|RG k l, ?_⟩;have eR:R.reverse=tn (!t) (c.ap w<|r++s):=by
   rw[e];cases t with
   |false=>rfl
   |true=>exact List.reverse_reverse _
  have:=TK.mk h w (!t) hw k l h1 h2 (v:=c.h R) (by rw[<-eR]) (by rw[<-eR,List.reverse_reverse])
  rwa [<-eR]at this
def ZF(h:c.Ok)(k:TK c d R p)(hp:p≠0):∃x y r s u v,RE (wR [(true,c.w),(true,d)]) (.tup [x,y])/\TK c x r u/\TK c y s v/\u<=v+1/\v<=u+1/\p=1+max u v/\R=r++s:=by
 cases k with
 |lf=>exact absurd rfl hp
 | @nd w t x y r s p q R k l h1 h2 hw e=>
  have v1:∀a b,WD zi [sT c.w,sT _,a,b] true (kn (c.h R) (c.h R.reverse) (Rq w) t x y ((1+max p q:Nat):Int) (R.length:Int)):=λ_ _=>za (i:=1) rfl;have s2:=zD (i:=2) (st:=true) (X_ (cs:=Xp) (f:="one") (v1 none none) (by decide +kernel) rfl)<|zg rfl;have s3:=zD (i:=3) (st:=true) (X_ (cs:=Zb) (f:="other") (v1 (sT x) none) (by decide +kernel) rfl)<|zg rfl;obtain⟨x',y',q1,q2,q3⟩:∃x' y',xk (fT<|f2 (f1 zi<|zU vX "wait") (fC .non)<|zw .IsNot) rK xh [sT c.w,sT<|kn (c.h R) (c.h R.reverse) (Rq w) t x y ((1+max p q:Nat):Int) (R.length:Int),sT x,sT y]=some (.nx [sT c.w,sT<|kn (c.h R) (c.h R.reverse) (Rq w) t x y ((1+max p q:Nat):Int) (R.length:Int),sT x',sT y'])/\TK c x' (c.ap w r) p/\TK c y' (c.ap w s) q:=by
   cases w with
   |none=>exact⟨x,y,zu ⋯ rfl,k,l⟩
   |some T=>
    obtain⟨x',a1,a2⟩:=ED h hw k;obtain⟨y',b1,b2⟩:=ED h hw l;have wt:∀a b,WE (f1 zi<|zU vX "wait") _ (Zk T):=λa b=>WD.e<|X_ (v1 a b) (by decide +kernel) rfl;exact⟨x',y',xf ⋯ (zt (y2 (p:=2) (zW (WD.e<|za (i:=0) rfl) (WD.e<|za (i:=2) rfl) (wt _ _) a1)<|zg rfl)<|y2 (p:=3) (zW (WD.e<|za (i:=0) rfl) (WD.e<|za (i:=3) rfl) (wt _ _) b1)<|zg rfl),a2,b2⟩
  have tt:WT (fT<|f1 zi<|zU ZY "turn") [sT c.w,sT _,sT x',sT y'] t:=yF (x:=.bl t) (X_ (v1 _ _) (by decide +kernel) rfl) rfl;cases t with
  |false=>exact⟨x',y',_,_,p,q,zN rfl<|zc s2<|zc s3<|zc q1<|zc (zu tt rfl)<|zF<|yw (WD.e<|za (i:=2) rfl)<|WD.e<|za (i:=3) rfl,q2,q3,h1,h2,rfl,by rw[e,Ew];rfl⟩
  |true=>
   obtain⟨x'',a1,a2⟩:=Qu h q2;obtain⟨y'',b1,b2⟩:=Qu h q3;exact⟨y'',x'',_,_,q,p,zN rfl<|zc s2<|zc s3<|zc q1<|yj<|yO tt<|zF<|yw (yM (WD.e<|za (i:=0) rfl) (WD.e<|za (i:=3) rfl) b1)<|yM (WD.e<|za (i:=0) rfl) (WD.e<|za (i:=2) rfl) a1,b2,a2,h2,h1,by rw[Nat.max_comm],by rw[e,Ew];exact List.reverse_append⟩
end
def AM{f:EF}{as:AS}{ds:List D}(h:WD f as true (.tup ds)):Yi f as=some (ds.map λd=>(true,d),as):=by
 unfold Yi;rw[h];show some (kids true ds,as)=_;rw[Xs]
def TY{as:AS}{i:Nat}{fr:AF}{g:List xi->O->Option O}{rs:List RV}{xs:List xi}{o r:O}(h1:fr as=some (rs,as))(h2:L8 i rs=some xs)(h3:as[i]? = some (some o))(h4:g xs o=some r):ZJ i fr g as=some (.nx<|as.set i<|some r):=by
 unfold ZJ;rw[h1];show(L8 i rs).bind _=_;rw[h2];rw[h3];show(g xs o).bind _=_;rw[h4];rfl
def Ac{f:EF}{as:AS}{d:D}(hd:zB d=true)(h:WE f as d):WD f as true d:=by
 obtain⟨o,h,h1,h2⟩:=h;cases o with
 |lf s x=>subst h2;rwa [show s=true from h1]at h
 |nd k os=>subst h2;cases k<;>cases hd
def sQ{f:EF}{as:AS}{k:Bool}(h:WE f as (.bl k)):WT (fT f) as k:=yF (Ac rfl h) rfl
section
variable{c:Cx}{x y d:D}{r s R:List Int}{p q:Nat}
abbrev g9(c:Cx)(d:D)(w:Option TZ)(t:Bool)(acc:List Int)(a b e f:Option O):AS:=[sT c.w,sT d,sT<|Rq w,sT<|.bl t,some<|xl acc,a,b,e,f]
def rE(acc:List Int)(v:Int):acc.map ZZ++[ZZ v]=(acc++[v]).map ZZ:=by rw[zyM];rfl
theorem GB(h:c.Ok):∀(k:Nat) {d:D}{R:List Int}{p:Nat}(w:Option TZ) (t:Bool) (acc:List Int),TK c d R p->c.wok w->p<k->acc.length+R.length<=1000->vF k [(true,c.w),(true,d),(true,Rq w),(true,.bl t)] (xl acc)=some (xl<|acc++tn t (c.ap w R))
 |0,_,_,_,_,_,_,_,_,h,_=>absurd h (Nat.not_lt_zero _)
 |n+1,d,R,p,w,t,acc,k,hw,hp,hl=>by
  obtain⟨a',b',e',f',run⟩:∃a b e f,Vu (vF n) (g9 c d w t acc none none none none)=some (.nx<|g9 c d w t (acc++tn t (c.ap w R)) a b e f):=by
   have v1:∀a b e f,WD zi (g9 c d w t acc a b e f) true d:=λ_ _ _ _=>za (i:=1) rfl;have t0:=k.zero<|v1 none none none none;have wh:=k.whole<|v1 none none none none;have al:acc.length<1001:=by omega
   cases k with
   |lf v b hv=>
    have wv:∃u,[u]=tn t (c.ap w [v])/\WD nh (g9 c (kn v v .non b .non .non 0 1) w t acc none none none none) true (.int u):=by
     cases w with
     |none=>exact⟨v,by cases t<;>rfl,tV (yF (zY (a:=fV 2) (b:=fC .non) (g:=zw .Is) (z:=.bl true) (za (i:=2) rfl) zb rfl rfl) rfl) wh⟩
     |some T=>exact⟨yJ T (1%(c.m:Int)) v,by cases t<;>rfl,sx (yF (zY (a:=fV 2) (b:=fC .non) (g:=zw .Is) (z:=.bl false) (za (i:=2) rfl) zb rfl rfl) rfl)<|Ac rfl<|Ax (za (i:=0) rfl) (by decide +kernel) rfl (WD.e<|za (i:=2) rfl) (WD.e wh) (WD.e zb)<|RE.lf<|FC (k:=1) h.A.m1 hw.t hv⟩
    obtain⟨u,e,wv⟩:=wv;refine⟨none,none,none,none,xf t0 ?_⟩;rw[Oc (i:=4) (os:=acc.map ZZ) rfl (by rw[zzB];exact zzK al<|B5<|by decide) wv,<-e];show some (Out.nx [_,_,_,_,some<|O.nd .ls<|acc.map ZZ++[ZZ u],_,_,_,_])=_;rw[rE]
   | @nd u b x y r s p q R k l h1 h2 hu e=>
    rw[zyG<|(q1b h1 h2)]at t0;obtain⟨v,b1,b2,b3⟩:=Fg h hu hw;have hR:R.length=r.length+s.length:=by rw[e,KI,Ka,zzJ]
    have eR:tn t (c.ap w R)=tn (b != t) (c.ap v r++c.ap v s):=by rw[e,An,pF,<-b3 _ (Mw (k.in h)<|l.in h),Ew]
    rw[eR];have f:∀{cs:List Str}{n:Str}{z:D}(a b' e f:Option O),("Knot":Str) ∈ cs->N4 sS _ n=some z->WD (f1 zi<|zU cs n) (g9 c (kn (c.h R) (c.h R.reverse) (Rq u) b x y ((1+max p q:Nat):Int) (R.length:Int)) w t acc a b' e f) true z:=λa b e f hc hl=>X_ (v1 a b e f) hc hl;have s5:=y2 (p:=5) (zW (WD.e<|za (i:=0) rfl) (WD.e<|f (cs:=vX) (n:="wait") none none none none (by decide +kernel) rfl) (WD.e<|za (i:=2) rfl) b1)<|zg rfl;have s6:=zD (i:=6) (st:=true) (E9 (c:=b==t) (f (cs:=ZY) (n:="turn") (sT<|Rq v) none none none (by decide +kernel) rfl) (za (i:=3) rfl)<|by cases b<;>cases t<;>rfl)<|zg rfl;rw[show(!(b==t))=(b != t)from rfl]at s6;have fx:=WD.e<|f (cs:=Xp) (n:="one") (sT<|Rq v) (sT<|.bl<|b != t) none none (by decide +kernel) rfl;have fy:=WD.e<|f (cs:=Zb) (n:="other") (sT<|Rq v) (sT<|.bl<|b != t) none none (by decide +kernel) rfl;have w6:WT (fT xm) (g9 c (kn (c.h R) (c.h R.reverse) (Rq u) b x y ((1+max p q:Nat):Int) (R.length:Int)) w t acc (sT<|Rq v) (sT<|.bl<|b != t) none none) (b != t):=yF (za (i:=6) rfl) rfl;have cl:∀{z:D}{r':List Int}{p':Nat}(a:List Int) (o f:Option O),TK c z r' p'->p'<n->a.length+r'.length<=1000->ZJ 4 uH (vF n) [sT c.w,f,sT<|Rq w,sT<|.bl t,some<|xl a,sT<|Rq v,sT<|.bl<|b != t,o,sT z]=some (.nx _):=λ{z r' p'} a o f k' hp' ha=>TY rfl rfl rfl<|GB h n v (b != t) a k' b2 hp' ha;have lp:∀{z z':D}{r1 r2:List Int}{p1 p2:Nat}(o:Option O),TK c z r1 p1->TK c z' r2 p2->p1<n->p2<n->acc.length+r1.length+r2.length<=1000->forL (gN 8) (ZJ 4 uH<|vF n) [(true,z),(true,z')] (g9 c (kn (c.h R) (c.h R.reverse) (Rq u) b x y ((1+max p q:Nat):Int) (R.length:Int)) w t acc (sT<|Rq v) (sT<|.bl<|b != t) o none)=some _:=λ{z z' r1 r2 p1 p2} o k1 k2 l1 l2 hl=>vP rfl (cl acc o _ k1 l1<|by omega)<|vP rfl (cl (acc++tn (b != t) (c.ap v r1)) o _ k2 l2<|by rw[zzJ,KI,Ka];exact hl) rfl;cases hc:(b != t)with
    |false=>
     rw[hc]at w6 s6 lp fx fy;have:=lp (sT<|.tup [x,y]) k l (q1k hp h1 h2) (q1h hp h1 h2) (by omega);rw[zxA]at this;exact⟨_,_,_,_,zu t0<|zt s5<|zt s6<|zt (y2 (p:=7) (G3 w6<|yw fx fy)<|zg rfl)<|yn (AM<|za (i:=7) rfl) this⟩
    |true=>
     rw[hc]at w6 s6 lp fx fy;have:=lp (sT<|.tup [y,x]) l k (q1h hp h1 h2) (q1k hp h1 h2) (by omega);rw[zxA,show tn true (c.ap v s)++tn true (c.ap v r)=tn true (c.ap v r++c.ap v s)from List.reverse_append.symm]at this;exact⟨_,_,_,_,zu t0<|zt s5<|zt s6<|zt (y2 (p:=7) (Ke w6<|yw fy fx)<|zg rfl)<|yn (AM<|za (i:=7) rfl) this⟩
  show gL 9 5 (Vu<|vF n) [(true,c.w),(true,d),(true,Rq w),(true,.bl t)] (xl acc)=_;unfold gL;rw[if_pos (by rfl),show W9 9 [(true,c.w),(true,d),(true,Rq w),(true,.bl t)] (xl acc)=g9 c d w t acc none none none none from rfl,run];rfl
def sD(h:c.Ok)(k:TK c d R p)(hl:R.length<=1000):Yr [(true,c.w),(true,d)]=some (xl R):=by
 have g:=GB h 20 none false [] k trivial (k.lt hl) (by show 0+_<=_;omega);have cl:ZJ 2 (aC zk<|aC zi<|aC (fC .non)<|aC (fC _) vN) _ [sT c.w,sT d,some _]=some _:=TY rfl rfl rfl g;exact xO rfl<|zt ⋯ (zt (xf (k.isS ⋯) cl)<|VR rfl (Xe R).1)
def JB:Yr [(true,c.w),(true,.non)]=some (xl []):=⋯
def OT(c:Cx)(d:D)(R:List Int):Prop:=(d = .non/\R=[])\/∃p,TK c d R p
def TK.o(k:TK c d R p):OT c d R:=.inr ⟨p,k⟩
def OT.n:OT c .non []:=.inl ⟨rfl,rfl⟩
def V9(k:OT c d R):RE (yS [(true,d)]) (.int R.length):=by
 rcases k with⟨rfl,rfl⟩|⟨p,k⟩
 . exact zN rfl<|zF<|Ke ⋯ (WD.e zb)
 . exact zN rfl<|zF<|G3 (k.isN ⋯)<|WD.e<|k.size ⋯
def oU(h:c.Ok)(k:OT c d R)(hl:R.length<=1000):Yr [(true,c.w),(true,d)]=some (xl R):=by
 rcases k with⟨rfl,rfl⟩|⟨p,k⟩
 . exact JB
 . exact sD h k hl
def xT{as:AS}{j:Nat}{i:Int}{ds:List D}{z:D}(h:as[j]? = some (sT<|.tup ds))(hz:zx (.tup ds) (.int i)=some (.im z)):WD (f2 (fV j) (fC<|.int i) zx) as true z:=Xq ⋯ zb hz
end
def QH{f:EF}{as:AS}{s:Bool}{y:D}{fl fh:OF}{lo hi:Option Int}{r:List Int}(ha:WD f as s y)(hl:fl as=some (lo,as))(hh:fh as=some (hi,as))(hg:Wx y lo hi=some (.fl<|r.map D.int)):WE (Xr f fl fh Wx) as (zj r):=by
 refine⟨xl r, ?_,Xe r⟩;unfold Xr;rw[ha];show((fl as).bind _)=_;rw[hl];show((fh as).bind _)=_;rw[hh];show((Wx y lo hi).bind _)=_;rw[hg];show(if _=true then some _ else none:Option RV).bind _=_;rw[if_pos (by simp),zyB];rfl
def slt{n:Nat}(h:n<1000):n<sizeLine:=zzK h ⋯
def Qp{f:EF}{as:AS}{r:List Int}(h:f as=some (.ow<|xl r,as)):WE f as (zj r):=⟨_,h,Xe r⟩
noncomputable def dg:Int->List Int->List Int
 |_,[]=>[]
 |x,z::r=>x%z::dg (x/z) r
theorem Pw:∀(l:List Int) (x:Int),(dg x l).length=l.length
 | [],_=>rfl
 |_::r,x=>congrArg (· + 1)<|Pw r _
theorem FG{n:Nat}(hn:1<=n):∀(k:Nat) (x:Int),∀v ∈ dg x (List.replicate k (n:Int)),zR n v
 |0,_,v,m=>nomatch m
 |k+1,x,v,m=>by
  rcases zzC.mp m with rfl|m
  . exact X0 hn
  . exact FG hn k _ v m
abbrev gf:SF:=(zh (yc<|wQ 2 (dC (f2 zk zz zC) dN) vH)
 (zm true 0<|f2 zk zz zq))
theorem SV{B:Option O}:∀(sz:List Int) (x:Int) (acc:List Int) (e3:Option O),(∀z ∈ sz,0<z/\z<1000000)->acc.length+sz.length<=900->∃x' e3',forL (gN 3) gf (sz.map λz=>(true,D.int z)) [sI x,B,some<|xl acc,e3]=some (.nx [sI x',B,some<|xl<|acc++dg x sz,e3'])
 | [],x,acc,e3,_,_=>⟨x,e3,by rw[show acc++dg x []=acc from zyE _];rfl⟩
 |z::sz,x,acc,e3,h,hl=>by
  have hz:=h z<|zzF ..;rw[zzT]at hl;obtain⟨x',f3,hf⟩:=SV sz _ (acc++[x%z]) _ (λy m=>h y<|zzD _ m) (by rw[zzJ];show acc.length+1+sz.length<=900;exact q1s hl);rw[zxA]at hf;refine⟨x',f3,vP rfl (zt (as1:=[sI x,B,some _,sI z]) ?_<|zD (we ⋯ ⋯ hz.1 (zG ⋯ ⋯))<|zg rfl) hf⟩;have ap:=Vh (i:=2) (as:=[sI x,B,some<|xl acc,sI z]) rfl (ya (za (i:=0) rfl) ⋯ hz.1) rfl (by rw[zzB];exact slt ⋯)
  rwa [<-Ni]at ap
def F0{x:Int}{sz:List Int}(h:∀z ∈ sz,0<z/\z<1000000)(hl:sz.length<=900):yt [(true,.int x),(true,zj sz)]=some (xl<|dg x sz):=by
 obtain⟨x',e3,hf⟩:=SV sz x [] none h (by show 0+_<=_;omega);have it:Yi zi [sI x,sT<|zj sz,some<|xl [],none]=some (sz.map λz=>(true,D.int z),[sI x,sT<|zj sz,some<|xl [],none]):=by
  have:=HU<|WD.e<|za (as:=[sI x,sT<|zj sz,some<|xl [],none]) (i:=1) rfl
  rwa [zyB]at this
 exact xO rfl<|zt ⋯ (zt (yn it hf)<|VR rfl (vZ _).2.1)
def MK{a b:EF}{as:AS}{x:Int}{sz:List Int}(h:∀z ∈ sz,0<z/\z<1000000)(hl:sz.length<=900)(ha:WE a as (.int x))(hb:WE b as (zj sz)):WE (zd (aC a<|aC b aN) yt) as (zj<|dg x sz):=yM ha hb ⟨_,F0 h hl,Xe _⟩
def Lg(p n:Nat):Prop:=n<=2 ^ p/\(p=0\/2 ^ (p-1)<n)
def tu{p q a b:Nat}(ha:1<=a)(h1:a<=b)(h2:b<=a+1)(hp:Lg p a)(hq:Lg q b):p<=q/\q<=p+1/\Lg (1+max p q) (a+b):=by
 obtain⟨p1,p2⟩:=hp;obtain⟨q1,q2⟩:=hq;have e1:p<=q:=by
  rcases p2 with p2|p2
  . omega
  . refine Nat.le_of_not_lt λh=>?_;have:=Nat.pow_le_pow_right (n:=2) (by decide) (show q<=p-1 by omega);omega
 have e2:q<=p+1:=by
  rcases q2 with q2|q2
  . omega
  . refine Nat.le_of_not_lt λh=>?_;have:=Nat.pow_le_pow_right (n:=2) (by decide) (show p+1<=q-1 by omega);omega
 refine⟨e1,e2, ?_⟩;rw[Nat.max_eq_right e1];refine⟨?_,.inr ?_⟩
 . rw[Nat.add_comm 1 q];omega
 . rw[show 1+q-1=q by omega]
   rcases q2 with q2|q2
   . subst q2;omega
   . obtain⟨r,rfl⟩:∃r,q=r+1:=⟨q-1,by
      have:q≠0:=λz=>by subst z;omega
      omega⟩
     rw[Nat.add_sub_cancel]at q2;omega
section
variable{c:Cx}{x y d:D}{r s R:List Int}{p q:Nat}
theorem Ki(h:c.Ok):∀(k:Nat) (r:List Int),1<=r.length->r.length<=2 ^ k->r.length<=1000->c.In r->∀s:Bool,∃d p,RE (wV (k+1) [(true,c.w),(s,zj r)]) d/\TK c d r p/\Lg p r.length
 |k,r,h1,h2,hk,hv,s=>by
  have wl:=λz=>by
   have:=yX (as:=[sT c.w,some<|.lf s<|zj r,z]) (g:=yo) (x:=.int ((r.map D.int).length:Nat)) (ze (za (i:=1) (x:=zj r) (s:=s) rfl) zo) rfl rfl;rw[zzB]at this;exact this
  have t0:WT (fT<|f2 (fP yy yo) zT<|zw .Eq) [sT c.w,some<|.lf s<|zj r,none] false:=yF (Gs (c:=false) (wl _) zb (by show some ((r.length:Int)==0)=_;rw[beq_eq_false_iff_ne.mpr<|by omega])) rfl;have t1:WT (fT<|f2 (fP yy yo) zA<|zw .Eq) [sT c.w,some<|.lf s<|zj r,none] (decide (r.length=1)):=yF (Gs (c:=decide (r.length=1)) (wl _) zb (by
   show some ((r.length:Int)==1)=_
   by_cases h:r.length=1
   . rw[h];rfl
   . rw[beq_eq_false_iff_ne.mpr (by omega),zyG h])) rfl
  by_cases hr:r.length=1
  . rw[zyO hr]at t1
    match r,hr with
    | [v],_=>
     exact⟨_,0,zN rfl<|zc (zu t0 rfl)<|yj<|yO t1<|zF<|y8 (WD.e<|zY (z:=.int v) (za (i:=1) rfl) zb rfl rfl) FI,.lf v false<|hv v zzF,⟨zzN _,.inl rfl⟩⟩
  . rw[zyG hr]at t1;cases k with
    |zero=>exact absurd (show r.length<=1 from h2) (by omega)
    |succ k=>
     rw[Nat.pow_succ]at h2;have s3:zm true 2 (f2 (fP yy yo) yE zq) [sT c.w,some<|.lf s<|zj r,none]=some (.nx [sT c.w,some<|.lf s<|zj r,sI ((r.length/2:Nat):Int)]):=zD (i:=2) (we (wl none) (zb (x:=.int 2)) (by decide)<|zG (by decide)<|by decide)<|zg rfl;have l1:(r.take<|r.length/2).length=r.length/2:=by rw[zzS];omega
     have l2:(r.drop<|r.length/2).length=r.length-r.length/2:=List.length_drop;obtain⟨x,p,a1,a2,a3⟩:=Ki h k (r.take<|r.length/2) (by omega) (by omega) (by omega) (λv mv=>hv v<|List.mem_of_mem_take mv) true;obtain⟨y,q,b1,b2,b3⟩:=Ki h k (r.drop<|r.length/2) (by omega) (by omega) (by omega) (λv mv=>hv v<|List.mem_of_mem_drop mv) true;rw[l1]at a3;rw[l2]at b3;obtain⟨q1,q2,q3⟩:=tu (by omega) (by omega) (by omega) a3 b3;obtain⟨d,d1,d2⟩:=xW h a2 b2 (by omega) (by omega);have sp:(r.map D.int)=(r.take<|r.length/2).map D.int++(r.drop<|r.length/2).map D.int:=by rw[<-zyM,List.take_append_drop]
     have c1:=S9 (xs:=(r.take<|r.length/2).map D.int) (ys:=(r.drop<|r.length/2).map D.int);have c2:=Ng (xs:=(r.take<|r.length/2).map D.int) (ys:=(r.drop<|r.length/2).map D.int);rw[<-sp,zzB,l1]at c1 c2;have w1:WE (Xr zi oN (oS zv) Wx) [sT c.w,some<|.lf s<|zj r,sI ((r.length/2:Nat):Int)] (zj<|r.take<|r.length/2):=QH (za (i:=1) rfl) rfl rfl c1;have w2:WE (Xr zi (oS zv) oN Wx) [sT c.w,some<|.lf s<|zj r,sI ((r.length/2:Nat):Int)] (zj<|r.drop<|r.length/2):=QH (za (i:=1) rfl) rfl rfl c2;have wy:WE zk [sT c.w,some<|.lf s<|zj r,sI ((r.length/2:Nat):Int)] c.w:=WD.e<|za (i:=0) rfl;rw[List.take_append_drop]at d2;exact⟨d,_,zN rfl<|zc (zu t0 rfl)<|zc (zu t1 rfl)<|zc s3<|zF<|zW wy (yM wy w1 a1) (yM wy w2 b1) d1,d2,by rw[show r.length/2+(r.length-r.length/2)=r.length by omega]at q3;exact q3⟩
def Su(h:c.Ok)(hl:r.length<=1000)(hv:c.In r)(s:Bool):∃d,RE (wV 20 [(true,c.w),(s,zj r)]) d/\OT c d r:=by
 by_cases e:r=[]
 . subst e;exact⟨.non,zN rfl<|yj<|yO ⋯ ⋯,.n⟩
 . obtain⟨d,p,a,b,_⟩:=Ki h 19 r (List.length_pos_iff.mpr e) (zzO hl<|by decide) hl hv s;exact⟨d,a,b.o⟩
def mD{a b:EF}{as:AS}(k:TK c x r p)(l:TK c y s q)(ha:WD a as true x)(hb:WD b as true y):WT (fT<|f2 (f1 a<|zU yz "deep") (f2 (f1 b<|zU yz "deep") zA zp)<|zw .Gt) as (decide (q+1<p)):=by
 have:=yF (oV (k.deep ha)<|zM (l.deep hb)<|zb (x:=.int 1)) rfl
 rwa [show decide _=decide (q+1<p)from decide_eq_decide.mpr ⋯]at this
def js{a b:EF}{as:AS}(k:TK c x r p)(l:TK c y s q)(ha:WD a as true x)(hb:WD b as true y):WT (fT<|f2 (f1 a<|zU yz "deep") (f1 b<|zU yz "deep")<|zw .GtE) as (decide (q<=p)):=by
 have:=yF (px (k.deep ha)<|l.deep hb) rfl
 rwa [show decide _=decide (q<=p)from decide_eq_decide.mpr ⋯]at this
def IB(h:c.Ok)(k:TK c x r p)(l:TK c y s q)(e:p=q+2):∃d u,RE (Z9 [(true,c.w),(true,x),(true,y)]) d/\TK c d (r++s) u/\p<=u/\u<=p+1:=by
 obtain⟨x1,x2,r1,r2,p1,p2,k0,k1,k2,k3,k4,k5,rfl⟩:=ZF h k (q1A e);have wy:∀a b,WE zk [sT c.w,sT x,sT y,a,b] c.w:=λ_ _=>WD.e<|za (i:=0) rfl;have v2:∀a b,WE zv [sT c.w,sT x,sT y,a,b] y:=λ_ _=>WD.e<|za (i:=2) rfl;have s3:=y2 (p:=3) (yM (wy none none) (WD.e<|za (i:=1) rfl) k0)<|zg rfl;have u0:∀b,WD (f2 zz zT zx) [sT c.w,sT x,sT y,sT<|.tup [x1,x2],b] true x1:=λ_=>xT (j:=3) rfl rfl;have u1:∀b,WD (f2 zz zA zx) [sT c.w,sT x,sT y,sT<|.tup [x1,x2],b] true x2:=λ_=>xT (j:=3) rfl rfl;have t:=js k1 k2 (u0 none)<|u1 none
 by_cases g:p2<=p1
 . rw[zyO g]at t;obtain⟨d1,a1,a2⟩:=xW h k2 l (by omega) (by omega);obtain⟨d2,b1,b2⟩:=xW h k1 a2 (by omega) (by omega);rw[<-zxA]at b2;exact⟨d2,_,zN rfl<|zc s3<|yj<|yO t<|zF<|zW (wy _ _) (WD.e<|u0 _) (zW (wy _ _) (WD.e<|u1 _) (v2 _ _) a1) b1,b2,by omega,by omega⟩
 . rw[zyG g]at t;obtain⟨z1,z2,s1,s2,q1,q2,l0,l1,l2,l3,l4,l5,rfl⟩:=ZF h k2 (q1U k4 k3 g);obtain⟨d1,a1,a2⟩:=xW h k1 l1 (by omega) (by omega);obtain⟨d2,b1,b2⟩:=xW h l2 l (by omega) (by omega);obtain⟨d3,c1,c2⟩:=xW h a2 b2 (by omega) (by omega);have s4:=y2 (p:=4) (yM (wy _ _) (WD.e<|u1 none) l0)<|zg rfl;rw[show r1++s1++(s2++s)=r1++(s1++s2)++s by simp]at c2;exact⟨d3,_,zN rfl<|zc s3<|zc (zu t rfl)<|zc s4<|zF<|zW (wy _ _) (zW (wy _ _) (WD.e<|u0 _) (WD.e<|xT (j:=4) rfl rfl) a1) (zW (wy _ _) (WD.e<|xT (j:=4) rfl rfl) (v2 _ _) b1) c1,c2,by omega,by omega⟩
def So(h:c.Ok)(k:TK c x r p)(l:TK c y s q)(e:q=p+2):∃d u,RE (Zz [(true,c.w),(true,x),(true,y)]) d/\TK c d (r++s) u/\q<=u/\u<=q+1:=by
 obtain⟨x1,x2,r1,r2,p1,p2,k0,k1,k2,k3,k4,k5,rfl⟩:=ZF h l (q1A e);have wy:∀a b,WE zk [sT c.w,sT x,sT y,a,b] c.w:=λ_ _=>WD.e<|za (i:=0) rfl;have v1:∀a b,WE zi [sT c.w,sT x,sT y,a,b] x:=λ_ _=>WD.e<|za (i:=1) rfl;have s3:=y2 (p:=3) (yM (wy none none) (WD.e<|za (i:=2) rfl) k0)<|zg rfl;have u0:∀b,WD (f2 zz zT zx) [sT c.w,sT x,sT y,sT<|.tup [x1,x2],b] true x1:=λ_=>xT (j:=3) rfl rfl;have u1:∀b,WD (f2 zz zA zx) [sT c.w,sT x,sT y,sT<|.tup [x1,x2],b] true x2:=λ_=>xT (j:=3) rfl rfl;have t:=js k2 k1 (u1 none)<|u0 none
 by_cases g:p1<=p2
 . rw[zyO g]at t;obtain⟨d1,a1,a2⟩:=xW h k k1 (by omega) (by omega);obtain⟨d2,b1,b2⟩:=xW h a2 k2 (by omega) (by omega);rw[zxA]at b2;exact⟨d2,_,zN rfl<|zc s3<|yj<|yO t<|zF<|zW (wy _ _) (zW (wy _ _) (v1 _ _) (WD.e<|u0 _) a1) (WD.e<|u1 _) b1,b2,by omega,by omega⟩
 . rw[zyG g]at t;obtain⟨z1,z2,s1,s2,q1,q2,l0,l1,l2,l3,l4,l5,rfl⟩:=ZF h k1 (q1U k3 k4 g);obtain⟨d1,a1,a2⟩:=xW h k l1 (by omega) (by omega);obtain⟨d2,b1,b2⟩:=xW h l2 k2 (by omega) (by omega);obtain⟨d3,c1,c2⟩:=xW h a2 b2 (by omega) (by omega);have s4:=y2 (p:=4) (yM (wy _ _) (WD.e<|u0 none) l0)<|zg rfl;rw[show r++s1++(s2++r2)=r++(s1++s2++r2) by simp]at c2;exact⟨d3,_,zN rfl<|zc s3<|zc (zu t rfl)<|zc s4<|zF<|zW (wy _ _) (zW (wy _ _) (v1 _ _) (WD.e<|xT (j:=4) rfl rfl) a1) (zW (wy _ _) (WD.e<|xT (j:=4) rfl rfl) (WD.e<|u1 _) b1) c1,c2,by omega,by omega⟩
def E8(h:c.Ok)(k:TK c x r p)(l:TK c y s q)(h1:p<=q+2)(h2:q<=p+2):∃d u,RE (Vf [(true,c.w),(true,x),(true,y)]) d/\TK c d (r++s) u/\max p q<=u/\u<=1+max p q/\(p<=q+1->q<=p+1->u=1+max p q):=by
 have v1:WD zi [sT c.w,sT x,sT y] true x:=za rfl;have v2:WD zv [sT c.w,sT x,sT y] true y:=za rfl;have wy:WE zk [sT c.w,sT x,sT y] c.w:=WD.e ⋯;have t1:=mD k l v1 v2;have t2:=mD l k v2 v1
 by_cases g:q+1<p
 . rw[zyO g]at t1;obtain⟨d,u,a,b,b1,b2⟩:=IB h k l ⋯;exact⟨d,u,zN rfl<|yj<|yO t1<|zF<|zW wy (WD.e v1) (WD.e v2) a,b,⋯,⋯,⋯⟩
 . rw[zyG g]at t1
   by_cases g2:p+1<q
   . rw[zyO g2]at t2;obtain⟨d,u,a,b,b1,b2⟩:=So h k l ⋯;exact⟨d,u,zN rfl<|zc (zu t1 rfl)<|yj<|yO t2<|zF<|zW wy (WD.e v1) (WD.e v2) a,b,⋯,⋯,⋯⟩
   . rw[zyG g2]at t2;obtain⟨d,a,b⟩:=xW h k l ⋯ ⋯;exact⟨d,_,zN rfl<|zc (zu t1 rfl)<|zc (zu t2 rfl)<|zF<|zW wy (WD.e v1) (WD.e v2) a,b,⋯,⋯,λ_ _=>rfl⟩
theorem MN(h:c.Ok):∀(n:Nat) {x y:D}{r s:List Int}{p q:Nat},TK c x r p->TK c y s q->p<n->q<n->∃d u,RE (yh n [(true,c.w),(true,x),(true,y)]) d/\TK c d (r++s) u/\max p q<=u/\u<=1+max p q
 |0,_,_,_,_,_,_,_,_,h,_=>absurd h (Nat.not_lt_zero _)
 |n+1,x,y,r,s,p,q,k,l,hp,hq=>by
  have v1:∀a,WD zi [sT c.w,sT x,sT y,a] true x:=λ_=>za (i:=1) rfl;have v2:∀a,WD zv [sT c.w,sT x,sT y,a] true y:=λ_=>za (i:=2) rfl;have wy:∀a,WE zk [sT c.w,sT x,sT y,a] c.w:=λ_=>WD.e<|za (i:=0) rfl;have t1:=mD k l (v1 none)<|v2 none;have t2:=mD l k (v2 none)<|v1 none;have n1:=k.isN<|v1 none;have n2:=l.isN<|v2 none
  by_cases g:q+1<p
  . rw[zyO g]at t1;obtain⟨x1,x2,r1,r2,p1,p2,k0,k1,k2,k3,k4,k5,rfl⟩:=ZF h k (q1n g);obtain⟨d,u,a1,a2,a3,a4⟩:=MN h n k2 l (by omega) (q1T g hq hp k5);obtain⟨d',u',b1,b2,b3,b4,b5⟩:=E8 h k1 a2 (by omega) (by omega);have s3:=y2 (p:=3) (yM (wy none) (WD.e<|v1 _) k0)<|zg rfl;rw[<-zxA]at b2;exact⟨d',u',zN rfl<|zc (zu n1 rfl)<|zc (zu n2 rfl)<|yj<|yO t1<|zc s3<|zF<|zW (wy _) (WD.e<|xT (j:=3) rfl rfl) (zW (wy _) (WD.e<|xT (j:=3) rfl rfl) (WD.e<|v2 _) a1) b1,b2,by omega,by omega⟩
  . rw[zyG g]at t1
    by_cases g2:p+1<q
    . rw[zyO g2]at t2;obtain⟨x1,x2,r1,r2,p1,p2,k0,k1,k2,k3,k4,k5,rfl⟩:=ZF h l (q1n g2);obtain⟨d,u,a1,a2,a3,a4⟩:=MN h n k k1 (q1T g2 hp hq k5) (by omega);obtain⟨d',u',b1,b2,b3,b4,b5⟩:=E8 h a2 k2 (by omega) (by omega);have s3:=y2 (p:=3) (yM (wy none) (WD.e<|v2 _) k0)<|zg rfl;rw[zxA]at b2;exact⟨d',u',zN rfl<|zc (zu n1 rfl)<|zc (zu n2 rfl)<|zc (zu t1 rfl)<|yj<|yO t2<|zc s3<|zF<|zW (wy _) (zW (wy _) (WD.e<|v1 _) (WD.e<|xT (j:=3) rfl rfl) a1) (WD.e<|xT (j:=3) rfl rfl) b1,b2,by omega,by omega⟩
    . rw[zyG g2]at t2;obtain⟨d,a,b⟩:=xW h k l (q1P g2 g) (q1P g g2);exact⟨d,_,zN rfl<|zc (zu n1 rfl)<|zc (zu n2 rfl)<|zc (zu t1 rfl)<|zc (zu t2 rfl)<|zF<|zW (wy _) (WD.e<|v1 _) (WD.e<|v2 _) a,b,by omega,by omega⟩
def LI(h:c.Ok)(k:OT c x r)(l:OT c y s)(h1:r.length<=1000)(h2:s.length<=1000):∃d,RE (yh 20 [(true,c.w),(true,x),(true,y)]) d/\OT c d (r++s):=by
 have wN:WT (fT<|f2 zi (fC .non)<|zw .Is) [sT c.w,sT .non,sT y,none] true:=yF ⋯ rfl
 rcases k with⟨rfl,rfl⟩|⟨p,k⟩
 . exact⟨y,zN rfl<|yj<|yO wN<|zF<|WD.e ⋯,l⟩
 rcases l with⟨rfl,rfl⟩|⟨q,l⟩
 . refine⟨x,zN rfl<|zc (zu (k.isN ⋯) rfl)<|yj<|yO ⋯ (zF<|WD.e ⋯), ?_⟩;rw[zyE];exact k.o
 . obtain⟨d,u,a,b,_⟩:=MN h 20 k l (k.lt h1)<|l.lt h2;exact⟨d,a,b.o⟩
end
noncomputable abbrev F4:Int:=1000*10 ^ (64:Int).toNat
def MV:(0:Int)<F4:=⋯
def eqT{a b:EF}{as:AS}{x y:Int}{s t q:Bool}(ha:WD a as s (.int x))(hb:WD b as t (.int y))(e:(x==y)=q):WT (fT<|f2 a b<|zw .Eq) as q:=yF (Gs ha hb<|congrArg some e) rfl
def lb{x y:Int}(h0:0<=x)(h1:x<y)(hy:y<=10 ^ 200:=by decide):x.natAbs<big:=zG (Int.lt_of_lt_of_le (by decide) h0)<|Int.lt_of_lt_of_le h1 hy
def v8{as:AS}{a b:EF}{ns:List Int}{k:Int}(ha:WD a as true (zj ns))(hb:WD b as true (.int k))(h0:0<=k)(h1:k<ns.length):∃v,WD (f2 a b zx) as true (.int v):=by
 obtain⟨v,e,_⟩:=O5 h0 h1 λ_ _=>trivial;exact⟨v,zY ha hb e rfl⟩
abbrev gB:SF:=(zh oK
 pR)
def JE{ns:List Int}{k:Nat}(hk:k<=100):∃x:Int,0<=x/\ym [(true,.lst<|ns.map .int),(true,.int k)]=sI x:=by
 have s2:zm true 2 qx [sT<|zj ns,sI k,none,none,none,none]=some (.nx [sT<|zj ns,sI k,sI F4,none,none,none]):=zD (i:=2) (yZ zb (OW zb zb ⟨by decide,by decide,by decide⟩) (zG (by decide)<|by decide)<|zG (by decide)<|by decide)<|zg rfl;have wl:∀as:AS,as[0]? = some (sT<|zj ns)->WD (fP wY yo) as true (.int (ns.length:Nat)):=λas h=>by
  have:=yX (g:=yo) (x:=.int ((ns.map D.int).length:Nat)) (ze (za h) zo) rfl rfl
  rwa [zzB]at this
 by_cases h:(k:Int)<(ns.length:Int)
 . obtain⟨v,w⟩:=v8 (as:=[sT<|zj ns,sI k,sI F4,none,none,none]) (a:=fV 0) (b:=fV 1) (ns:=ns) (k:=k) (za rfl) (za rfl) (q0x hk) h;refine⟨_,zyN _<|Int.ne_of_gt MV,xO rfl<|zt s2<|vY<|xf (yF (ND (za (i:=1) rfl)<|wl _ rfl)<|congrArg some<|zyO h)<|x6<|ya (yZ (ya w (za (i:=2) rfl) MV) (OW zb zb ⟨by decide,by decide,by decide⟩) (lb (zyN _<|Int.ne_of_gt MV)<|zyH _ MV)<|zG (by decide)<|by decide) (za (i:=2) rfl) MV⟩
 . have t0:=zu (f:=zy qF) (g:=xh) (yF (ND (as:=[sT<|zj ns,sI k,sI F4,none,none,none]) (za (i:=1) (x:=.int k) (s:=true) rfl)<|wl _ rfl)<|congrArg some<|zyG h) rfl;have kb:((k:Int)).natAbs<big:=zG (by omega) (by omega);have s3:zm true 3 pe [sT<|zj ns,sI k,sI F4,none,none,none]=some (.nx [sT<|zj ns,sI k,sI F4,sI<|(k:Int)*k+7*k+11,none,none]):=zD (i:=3) (zM (zM (yZ (za (i:=1) rfl) (za (i:=1) rfl) kb kb)<|yZ zb (za (i:=1) rfl) (zG (by decide)<|by decide) kb) zb)<|zg rfl;have kk:(k:Int)*k<=10000:=by
    have:=Int.mul_le_mul (show(k:Int)<=100 from q1Z hk) (show(k:Int)<=100 from q1Z hk) (q0x hk) (by omega);omega
   have k0:0<=(k:Int)*k:=Int.mul_nonneg (q0x hk) (q0x hk);obtain⟨x0,p0,p1,s4⟩:∃x0:Int,0<=x0/\x0<10 ^ 12/\xk (fT<|f2 zk (zZ dN)<|zw .NotEq) pP xh [sT<|zj ns,sI k,sI F4,sI<|(k:Int)*k+7*k+11,none,none]=some (.nx [sT<|zj ns,sI k,sI F4,sI x0,none,none]):=by
    have nn:WT (fT<|f2 zk (zZ dN)<|zw .NotEq) [sT<|zj ns,sI k,sI F4,sI<|(k:Int)*k+7*k+11,none,none] (!ns.isEmpty):=yF (Fj (g:=zw .NotEq) (z:=.bl<|!ns.isEmpty) (WD.e<|za (i:=0) rfl) (xB (x:=.lst []) (os:=[]) yG (W6 rfl) rfl rfl)<|by cases ns<;>rfl) rfl
    by_cases hn:ns=[]
    . subst hn;exact⟨_,by omega,by omega,zu nn rfl⟩
    . have lp:0<ns.length:=List.length_pos_iff.mpr hn;obtain⟨v,w⟩:=v8 (as:=[sT<|zj ns,sI k,sI F4,sI<|(k:Int)*k+7*k+11,none,none]) (a:=fV 0) (b:=f2 zi (fP wY yo) zC) (ns:=ns) (k:=(k:Int)%(ns.length:Int)) (za rfl) (ya (za (i:=1) rfl) (wl _ rfl)<|(q0O lp)) (zyN _<|by omega) (zyH _<|(q0O lp));have q0:=zyN v (show(1000003:Int)≠0 by decide);have q1:=zyH v (show(0:Int)<1000003 by decide);have q2:0<=v%1000003*(2*k+1):=Int.mul_nonneg q0 (q1K hk);have q3:v%1000003*(2*k+1)<=1000003*201:=Int.mul_le_mul (by omega) (by omega) (q1K hk) (by omega);have ne:(!ns.isEmpty)=true:=by
       cases ns with
       |nil=>exact absurd rfl hn
       |cons _ _=>rfl
      rw[ne]at nn;exact⟨_,by omega,by omega,xf nn<|zD (i:=3) (zM (za (i:=3) rfl)<|yZ (ya w zb<|by decide) (zM (yZ zb (za (i:=1) rfl) (zG (by decide)<|by decide) kb) zb) (zG (by omega)<|by omega)<|zG (by omega)<|by omega)<|zg rfl⟩
   obtain⟨as',hf,x,y,e5,rfl,_⟩:=yW (g:=gN 5) (f:=gB) (λi as=>∃(x y:Int) (e5:Option O),as=[sT<|zj ns,sI k,sI F4,sI x,sI y,e5]/\0<=x/\x<10 ^ 12) (yR 0 8) 0 [sT<|zj ns,sI k,sI F4,sI x0,sI 0,none] (λi z as hz hI=>by
    obtain⟨x,y,e5,rfl,b0,b1⟩:=hI;obtain⟨rfl,hi⟩:=y_ hz;have xb:x.natAbs<big:=zG (by omega) (by omega);have c0:=zyN (x*x+48271*x+69621*(0+(i:Int))+k) (show(2147483629:Int)≠0 by decide);exact⟨[sT<|zj ns,sI k,sI F4,sI x,sI y,sI<|0+(i:Int)],rfl,_,zt (zD (i:=3) (ya (zM (zM (zM (yZ (za (i:=3) rfl) (za (i:=3) rfl) xb xb)<|yZ zb (za (i:=3) rfl) (zG (by decide)<|by decide) xb)<|yZ zb (za (i:=5) rfl) (zG (by decide)<|by decide)<|zG (by omega)<|by omega)<|za (i:=1) rfl) zb<|by decide)<|zg rfl)<|zD (i:=4) (zM (KO (za (i:=4) rfl) zb<|by decide)<|ya (KO (za (i:=3) rfl) zb<|by decide) zb<|by decide)<|zg rfl,_,_,_,rfl,c0,by omega⟩)
    ⟨x0,0,none,rfl,p0,p1⟩
   refine⟨_,zyN _<|Int.ne_of_gt MV,xO rfl<|zt s2<|zt t0<|zt s3<|zt s4<|zt (zD (i:=4) zb<|zg rfl)<|zt (yn (y6 (ze (zb (x:=.int 8)) zo) (by decide)<|by decide) hf)<|x6<|ya (za (i:=4) rfl) (za (i:=2) rfl) MV⟩
def WH(ns:List Int){k:Nat}(hk:k<=100):∃x:Int,0<=x/\∀(as:AS) (b:EF),as[0]? = some (sT<|zj ns)->WD b as true (.int k)->WD (zd (aC zk<|aC b aN) ym) as true (.int x):=by
 obtain⟨x,h0,h⟩:=JE hk;exact⟨x,h0,λas b h1 h2=>Kv (ze (za h1)<|ze h2 zo) h⟩
noncomputable def uB(x at_ st:Int)(k j:Nat):Nat:=97+((x/(53761+26*(j:Int)*j)+(if(j:Int)=at_ then(k:Int)*(st+1)else 0))%26).toNat
def NT(x at_ st:Int)(sz k:Nat):Str:=⟨((List.range sz).map<|uB x at_ st k).toArray⟩
abbrev mZ(st:Int):Prop:=st=0\/st=2\/st=4\/st=6\/st=8\/st=10\/st=14\/st=16
def CS{x at_ st:Int}{sz k l:Nat}(hs:mZ st)(h0:0<=at_)(h1:at_<sz)(hk:k<10)(hl:l<10)(h:NT x at_ st sz k=NT x at_ st sz l):k=l:=by
 injection h with h
 have h:=congrArg Array.toList h;have e:=congrArg (λt:List Nat=>t[at_.toNat]?) h;have hr:(List.range sz)[at_.toNat]? = some at_.toNat:=List.getElem?_range (by omega)
 simp only[zzI,hr]at e;have e:=zzZ e;unfold uB at e;rw[show((at_.toNat:Nat):Int)=at_ by omega,if_pos rfl,if_pos rfl]at e;have a0:=zyN ⋯ (show(26:Int)≠0 by decide);have b0:=zyN ⋯ (show(26:Int)≠0 by decide);generalize x/_=q at e a0 b0
 rcases hs with rfl|rfl|rfl|rfl|rfl|rfl|rfl|rfl<;>omega
def uh{x y:Str}(h:x.length+y.length<=sizeLine):ZM .Add (.str x) (.str y)=some (.im<|.str<|x++y):=if_pos h
abbrev Mc(x:Int)(mn sz:Nat)(at_ st:Int)(os:List O)(a b c d:Option O):AS:=[sI x,sI mn,sT<|.str B0,sI<|(sz:Int)-1,sI at_,sI st,sN os,a,b,c,d]
abbrev lH:SF:=(zh (zm true 10 tq)
 (zh (xk (fT<|f2 (fV 9) zP<|zw .Eq) su xh)
 rC))
def pq{x:Int}{mn sz:Nat}{at_ st:Int}{os:List O}{k:Nat}{c d:Option O}(hz:sz<=8)(hk:k<10)(hs:mZ st):∃c' d',forL (gN 9) lH (yR 0 sz) (Mc x mn sz at_ st os (sI k) (sT<|.str ⟨#[]⟩) c d)=some (.nx<|Mc x mn sz at_ st os (sI k) (sT<|.str<|NT x at_ st sz k) c' d'):=by
 have st16:0<=st/\st<=16:=by rcases hs with rfl|rfl|rfl|rfl|rfl|rfl|rfl|rfl<;>decide
 obtain⟨as',hf,c',d',rfl⟩:=yW (g:=gN 9) (f:=lH) (λi as=>∃c' d',as=Mc x mn sz at_ st os (sI k) (sT<|.str<|NT x at_ st i k) c' d') (yR 0 sz) 0 _ (λi z as hz' hI=>by
  obtain⟨c',d',rfl⟩:=hI;obtain⟨rfl,hi⟩:=y_ hz';rw[zyX,Int.zero_add];have i2:0<=(i:Int)*i:=Int.mul_nonneg (q0a) (q0a);have i3:(i:Int)*i<=64:=Int.mul_le_mul (c:=8) (d:=8) (q1Q hi hz) (q1Q hi hz) (q0a) (by omega);have i4:26*(i:Int)*i=26*((i:Int)*i):=Int.mul_assoc ..;have s10:∀d',zm true 10 tq (Mc x mn sz at_ st os (sI k) (sT<|.str<|NT x at_ st i k) (sI i) d')=some _:=λd'=>zD (i:=10) (we (za (i:=0) rfl) (zM zb<|yZ (yZ zb (za (i:=9) rfl) (zG (by decide)<|by decide)<|zG (q1q)<|(q1F hi hz)) (za (i:=9) rfl) (zG (by omega)<|by omega)<|zG (q1q)<|(q1F hi hz)) (by omega)<|zG (by omega)<|by omega)<|zg rfl;have s11:xk (fT<|f2 (fV 9) zP<|zw .Eq) su xh (Mc x mn sz at_ st os (sI k) (sT<|.str<|NT x at_ st i k) (sI i)<|sI<|x/(53761+26*(i:Int)*i))=some (.nx<|Mc x mn sz at_ st os (sI k) (sT<|.str<|NT x at_ st i k) (sI i)<|sI<|x/(53761+26*(i:Int)*i)+(if(i:Int)=at_ then(k:Int)*(st+1)else 0)):=by
   by_cases e:(i:Int)=at_
   . rw[if_pos e];exact xf (eqT (za (i:=9) rfl) (za (i:=4) rfl)<|by simp[e])<|zD (i:=10) (zM (za (i:=10) rfl)<|yZ (za (i:=7) rfl) (zM (za (i:=5) rfl) zb) (zG (by omega)<|by omega)<|zG (by omega)<|by omega)<|zg rfl
   . rw[if_neg e,Int.add_zero];exact zu (eqT (za (i:=9) rfl) (za (i:=4) rfl)<|by simp[e]) rfl
  have q0:=zyN (x/(53761+26*(i:Int)*i)+(if(i:Int)=at_ then(k:Int)*(st+1)else 0)) (show(26:Int)≠0 by decide);have q1:=zyH (x/(53761+26*(i:Int)*i)+(if(i:Int)=at_ then(k:Int)*(st+1)else 0)) (show(0:Int)<26 by decide);have ln:(NT x at_ st i k).length=i:=by
   show(((List.range i).map<|uB x at_ st k).toArray).size=i;rw[zzH,zzB,zyU]
  have ea:NT x at_ st i k++(⟨#[uB x at_ st k i]⟩:Str)=NT x at_ st (i+1) k:=by
   show(⟨((List.range i).map<|uB x at_ st k).toArray ++ #[uB x at_ st k i]⟩:Str)=_;unfold NT;rw[List.range_succ,zyM];simp
  have s8:=zD (st:=true) (i:=8) (as:=Mc x mn sz at_ st os (sI k) (sT<|.str<|NT x at_ st i k) (sI i)<|sI<|x/(53761+26*(i:Int)*i)+(if(i:Int)=at_ then(k:Int)*(st+1)else 0)) (zY (za (i:=8) rfl) (zY (za (i:=2) (x:=.str B0) (s:=true) rfl) (ya (za (i:=10) rfl) zb<|by decide) (Dt q0 q1) rfl) (uh<|B5 (by rw[ln];show i+1<=_;omega)) rfl)<|zg rfl;rw[show(⟨#[97+((x/(53761+26*(i:Int)*i)+(if(i:Int)=at_ then(k:Int)*(st+1)else 0))%26).toNat]⟩:Str)=⟨#[uB x at_ st k i]⟩from rfl,ea]at s8;exact⟨Mc x mn sz at_ st os (sI k) (sT<|.str<|NT x at_ st i k) (sI i) d',rfl,_,zt (s10 d')<|zt s11 s8,_,_,rfl⟩)
  ⟨c,d,rfl⟩
 rw[yU,zyX]at hf;exact⟨c',d',hf⟩
def Lu(x:Int){mn:Nat}(hm:mn<=10):∃ss:List Str,ss.length=mn/\ss.Nodup/\RE (ZS [(true,.int x),(true,.int mn)]) (.lst<|ss.map D.str):=by
 have s2:zm true 2 (fC<|.str "abcdefghijklmnopqrstuvwxyz") [sI x,sI mn,none,none,none,none,none,none,none,none,none]=some (.nx [sI x,sI mn,sT<|.str B0,none,none,none,none,none,none,none,none]):=zD (i:=2) zb<|zg rfl;have e0:=zyN x (show(8:Int)≠0 by decide);have e1:=zyH x (show(0:Int)<8 by decide);obtain⟨sz,hz1,hz8,hz⟩:∃sz:Nat,1<=sz/\sz<=8/\x%8=(sz:Int)-1:=⟨(x%8+1).toNat,by omega,by omega,by omega⟩;have s3:YI pw (gT 3<|yQ (gN 3)<|yQ Wp<|yQ (gN 5) Yu) [sI x,sI mn,sT<|.str B0,none,none,none,none,none,none,none,none]=some (.nx [sI x,sI mn,sT<|.str B0,sI<|(sz:Int)-1,sI<|x/8%840,sI<|x/8/840%8,none,none,none,none,none]):=by
  rw[<-hz];exact Mx (MK (sz:=[8,840,8]) (by decide) (by decide) (WD.e<|za (i:=0) rfl)<|xB (os:=[ZZ 8,ZZ 840,ZZ 8]) (zE zb<|zE zb<|zE zb yG) (W6 rfl) rfl rfl) rfl
 have f0:=zyN (x/8/840) (show(8:Int)≠0 by decide);have f1:=zyH (x/8/840) (show(0:Int)<8 by decide);obtain⟨st,hst,hs⟩:=O5 (r:=[0,2,4,6,8,10,14,16]) (P:=mZ) f0 f1 (by decide);have s5:zm true 5 oO [sI x,sI mn,sT<|.str B0,sI<|(sz:Int)-1,sI<|x/8%840,sI<|x/8/840%8,none,none,none,none,none]=some (.nx [sI x,sI mn,sT<|.str B0,sI<|(sz:Int)-1,sI<|x/8%840,sI st,none,none,none,none,none]):=zD (i:=5) (Fj (xB (os:=[0,2,4,6,8,10,14,16].map ZZ) (zE zb<|zE zb<|zE zb<|zE zb<|zE zb<|zE zb<|zE zb<|zE zb yG) (W6 rfl) rfl rfl) (WD.e<|za (i:=5) rfl) hst)<|zg rfl;have h0:=zyN (x/8%840) (show(sz:Int)-1+1≠0 by omega);have h1:=zyH (x/8%840) (show(0:Int)<(sz:Int)-1+1 from q2b e0 hz);have s4:zm true 4 (f2 zP (f2 zz zA zp) zC) [sI x,sI mn,sT<|.str B0,sI<|(sz:Int)-1,sI<|x/8%840,sI st,none,none,none,none,none]=some (.nx _):=zD (i:=4) (ya (za (i:=4) rfl) (zM (za (i:=3) rfl) zb)<|(q2b e0 hz))<|zg rfl;generalize x/8%840%((sz:Int)-1+1)=at_ at s4 h0 h1
 obtain⟨as',hf,os,a,b,c,d,rfl,ho⟩:=yW (g:=gN 7) (f:=(zh (zm true 8<|fC<|.str "")
  (zh (yx (yu (aC (f2 zz zA zp) aN) yH) (gN 9) lH)
  (yc<|wQ 6 (dC (fV 8) dN) vH))))
  (λi as=>∃os a b c d,as=Mc x mn sz at_ st os a b c d/\Ows D.str (λ_=>True) os ((List.range i).map<|NT x at_ st sz))
  (yR 0 mn) 0 (Mc x mn sz at_ st [] none none none none) (λi z as hz' hI=>by
   obtain⟨os,a,b,c,d,rfl,ho⟩:=hI;obtain⟨rfl,hi⟩:=y_ hz';rw[zyX]at ho ⊢;rw[Int.zero_add];obtain⟨c',d',hin⟩:=pq (x:=x) (mn:=mn) (at_:=at_) (os:=os) (k:=i) (c:=c) (d:=d) hz8 (q0J hi hm) hs;have wr:WA (aC (f2 zz zA zp) aN) (Mc x mn sz at_ st os (sI i) (sT<|.str ⟨#[]⟩) c d) [(true,.int (sz:Int))]:=by
    have:=ze (zM (as:=Mc x mn sz at_ st os (sI i) (sT<|.str ⟨#[]⟩) c d) (za (i:=3) (x:=.int<|(sz:Int)-1) (s:=true) rfl)<|zb (x:=.int 1)) zo
    rwa [Int.sub_add_cancel]at this
   have hrun:=y6 wr (by omega) (by omega);rw[zyI]at hrun;obtain⟨os',o1,o2⟩:=SI (as:=Mc x mn sz at_ st os (sI i) (sT<|.str<|NT x at_ st sz i) c' d') (x:=NT x at_ st sz i) (i:=6) (toD:=D.str) (Q:=λ_=>True) (a:=fV 8) rfl ho (by rw[zzB,zyU];omega) (WD.e<|za (i:=8) rfl) True.intro;exact⟨Mc x mn sz at_ st os (sI i) b c d,rfl,_,zt (zD (i:=8) (x:=.str ⟨#[]⟩) zb<|zg rfl)<|zt (yn hrun hin) o2,os',_,_,_,_,rfl,by rw[List.range_succ,zyM];exact o1⟩)
  ⟨[],none,none,none,none,rfl,Ows.nil⟩
 rw[yU,zyX]at ho;have hrun:=y6 (as:=Mc x mn sz at_ st [] none none none none) (ze (za (i:=1) (x:=.int mn) (s:=true) rfl) zo) (by omega) (by omega);rw[zyI]at hrun;refine⟨(List.range mn).map<|NT x at_ st sz,by rw[zzB,zyU], ?_,zN rfl<|zc s2<|zc s3<|zc s5<|zc s4<|zc (w9 (i:=6) (YQ yG<|W6 rfl)<|zg rfl)<|zc (yn hrun hf)<|Ows.retB (i:=6) rfl ho⟩;exact List.pairwise_map.mpr<|(List.nodup_range (n:=mn)).imp_of_mem λha hb hne he=>hne<|CS hs h0 (by omega) (by have:=List.mem_range.mp ha;exact q0J this hm) (by have:=List.mem_range.mp hb;exact q0J this hm) he
abbrev PZ:Type:=List<|Int×Nat
noncomputable abbrev pD(p:Int×Nat):D:=.tup [.int p.1,.int p.2]
abbrev Yt(P:PZ):D:=.lst<|P.map pD
noncomputable def PN:PZ->Nat
 | []=>1
 |p::r=>PN r*p.2
noncomputable def sp:PZ->Int->List Int
 | [],_=>[]
 |p::r,v=>v%p.2::sp r (v/p.2)
noncomputable def ld:PZ->List Int->Int
 |p::r,d::t=>ld r t*p.2+d
 |_,_=>0
def jX:PZ->Int->Int->Int
 | [],_,_=>0
 |p::r,v,w=>jB p.2 (jX r) (jK p.1 p.2) v w
def eX:PZ->Int
 | []=>0
 |p::r=>eX r*p.2+eK p.1
noncomputable def dS(x:Int):Nat->Int
 |0=>0
 |k+1=>dS x k+x/3 ^ k%3
def dK(k:Int)(n:Nat)(x c a:Int):Int:=
 if k=0 then(x%n*a+x/n%n*c)%n
 else if k=1 then(if dS x a.toNat<(n:Int)-1 then dS x a.toNat else(n:Int)-1)
 else if k=2 then(if 0<a then 1+x/6 ^ a.toNat%((n:Int)-1)else 0)
 else if x%2=0 then a else sP a
def dX:PZ->Int->Int->Int->Int
 | [],_,_,_=>0
 |p::r,x,c,v=>dB p.2 (dX r x) (dK p.1 p.2 x) c v
abbrev PK(P:PZ):Prop:=∀p ∈ P,KN p.1 p.2/\2<=p.2/\p.2<=7
theorem MX:∀{P:PZ},PK P->1<=PN P
 | [],_=>zzN _
 |p::r,h=>Nat.mul_pos (MX λq m=>h q<|zzD _ m) (by have:=(h p<|zzF ..).2.1;exact q0z this)
theorem sU:∀{P:PZ},PK P->LJ (PN P) (jX P) (eX P)
 | [],_=>⟨λ_ _ _ _=>⟨Int.le_refl _,Int.one_pos⟩,⋯,λa ha=>(by have h1:a<1:=ha.2;show 0=a;omega),λa ha=>(by have h1:a<1:=ha.2;show 0=a;omega),λ_ _ _ _ _ _=>rfl⟩
 |p::r,h=>gz (sU λq m=>h q<|zzD _ m) (jo (h p<|zzF ..).1) (by have:=(h p<|zzF ..).2.1;exact q0z this)
def Fy(x:Int):∀{a b:Nat},a<=b->dS x a<=dS x b:=λ{a b} h=>by
 induction h with
 |refl=>exact Int.le_refl _
 | @step k _ ih=>
  refine Int.le_trans ih ?_;have:=zyN (x/3 ^ k) (show 3≠0 by decide);exact Int.le_add_of_nonneg_right this
def pI(x:Int)(a:Nat):0<=dS x a:=Fy x<|Nat.zero_le a
def ldK{k x:Int}{n m:Nat}(h:KN k n)(n2:2<=n)(m1:1<=m)(hm:k=0->m=n):LD n m (jK k n) (eK k) (dK k n x):=by
 rcases h with⟨rfl,_⟩|⟨rfl,_⟩|⟨rfl,_⟩|⟨rfl,rfl⟩
 . have e:=hm rfl;subst e;exact LD.congr ⋯ (jV ⋯) (gp (x0:=x%m) (x1:=x/m%m) ⋯ ⋯ ⋯ (Int.dvd_refl _) (Int.dvd_refl _)) (λ_ _ _ _=>rfl) λc a _ _=>by
    show(x%m*a+x/m%m*c)%m=_;rw[Int.ediv_self (by omega),Int.mul_one,Int.mul_comm<|x%m,Int.mul_comm<|x/m%m]
 . refine iD (r:=λa=>if dS x a.toNat<n-1 then dS x a.toNat else n-1) m1 ?_ (λa _=>?_) λa b ha hb hab=>?_
   . show(if 0<(n:Int)-1 then 0 else _-1)=0;rw[if_pos<|(q2a n2)]
   . have:=pI x a.toNat
     split<;>exact⟨by omega,by omega⟩
   . have:=Fy x (show a.toNat<=b.toNat by omega)
     split<;>split<;>omega
 . have g0:∀a:Int,0<=x/6 ^ a.toNat%(n-1)/\x/6 ^ a.toNat%(n-1)<n-1:=λa=>⟨zyN _ (by omega),zyH _<|(q2a n2)⟩;refine gk rfl (λa _=>?_) λa ha hn=>?_
   . have:=g0 a;show zR n (if 0<a then _ else _)
     split<;>exact ⋯
   . have:=g0 a;show(if 0<a then 1+x/6 ^ a.toNat%(n-1)else 0)≠0;rw[if_pos<|by omega];omega
 . refine gh ?_
   by_cases e:x%2=0
   . exact .inl λa _=>if_pos e
   . exact .inr λa _=>if_neg e
theorem lG{x:Int}{m:Nat}(m1:1<=m):∀{P:PZ},PK P->(∀p ∈ P,p.1=0->m=p.2)->LD (PN P) m (jX P) (eX P) (dX P x)
 | [],_,_=>⟨λ_ _ _ _=>⟨Int.le_refl _,Int.one_pos⟩,rfl,λ_ _ _ _ _ _ _ _=>rfl⟩
 |p::r,h,hm=>i0 (sU λq m=>h q<|zzD _ m) (jo (h p<|zzF ..).1) (by have:=(h p<|zzF ..).2.1;exact q0z this) (lG m1 (λq m=>h q<|zzD _ m) λq m=>hm q<|zzD _ m)<|ldK (h p<|zzF ..).1 (h p<|zzF ..).2.1 m1<|hm p<|zzF ..
noncomputable def z3(f:Int->Nat->Int->Int->Int):PZ->List Int->List Int->List Int
 |p::P,a::s,b::t=>f p.1 p.2 a b::z3 f P s t
 |_,_,_=>[]
noncomputable def z2(f:Int->Nat->Int->Int):PZ->List Int->List Int
 |p::P,a::s=>f p.1 p.2 a::z2 f P s
 |_,_=>[]
theorem AB:∀(P:PZ) (v w:Int),ld P (z3 jK P (sp P v)<|sp P w)=jX P v w
 | [],_,_=>rfl
 |p::r,v,w=>by
  show ld r _*p.2+jK p.1 p.2 _ _=_;rw[AB r];rfl
theorem Aw(x c:Int):∀(P:PZ) (v:Int),ld P (z2 (λk n a=>dK k n x c a) P<|sp P v)=dX P x c v
 | [],_=>rfl
 |p::r,v=>by
  show ld r _*p.2+dK p.1 p.2 x c _=_;rw[Aw x c r];rfl
theorem KY:∀(P:PZ) (v:Int),(sp P v).length=P.length
 | [],_=>rfl
 |_::r,v=>congrArg _<|KY r _
theorem jQ:∀P:PZ,ld P (P.map λp=>eK p.1)=eX P
 | []=>rfl
 |p::r=>by
  show ld r _*p.2+eK p.1=_;rw[jQ r];rfl
theorem jA:∀P:PZ,ld P (P.map λp=>(p.2:Int)-1)+1=(PN P:Int)
 | []=>rfl
 |p::r=>by
  show ld r _*p.2+(p.2-1)+1=((PN r*p.2:Nat):Int);rw[zzV,<-jA r,Int.add_mul];omega
end G42
end
section
set_option exponentiation.threshold 5000
namespace G42
open PySem PySem.Spec PyProof.Rows PF
local macro_rules |`(⋯)=>do `(by first|with_reducible rfl|assumption|$(<-zqb "zb;zo;yG;zg"):tactic|(with_reducible refine za ?_;first|rfl|assumption)|$(<-zqc "WD.e ?;ze ? ?;zE ? ?;zM ? ?;x5 ? ?;ya ? ? ?;we ? ? ? ?;yZ ? ? ? ?;zY ? ? = =;zF ?;x6 ?;yF ? ="):tactic|exact zG (by decide)|omega|rfl|decide)
def K3{p:Int×Nat}{a b:Int}(h:KN p.1 p.2)(ha:zR p.2 a)(hb:zR p.2 b):wI [(true,pD p),(true,.int a),(true,.int b)]=sI (jK p.1 p.2 a b):=by
 obtain⟨k,n⟩:=p;have s0:∀{k:Int}{n:Nat},YI zk (gT 2<|yQ (gN 3)<|yQ Wp Yu) [sT<|pD (k,n),sI a,sI b,none,none]=some (.nx [sT<|pD (k,n),sI a,sI b,sI k,sI n]):=Mx (WD.e<|za (i:=0) rfl) rfl
 rcases h with⟨rfl,hn⟩|⟨rfl,hn⟩|⟨rfl,hn⟩|⟨rfl,rfl⟩
 . exact xO rfl (zt s0<|vY<|xf (eqT (za (i:=3) rfl) zb rfl)<|x6<|ya (zM (za (i:=1) rfl)<|za (i:=2) rfl) (za (i:=4) rfl)<|(q0S hn))
 . exact xO rfl ⋯
 . exact xO rfl<|zt s0<|zt (zu (eqT (za (i:=3) rfl) zb rfl) rfl)<|zt (zu (eqT (za (i:=3) rfl) zb rfl) rfl)<|vY<|xf (eqT (za (i:=3) rfl) zb rfl)<|x6<|Fj (xB (os:=[ZZ b,ZZ a]) (zE (za (i:=2) rfl)<|zE (za (i:=1) rfl) yG) (W6 rfl) rfl rfl) (WD.e ⋯)<|oj.trans (by show _=some (R0.im<|.int<|jL a b);unfold jL;by_cases h:b=0<;>simp[h])
 . obtain⟨a0,a1⟩:=ha;obtain⟨b0,b1⟩:=hb;have a1:a<4:=a1;have b1:b<4:=b1;have LL:WE Da [sT<|pD (3,4),sI a,sI b,sI 3,sI (4:Nat)] (.lst [.int<|b/2,.int<|b%2]):=xB ⋯ (W6 rfl) rfl rfl;have pk:∀{i:Int},i=0\/i=1->zx (.lst [.int<|b/2,.int<|b%2]) (.int i)=some (.im<|.int<|iP b i):=λh=>by
    rcases h with rfl|rfl<;>rfl
   have ib:∀i,0<=iP b i/\iP b i<4:=λi=>by unfold iP;split<;>constructor<;>omega
   have:=ib<|a/2;exact xO rfl (zt s0<|zt (zu (eqT (za (i:=3) rfl) zb rfl) rfl)<|zt (zu (eqT (za (i:=3) rfl) zb rfl) rfl)<|zt (zu (eqT (za (i:=3) rfl) zb rfl) rfl)<|x6<|zM (yZ zb (Fj LL (WD.e ⋯)<|pk<|by omega) (zG (by decide)<|by decide)<|zG (by omega)<|by omega)<|Fj LL (WD.e<|ya (za (i:=1) rfl) zb<|by decide)<|pk<|by omega)
theorem Ov(x:Int):∀k:Nat,((List.range k).map λi=>x/3 ^ i%3).sum=dS x k
 |0=>rfl
 |k+1=>by
  rw[List.range_succ,zyM,List.sum_append_int,Ov x k];show dS x k+(x/3 ^ k%3+0)=dS x k+x/3 ^ k%3;rw[Int.add_zero]
def iY:∀i:Nat,i<7->zx (zj [1,3,9,27,81,243,729]) (.int (i:Int))=some (.im<|.int<|3 ^ i)
 |0,_=>rfl|1,_=>rfl|2,_=>rfl|3,_=>rfl|4,_=>rfl|5,_=>rfl|6,_=>rfl
 |n+7,h=>⋯
def hV:∀i:Nat,i<7->zx (zj [1,6,36,216,1296,7776,46656]) (.int (i:Int))=some (.im<|.int<|6 ^ i)
 |0,_=>rfl|1,_=>rfl|2,_=>rfl|3,_=>rfl|4,_=>rfl|5,_=>rfl|6,_=>rfl
 |n+7,h=>⋯
def pb(b:Int)(h1:1<=b)(h2:b<=6):∀i:Nat,i<7->(0:Int)<b ^ i/\b ^ i<=1000000:=λi hi=>by
 have e:i=0\/i=1\/i=2\/i=3\/i=4\/i=5\/i=6:=⋯;have f:b=1\/b=2\/b=3\/b=4\/b=5\/b=6:=⋯
 rcases e with rfl|rfl|rfl|rfl|rfl|rfl|rfl<;>rcases f with rfl|rfl|rfl|rfl|rfl|rfl<;>decide
def l7{as:AS}{a b c d e f g:Int}:WE (zZ<|dC (fC<|.int a)<|dC (fC<|.int b)<|dC (fC<|.int c)<|dC (fC<|.int d)<|dC (fC<|.int e)<|dC (fC<|.int f)<|dC (fC<|.int g) dN) as (zj [a,b,c,d,e,f,g]):=xB ⋯ (W6 rfl) rfl rfl
theorem Gi:∀l:List Int,Xw (l.map D.int)=some l
 | []=>rfl
 |x::l=>by show(Xw _).bind _=_;rw[Gi l];rfl
def NK{k:Int}{n:Nat}{x c a:Int}{m:Nat}(h:KN k n)(n2:2<=n)(n7:n<=7)(hc:zR m c)(m6:m<=6)(ha:zR n a):xr [(true,pD (k,n)),(true,.int x),(true,.int c),(true,.int a)]=sI (dK k n x c a):=by
 obtain⟨a0,a1⟩:=ha;obtain⟨c0,c1⟩:=hc;have s0:∀{k:Int}{n:Nat},YI zk (gT 2<|yQ Wp<|yQ (gN 5) Yu) [sT<|pD (k,n),sI x,sI c,sI a,none,none]=some (.nx [sT<|pD (k,n),sI x,sI c,sI a,sI k,sI n]):=Mx (WD.e<|za (i:=0) rfl) rfl;have x0:=zyN x (show(n:Int)≠0 by omega);have x1:=zyH x (show(0:Int)<n from q0o n2 n7);have y0:=zyN (x/n) (show(n:Int)≠0 by omega);have y1:=zyH (x/n) (show(0:Int)<n from q0o n2 n7);have nb:((n:Int)).natAbs<big:=zG (by omega) (by omega)
 rcases h with⟨rfl,hn⟩|⟨rfl,hn⟩|⟨rfl,hn⟩|⟨rfl,rfl⟩
 . exact xO rfl (zt s0<|vY<|xf (eqT (za (i:=4) rfl) zb rfl)<|x6<|ya (zM (yZ (ya (za (i:=1) rfl) (za (i:=5) rfl)<|(q0o n2 n7)) (za (i:=3) rfl) (zG (by omega)<|by omega)<|zG (q1N a0)<|by omega)<|yZ (ya (we (za (i:=1) rfl) (za (i:=5) rfl) (q0o n2 n7) nb) (za (i:=5) rfl)<|(q0o n2 n7)) (za (i:=2) rfl) (zG (by omega)<|by omega)<|zG (q1N c0)<|by omega) (za (i:=5) rfl)<|(q0o n2 n7))
 . obtain⟨b,rfl⟩:∃b:Nat,a=(b:Int):=⟨a.toNat,q1g a0⟩;have wc:=QK (as:=[sT<|pD (1,n),sI x,sI c,sI (b:Int),sI 1,sI n]) (h:=λi:Nat=>D.int<|x/3 ^ i%3) (it:=λi:Nat=>(true,D.int<|0+(i:Int))) (fi:=yu Zd yH) (cap:=[none,some 1]) (gg:=gN 0) (fe:=f2 ph ZN zC) (List.range b) (by
    have:=y6 (as:=[sT<|pD (1,n),sI x,sI c,sI (b:Int),sI 1,sI n]) (ze (za (i:=3) (x:=.int (b:Int)) (s:=true) rfl) zo) (by omega) (by omega)
    rwa [zyI]at this) (by rw[zyU];omega) λi mi=>by
    have hi:=List.mem_range.mp mi;rw[Int.zero_add];have:=pb 3 (by decide) (by decide) i (q1W a1 n2 n7 hi);exact⟨[sI i,sI x],rfl,WD.e<|ya (we (za (i:=1) rfl) (Fj l7 (WD.e<|za (i:=0) (x:=.int i) rfl)<|iY i<|(q1W a1 n2 n7 hi)) this.1<|zG (q1L this)<|(q1R this)) zb<|by decide⟩
   have e1:((List.range b).map λi:Nat=>D.int<|x/3 ^ i%3)=((List.range b).map λi=>x/3 ^ i%3).map D.int:=by rw[zyB];rfl
   rw[e1]at wc;have ws:=yX (g:=D3) (x:=.int<|dS x b) (yV wc zo) (by
    show(Xw<|((List.range b).map λi=>x/3 ^ i%3).map D.int).bind _=_;rw[Gi,<-Ov x b];rfl) rfl
   have wm:=yX (g:=P6) (x:=.int<|dK 1 n x c (b:Int)) (ze (x5 (as:=[sT<|pD (1,n),sI x,sI c,sI (b:Int),sI 1,sI n]) (za (i:=5) (x:=.int n) (s:=true) rfl)<|zb (x:=.int 1))<|ze ws zo) rfl rfl;exact xO rfl<|zt s0<|zt (zu (eqT (za (i:=4) rfl) zb rfl) rfl)<|vY<|xf (eqT (za (i:=4) rfl) zb rfl)<|x6 wm
 . obtain⟨b,rfl⟩:∃b:Nat,a=(b:Int):=⟨a.toNat,q1g a0⟩;have q:=pb 6 (by decide) (by decide) b (q1X a1 n2 n7);have wm:=yX (g:=Tp) (x:=.int<|(n:Int)-1) (ze (zb (as:=[sT<|pD (2,n),sI x,sI c,sI (b:Int),sI 2,sI n]) (x:=.int 1))<|ze (x5 (za (i:=5) (x:=.int n) (s:=true) rfl)<|zb (x:=.int 1)) zo) (by
    show some (R0.im<|.int<|if(n:Int)-1 > 1 then(n:Int)-1 else 1)=_
    split
    . rfl
    . rw[show(n:Int)-1=1 by omega]) rfl
   have r0:=zyN (x/6 ^ b) (show(n:Int)-1≠0 by omega);have r1:=zyH (x/6 ^ b) (show(0:Int)<(n:Int)-1 from q1Y n2 n7);have wi:=yX (g:=PC) (x:=.int<|if(0:Int)<b then 1 else 0) (ze (zY (g:=zw .Gt) (z:=.bl<|decide ((0:Int)<b)) (za (as:=[sT<|pD (2,n),sI x,sI c,sI (b:Int),sI 2,sI n]) (i:=3) (x:=.int (b:Int)) (s:=true) rfl) (zb (x:=.int 0)) rfl rfl) zo) (by
    show PC [.bl<|decide ((0:Int)<b)]=_
    by_cases h:(0:Int)<b
    . rw[zyO h,if_pos h];rfl
    . rw[zyG h,if_neg h];rfl) rfl
   have wv:=yZ wi (zM (zb (x:=.int 1))<|ya (we (za (i:=1) (x:=.int x) (s:=true) rfl) (Fj l7 (WD.e<|za (i:=3) (x:=.int (b:Int)) rfl)<|hV b<|(q1X a1 n2 n7)) q.1<|zG (q1L q)<|(q1R q)) wm<|(q1Y n2 n7)) (zG (by split<;>decide)<|by split<;>decide) (zG (by omega)<|by omega);have e2:(if(0:Int)<b then(1:Int)else 0)*(1+x/6 ^ b%((n:Int)-1))=dK 2 n x c (b:Int):=by
    show _=if(0:Int)<b then 1+x/6 ^ (((b:Nat):Int)).toNat%((n:Int)-1)else 0
    rw[zyI]
    split
    . rw[Int.one_mul]
    . rw[Int.zero_mul]
   rw[e2]at wv;exact xO rfl<|zt s0<|zt (zu (eqT (za (i:=4) rfl) zb rfl) rfl)<|zt (zu (eqT (za (i:=4) rfl) zb rfl) rfl)<|vY<|xf (eqT (za (i:=4) rfl) zb rfl)<|x6 wv
 . have tt:WT (fT<|f2 (f2 zi yE zC) zT<|zw .Eq) [sT<|pD (3,4),sI x,sI c,sI a,sI 3,sI (4:Nat)] (x%2==0):=eqT (ya (za (i:=1) rfl) zb<|by decide) zb rfl
   by_cases e:x%2=0
   . rw[show(x%2==0)=true by simp[e]]at tt;have d:dK 3 4 x c a=a:=if_pos e;rw[d];exact xO rfl<|zt s0<|zt (zu (eqT (za (i:=4) rfl) zb rfl) rfl)<|zt (zu (eqT (za (i:=4) rfl) zb rfl) rfl)<|zt (zu (eqT (za (i:=4) rfl) zb rfl) rfl)<|vY<|xf tt<|x6<|za (i:=3) rfl
   . rw[show(x%2==0)=false by simp[e]]at tt;have d:dK 3 4 x c a=sP a:=if_neg e;rw[d];exact xO rfl (zt s0<|zt (zu (eqT (za (i:=4) rfl) zb rfl) rfl)<|zt (zu (eqT (za (i:=4) rfl) zb rfl) rfl)<|zt (zu (eqT (za (i:=4) rfl) zb rfl) rfl)<|zt (zu tt rfl)<|x6<|x5 (zM (yZ zb (x5 zb<|ya (za (i:=3) rfl) zb<|by decide) (zG (by decide)<|by decide)<|zG (by omega)<|by omega) zb)<|we (za (i:=3) rfl) zb (by decide)<|zG (by decide)<|by decide)
def Kr{p:Int×Nat}{x c a:Int}{m:Nat}(h:KN p.1 p.2/\2<=p.2/\p.2<=7)(hc:zR m c)(m6:m<=6)(ha:zR p.2 a):xr [(true,pD p),(true,.int x),(true,.int c),(true,.int a)]=sI (dK p.1 p.2 x c a):=NK h.1 h.2.1 h.2.2 hc m6 ha
def PK.tail{p:Int×Nat}{P:PZ}(h:PK (p::P)):PK P:=λq m=>h q<|zzD _ m
abbrev gv:SF:=(zh (yc<|wQ 2 (dC (f2 zi zP zC) dN) vH)
 (zm true 1<|f2 zi zP zq))
theorem S3{B:Option O}:∀(P:PZ) (v:Int) (acc:List Int) (e3 e4:Option O),PK P->acc.length+P.length<=900->∃v' e3' e4',forL (gT 2<|yQ (gN 3)<|yQ Wp Yu) gv (P.map λp=>(true,pD p)) [B,sI v,some<|xl acc,e3,e4]=some (.nx [B,sI v',some<|xl<|acc++sp P v,e3',e4'])
 | [],v,acc,e3,e4,_,_=>⟨v,e3,e4,by rw[show acc++sp [] v=acc from zyE _];rfl⟩
 |p::P,v,acc,e3,e4,h,hl=>by
  have hp:=(h p<|zzF ..).2;rw[zzT]at hl;obtain⟨v',f3,f4,hf⟩:=S3 P _ (acc++[v%p.2]) _ _ h.tail (by rw[zzJ];show acc.length+1+P.length<=900;exact q1s hl);rw[zxA]at hf;refine⟨v',f3,f4,vP rfl (zt (as1:=[B,sI v,some _,sI p.1,sI p.2]) ?_<|zD (we ⋯ ⋯ ⋯ (zG ⋯ ⋯))<|zg rfl) hf⟩;have ap:=Vh (i:=2) (as:=[B,sI v,some<|xl acc,sI p.1,sI p.2]) rfl (ya (za (i:=1) rfl) (za (i:=4) rfl) ⋯) rfl (by rw[zzB];exact slt ⋯)
  rwa [<-Ni]at ap
def Oe{P:PZ}{v:Int}(h:PK P)(hl:P.length<=10):Xy [(true,Yt P),(true,.int v)]=some (xl<|sp P v):=by
 obtain⟨v',e3,e4,hf⟩:=S3 P v [] none none h (by show 0+_<=_;omega);have it:Yi zk [sT<|Yt P,sI v,some<|xl [],none,none]=some (P.map λp=>(true,pD p),[sT<|Yt P,sI v,some<|xl [],none,none]):=by
  have:=HU<|WD.e<|za (as:=[sT<|Yt P,sI v,some<|xl [],none,none]) (i:=0) rfl
  rwa [zyB]at this
 exact xO rfl<|zt ⋯ (zt (yn it hf)<|VR rfl (vZ _).2.1)
def pj{f:EF}{as:AS}{ds:List D}(h:WD f as true (.lst ds)):WE (Xr f oN (oS<|f1 zA P9) sL) as (.lst ds.reverse):=by
 refine⟨.nd .ls _, ?_,ZV _,congrArg D.lst<|VN _⟩;unfold Xr;rw[h];show(if _=true then some (RV.ow<|.nd .ls<|ds.reverse.map<|B4 true)else none:Option RV).bind _=_;rw[if_pos<|by simp];show some _=_;rw[show(B4 true)=O.lf true from funext λd=>by show O.lf _ d=_;rw[zyD]]
theorem XB:∀(P:PZ) (ds:List Int),Qt true (P.map pD) (ds.map D.int)=(P.zip ds).map λq=>(true,D.tup [pD q.1,.int q.2])
 | [],_=>rfl
 |_::_,[]=>rfl
 |p::P,d::ds=>congrArg _<|XB P ds
theorem EG:∀(P:PZ) (ds:List Int),P.length=ds.length->(P.zip ds).foldr (λq v=>v*(q.1.2:Int)+q.2) 0=ld P ds
 | [],[],_=>rfl
 | [],_::_,h=>⋯
 |_::_,[],h=>⋯
 |p::P,d::ds,h=>by
  show(P.zip ds).foldr _ 0*p.2+d=ld P ds*p.2+d;rw[EG P ds<|by simpa using h]
abbrev iK:SF:=rz
theorem Sq{B C:Option O}:∀(l:List ((Int×Nat)×Int)) (v:Int) (e3 e4:Option O),(∀q ∈ l,q.1.2<=7)->∃e3' e4',forL (gT 2<|yQ (gN 3)<|yQ Wp Yu) iK (l.map λq=>(true,D.tup [pD q.1,.int q.2])) [B,C,sI v,e3,e4]=some (.nx [B,C,sI<|l.foldl (λv q=>v*(q.1.2:Int)+q.2) v,e3',e4'])
 | [],v,e3,e4,_=>⟨e3,e4,rfl⟩
 |q::l,v,e3,e4,h=>by
  have hq:=h q<|zzF ..;obtain⟨f3,f4,hf⟩:=Sq l _ (sT<|pD q.1) (sI q.2) λx m=>h x<|zzD _ m;exact⟨f3,f4,vP rfl (zD (zM (KO ⋯ ⋯ ⋯) ⋯)<|zg rfl) hf⟩
def Kk{P:PZ}{ds:List Int}(h:PK P)(hl:P.length=ds.length):xq [(true,Yt P),(true,zj ds)]=sI (ld P ds):=by
 obtain⟨e3,e4,hf⟩:=Sq (P.zip ds).reverse 0 none none λq m=>by
  have:=List.of_mem_zip<|List.mem_reverse.mp<|m;exact(h _ this.1).2.2
 rw[List.foldl_reverse,EG P ds hl]at hf;have ez:(P.zip ds).reverse=P.reverse.zip ds.reverse:=List.reverse_zipWith hl;have w1:=pj (as:=[sT<|Yt P,sT<|zj ds,sI 0,none,none])<|za (i:=0) rfl;have w2:=pj (as:=[sT<|Yt P,sT<|zj ds,sI 0,none,none])<|za (i:=1) rfl;rw[<-List.map_reverse]at w1 w2;have it:Y_ uS [sT<|Yt P,sT<|zj ds,sI 0,none,none]=some ((P.zip ds).reverse.map λq=>(true,D.tup [pD q.1,.int q.2]),[sT<|Yt P,sT<|zj ds,sI 0,none,none]):=by
  rw[ez,<-XB];have hw:=yV w1<|yV w2 ⋯;unfold Y_ uS;rw[hw];rfl
 exact xO rfl<|zt ⋯ (zt (yn it hf) ⋯)
def C8{as:AS}{a b:EF}{i:Nat}{l:List Int}{k v:Int}(h:as[i]? = some (some<|xl l))(hl:l.length<900)(ha:WD a as true (.int k))(hb:WD b as true (.int v))(k0:0<=k)(k1:k<1000):∃l':List Int,l'.Perm (v::l)/\yc (wQ i (dC a<|dC b dN) Bh) as=some (.nx<|as.set i<|some<|xl l'):=by
 refine⟨l.take _++v::l.drop (Ww k l.length),List.perm_middle.trans (by rw[List.take_append_drop]), ?_⟩;unfold yc wQ;rw[h];have e:=zE ha<|zE hb yG;rw[e];show(Option.bind (match as[i]? with|some (some<|.nd .ls os)=>_|_=>none) _)=_;rw[h];show((Bh _ _).bind _).bind _=_;have e2:Bh (l.map ZZ) [.lf true<|.int k,ZZ v]=some ((l.take (Ww k l.length)++v::l.drop (Ww k l.length)).map ZZ,.lf true .non):=by
  show(if _/\(l.map ZZ).length<sizeLine then _ else _)=_;rw[if_pos ⟨⋯,by rw[zzB];exact slt ⋯⟩,zzB,zyM,zyS,List.map_take,List.map_drop]
 rw[e2];rfl
def Ho{x:Int}{n:Nat}(n8:n<=8):∃F:List Int,F.Perm (UV n)/\RE (XH [(true,.int x),(true,.int n)]) (zj F):=by
 obtain⟨as',hf,x',F,e3,rfl,hp⟩:=yW (g:=gN 3) (f:=(zh o4
  (zm true 0<|f2 zk (f2 zz zA zp) zq)))
  (λi as=>∃(x':Int) (F:List Int) (e3:Option O),as=[sI x',sI n,some<|xl F,e3]/\F.Perm (UV i)) (yR 0 n) 0 [sI x,sI n,some<|xl [],none] (λi z as hz hI=>by
   obtain⟨x',F,e3,rfl,hp⟩:=hI;obtain⟨rfl,hi⟩:=y_ hz;rw[zyX]at hp ⊢;rw[Int.zero_add];have fl:F.length=i:=by rw[hp.length_eq,zzB,zyU]
   have q0:=zyN x' (show(i:Int)+1≠0 by omega);have q1:=zyH x' (show(0:Int)<(i:Int)+1 from q0L fl);obtain⟨F',p',hs⟩:=C8 (as:=[sI x',sI n,some<|xl F,sI i]) (b:=fV 3) (i:=2) rfl (by omega) (ya ⋯ ⋯ (q0L fl)) ⋯ q0 (by omega);refine⟨[sI x',sI n,some<|xl F,sI i],rfl,_,zt hs<|zD (i:=0) (we ⋯ ⋯ (q0L fl) (zG (by omega)<|by omega))<|zg rfl,_,F',_,rfl, ?_⟩;show F'.Perm ((List.range<|i+1).map λ(i:Nat)=>(i:Int));rw[List.range_succ,zyM];exact p'.trans<|(hp.cons _).trans (List.perm_append_singleton _ _).symm)
  ⟨x,[],none,rfl,List.Perm.refl _⟩
 rw[yU,zyX]at hp;have hrun:=y6 (as:=[sI x,sI n,some<|xl [],none]) (ze (za (i:=1) rfl) zo) (by omega) (by omega);exact⟨F,hp,zN rfl<|zc (w9 (i:=2) (YQ yG<|W6 rfl)<|zg rfl)<|zc (yn hrun hf) ⟨_,VR (i:=2) rfl (vZ F).2.1,(Xe F).1,(Xe F).2⟩⟩
def WL(fr:DF)(as:AS)(xs:List D):Prop:=∃os,fr as=some (os,as)/\O.strs os=true/\O.toDs os=xs
def YH{as:AS}:WL dN as []:=⟨[],rfl,rfl,rfl⟩
def yb{a:EF}{fr:DF}{as:AS}{x:D}{xs:List D}(h:WE a as x)(t:WL fr as xs):WL (dC a fr) as (x::xs):=by
 obtain⟨o,h1,h2,h3⟩:=h;obtain⟨os,t1,t2,t3⟩:=t;refine⟨o::os,Hg h1 t1, ?_, ?_⟩
 . show(o.str&&O.strs os)=true;rw[h2,t2];rfl
 . show o.toD::O.toDs os=_;rw[h3,t3]
def X4{fr:DF}{as:AS}{xs:List D}(h:WL fr as xs)(hl:Nat.ble xs.length 1000=true):WE (zZ fr) as (.lst xs):=by
 obtain⟨os,h1,h2,h3⟩:=h;have e:os.length=xs.length:=by rw[<-h3,ZU]
 exact xB h1 (by rw[e];exact W6 hl) h2<|congrArg D.lst h3
noncomputable def lO:List PZ:=[[(0,3)],[(2,3)],[(1,4)],[(0,2),(2,2)],[(3,4)],[(2,4)],[(0,2),(1,3)],[(0,5)],[(2,2),(3,4)],[(1,2),(2,3)],[(0,4)],[(3,4)],[(1,6)],[(0,2),(3,4)],[(2,7)],[(0,6)]]
def nZ(P:PZ):Bool:=P.all (λp=>((p.1==0&&p.2<=6)||p.1==1||p.1==2||(p.1==3&&p.2==4))&&2<=p.2&&p.2<=7)&&PN P<=8&&P.tail.all (λp=>p.1 != 0)&&P.length<=2&&P != []
def IR:∀P ∈ lO,nZ P=true:=by decide
structure Pt(P:PZ):Prop where
 k:PK P
 n8:PN P<=8
 tl:∀p ∈ P.tail,p.1≠0
 l2:P.length<=2
 ne:P≠[]
 z6:∀p ∈ P,p.1=0->p.2<=6
def oe{P:PZ}(h:nZ P=true):Pt P:=by
 unfold nZ at h;simp only[zyC,List.all_eq_true,Bool.or_eq_true,beq_iff_eq,decide_eq_true_eq,bne_iff_ne,ne_eq]at h;obtain⟨⟨⟨⟨h1,h2⟩,h3⟩,h4⟩,h5⟩:=h;refine⟨λp mp=>?_,h2,h3,h4,h5,λp mp e=>?_⟩
 . obtain⟨⟨h,a⟩,b⟩:=h1 p mp;refine⟨?_,a,b⟩
   rcases h with((h|h)|h)|h
   . exact .inl ⟨h.1,by omega⟩
   . exact .inr<|.inl ⟨h,q1t a b⟩
   . exact .inr<|.inr<|.inl ⟨h,q1t a b⟩
   . exact .inr<|.inr<|.inr ⟨h.1,h.2⟩
 . obtain⟨⟨h,a⟩,b⟩:=h1 p mp
   rcases h with((h|h)|h)|h
   . exact h.2
   . omega
   . omega
   . omega
def mY{as:AS}{k:Int}{n:Nat}:WE (yf<|dC (fC<|.int k)<|dC (fC<|.int (n:Int)) dN) as (pD (k,n)):=yw (WD.e zb)<|WD.e zb
def Hy{as:AS}{k:Int}{n:Nat}:WE (zZ<|dC (yf<|dC (fC<|.int k)<|dC (fC<|.int (n:Int)) dN) dN) as (Yt [(k,n)]):=X4 (yb mY YH) rfl
def oH{as:AS}{k l:Int}{n m:Nat}:WE (zZ<|dC (yf<|dC (fC<|.int k)<|dC (fC<|.int (n:Int)) dN)<|dC (yf<|dC (fC<|.int l)<|dC (fC<|.int (m:Int)) dN) dN) as (Yt [(k,n),(l,m)]):=X4 (yb mY<|yb mY YH) rfl
def F2(x:Int):∃P:PZ,Pt P/\RE (XT [(true,.int x)]) (Yt P):=by
 have q0:=zyN x (show(16:Int)≠0 by decide);have q1:=zyH x (show(0:Int)<16 by decide);obtain⟨P,hP,mP⟩:=Dl Yt (T:=lO) (P:=λP=>nZ P=true) q0 q1 IR;have s1:=y2 (p:=1) (as:=[sI x,none]) (X4 (yb (Hy (k:=0) (n:=3))<|yb (Hy (k:=2) (n:=3))<|yb (Hy (k:=1) (n:=4))<|yb (oH (k:=0) (n:=2) (l:=2) (m:=2))<|yb (Hy (k:=3) (n:=4))<|yb (Hy (k:=2) (n:=4))<|yb (oH (k:=0) (n:=2) (l:=1) (m:=3))<|yb (Hy (k:=0) (n:=5)) YH) rfl)<|zg rfl;have s2:=y2 (p:=1) (as:=[sI x,sT<|.lst<|([[(0,3)],[(2,3)],[(1,4)],[(0,2),(2,2)],[(3,4)],[(2,4)],[(0,2),(1,3)],[(0,5)]]:List PZ).map Yt]) (SN (WD.e<|za (i:=1) rfl) (X4 (yb (oH (k:=2) (n:=2) (l:=3) (m:=4))<|yb (oH (k:=1) (n:=2) (l:=2) (m:=3))<|yb (Hy (k:=0) (n:=4))<|yb (Hy (k:=3) (n:=4))<|yb (Hy (k:=1) (n:=6))<|yb (oH (k:=0) (n:=2) (l:=3) (m:=4)) YH) rfl)<|add_lists<|W6 rfl)<|zg rfl;have s3:=y2 (p:=1) (as:=[sI x,sT<|.lst<|([[(0,3)],[(2,3)],[(1,4)],[(0,2),(2,2)],[(3,4)],[(2,4)],[(0,2),(1,3)],[(0,5)],[(2,2),(3,4)],[(1,2),(2,3)],[(0,4)],[(3,4)],[(1,6)],[(0,2),(3,4)]]:List PZ).map Yt]) (SN (WD.e<|za (i:=1) rfl) (X4 (yb (Hy (k:=2) (n:=7))<|yb (Hy (k:=0) (n:=6)) YH) rfl)<|add_lists<|W6 rfl)<|zg rfl;exact⟨P,oe mP,zN rfl<|zc s1<|zc s2<|zc s3<|zF<|WD.e<|Xq (as:=[sI x,sT<|.lst<|lO.map Yt]) (za (i:=1) rfl) (ya (za (i:=0) rfl) zb<|by decide) hP⟩
section
variable{α:Type}{fi:IF}{cap:List (Option Nat)}{gg:GF}{fe:EF}{as:AS}{it:α->xi}
def GD{h:α->Int}(l:List α)(h1:fi as=some (l.map it,as))(hl:l.length<=1000)(H:∀q ∈ l,∃as1,gg (it q) (Zv cap as)=some as1/\WD fe as1 true (.int<|h q)):zX fi cap gg yK fe as=some (.ow<|xl<|l.map h,as):=by
 have c:∀l:List α,(∀q ∈ l,∃as1,gg (it q) (Zv cap as)=some as1/\WD fe as1 true (.int<|h q))->xv gg yK fe (Zv cap as) (l.map it)=some ((l.map h).map ZZ):=by
  intro l
  induction l with
  |nil=>exact λ_=>rfl
  |cons q l ih=>
   intro H;obtain⟨as1,a,b⟩:=H q<|zzF ..;exact QC a b<|ih λz m=>H z<|zzD _ m
 exact VW h1 (by rw[zzB];exact B5 ⋯)<|c l H
def Ox{h:α->D}(l:List α)(h1:fi as=some (l.map it,as))(hl:l.length<=1000)(H:∀q ∈ l,∃as1,gg (it q) (Zv cap as)=some as1/\WE fe as1 (h q)):∃os,zX fi cap gg yK fe as=some (.ow<|.nd .ls os,as)/\O.strs os=true/\O.toDs os=l.map h:=by
 have c:∀l:List α,(∀q ∈ l,∃as1,gg (it q) (Zv cap as)=some as1/\WE fe as1 (h q))->∃os,xv gg yK fe (Zv cap as) (l.map it)=some os/\O.strs os=true/\O.toDs os=l.map h:=by
  intro l
  induction l with
  |nil=>exact λ_=>⟨[],rfl,rfl,rfl⟩
  |cons q l ih=>
   intro H;obtain⟨as1,a,o,b1,b2,b3⟩:=H q<|zzF ..;obtain⟨os,c1,c2,c3⟩:=ih λz m=>H z<|zzD _ m;refine⟨o::os,NX a b1 b2 c1, ?_, ?_⟩
   . show(o.str&&O.strs os)=_;rw[b2,c2];rfl
   . show o.toD::O.toDs os=_;rw[b3,c3];rfl
 obtain⟨os,c1,c2,c3⟩:=c l H;exact⟨os,VW h1 (by rw[zzB];exact B5 ⋯) c1,c2,c3⟩
end
def CY{as:AS}{fr:AF}{n:Nat}{u:Bool}(h:WA fr as [(u,.int n)])(hn:n<=1000):yu fr yH as=some ((List.range n).map λi:Nat=>(true,D.int<|0+(i:Int)),as):=by
 have:=y6 h ⋯ ⋯
 rwa [zyI]at this
theorem any_ints(b:Int):∀r:List Int,∃t,anyF (λy=>Yj 50 y<|.int b) (r.map D.int)=some t
 | []=>⟨_,rfl⟩
 |x::r=>by
  obtain⟨t,h⟩:=any_ints b r;refine⟨(x==b)||t, ?_⟩;show(some _).bind _=_;rw[h];rfl
theorem Nb{b:Int}:∀{r:List Int},b ∈ r->∃j:Nat,j<r.length/\r[j]? = some b/\Ll (λy=>Yj 50 y<|.int b) (r.map D.int)=some j
 |x::r,m=>by
  by_cases e:x=b
  . obtain⟨t,h⟩:=any_ints b r;refine⟨0,Nat.succ_pos _,by rw[e];rfl, ?_⟩;show(some _).bind _=_;rw[show(x==b)=true by simp[e]];rw[h];rfl
  . obtain⟨j,h1,h3,h2⟩:=Nb<|(zzC.mp m).resolve_left λz=>e z.symm;refine⟨j+1,Nat.succ_lt_succ h1,⋯, ?_⟩;show(some _).bind _=_;rw[show(x==b)=false by simp[e]];rw[h2];rfl
def PV(r:List Int)(b:Int):Int:=(((Ll (λy=>Yj 50 y<|.int b)<|r.map D.int).getD 0:Nat):Int)
def OK{n:Nat}{r:List Int}{b:Int}(hl:r.length=n)(hb:b ∈ r):zR n (PV r b)/\vW r (PV r b)=b/\Ll (λy=>Yj 50 y<|.int b) (r.map D.int)=some (PV r b).toNat:=by
 obtain⟨j,j1,j2,j3⟩:=Nb hb;have e:PV r b=j:=by unfold PV;rw[j3];rfl
 rw[e];refine⟨⋯, ?_,j3⟩;unfold vW;rw[zyI,j2];rfl
def hU{as:AS}{r:List Int}{i j:Nat}{x:Int}(hl:r.length<=1000)(hx:x ∈ r)(hi:as[i]? = some (sT<|zj r))(hj:as[j]? = some (sI x)):WD (Tz .lst (fV i) (aC (fV j) aN) Mn) as true (.int<|PV r x):=by
 obtain⟨a1,a2,a3⟩:=OK rfl hx;refine Ie (za hi) rfl (ze (za hj) zo) ?_ rfl;show(Ll _ _).bind _=_;rw[a3];show(if(r.map D.int).length<=1000 then some _ else none)=_;rw[if_pos (by rwa [zzB]),show(((PV r x).toNat:Nat):Int)=PV r x by omega]
section
variable{n:Nat}{F:List Int}
def ZX(h:F.Perm (UV n)){x:Int}(hx:zR n x):zR n (PV F x)/\vW F (PV F x)=x:=
 have k:=OK (xM h).1.1 ((xM h).2 x hx.1 hx.2)
 ⟨k.1,k.2.1⟩
def Wl(h:F.Perm (UV n)){v:Int}(hv:zR n v):zR n (vW F v):=(rowAt (xM h).1 hv).2
def Pl(h:F.Perm (UV n)){a:Int}(ha:zR n a):PV F (vW F a)=a:=
 have k:=ZX h (Wl h ha)
 B_ h k.1 ha k.2
end
def pin:PZ->List Int->Prop
 | [],[]=>True
 |p::P,a::s=>zR p.2 a/\pin P s
 |_,_=>False
theorem Kz:∀{P:PZ},PK P->∀v,pin P<|sp P v
 | [],_,_=>trivial
 |p::P,h,v=>⟨X0 (by have:=(h p<|zzF ..).2.1;exact q0z this),Kz h.tail _⟩
theorem HV(f:Int->Nat->Int->Int->Int):∀{P:PZ}{s t:List Int},pin P s->pin P t->P.length=(z3 f P s t).length
 | [],[],[],_,_=>rfl
 |_::_,_::_,_::_,h,k=>congrArg _<|HV f h.2 k.2
 | [],_::_,_,h,_=>h.elim
 |_::_,[],_,h,_=>h.elim
 | [],[],_::_,_,h=>h.elim
 |_::_,_::_,[],_,h=>h.elim
theorem HL(f:Int->Nat->Int->Int):∀{P:PZ}{s:List Int},pin P s->P.length=(z2 f P s).length
 | [],[],_=>rfl
 |_::_,_::_,h=>congrArg _<|HL f h.2
 | [],_::_,h=>h.elim
 |_::_,[],h=>h.elim
abbrev jq:EF:=zd (aC zk<|aC zi vN) wI
theorem Ak:∀{P:PZ}{s t:List Int},PK P->pin P s->pin P t->xv Dr yK jq [none,none,none] (Y6 true (P.map pD) (s.map D.int)<|t.map D.int)=some ((z3 jK P s t).map ZZ)
 | [],[],[],_,_,_=>rfl
 |p::P,a::s,b::t,h,ha,hb=>QC rfl (Kv (ze (za rfl)<|ze (za rfl)<|ze (za rfl) zo)<|K3 (h p<|zzF ..).1 ha.1 hb.1)<|Ak h.tail ha.2 hb.2
 | [],_::_,_,_,h,_=>h.elim
 |_::_,[],_,_,h,_=>h.elim
 | [],[],_::_,_,_,h=>h.elim
 |_::_,_::_,[],_,_,h=>h.elim
abbrev ju:EF:=zd (aC zk<|aC zv<|aC zz yy) xr
theorem Az{x c:Int}{m:Nat}(hc:zR m c)(m6:m<=6):∀{P:PZ}{s:List Int},PK P->pin P s->xv (gT 2<|yQ xF<|yQ (gN 1) Yu) yK ju [none,none,sI x,sI c] (Qt true (P.map pD)<|s.map D.int)=some ((z2 (λk n a=>dK k n x c a) P s).map ZZ)
 | [],[],_,_=>rfl
 |p::P,a::s,h,ha=>QC rfl (Kv (ze (za rfl)<|ze (za rfl)<|ze (za rfl)<|ze (za rfl) zo)<|Kr (h p<|zzF ..) hc m6 ha.1)<|Az hc m6 h.tail ha.2
 | [],_::_,_,h=>h.elim
 |_::_,[],_,h=>h.elim
def Jo{P:PZ}{u v:Int}(h:PK P)(l2:P.length<=2):WD (zd (aC zi<|aC (zX (E1<|aC zi<|aC zv wY) [none,none,none] Dr yK jq) aN) xq) [sT<|zj<|sp P v,sT<|Yt P,sT<|zj<|sp P u] true (.int<|jX P u v):=by
 have p1:=Kz h u;have p2:=Kz h v;have it:E1 (aC zi<|aC zv wY) [sT<|zj<|sp P v,sT<|Yt P,sT<|zj<|sp P u]=some (Y6 true (P.map pD) ((sp P u).map D.int)<|(sp P v).map D.int,[sT<|zj<|sp P v,sT<|Yt P,sT<|zj<|sp P u]):=by
  show(if(P.map pD).length=((sp P u).map D.int).length/\((sp P u).map D.int).length=((sp P v).map D.int).length then _ else _)=_;rw[if_pos<|by simp only[zzB,KY,and_self]];rfl
 have wc:=VW (cap:=[none,none,none]) it (by rw[Qy _ _ _ _ (by simp only[zzB,KY]) (by simp only[zzB,KY]),zzB];exact B5 ⋯)<|Ak h p1 p2;have:=Mj (WD.e ⋯) (Qp wc)<|Kk h<|HV jK p1 p2
 rwa [AB]at this
def rX{P:PZ}{x c v:Int}{m:Nat}(h:PK P)(l2:P.length<=2)(hc:zR m c)(m6:m<=6):WD (zd (aC zi<|aC (zX (Y_<|aC zi wY) [none,none,some 2,some 3] (gT 2<|yQ xF<|yQ (gN 1) Yu) yK ju) aN) xq) [sT<|zj<|sp P v,sT<|Yt P,sI x,sI c] true (.int<|dX P x c v):=by
 have p1:=Kz h v;have it:Y_ (aC zi wY) [sT<|zj<|sp P v,sT<|Yt P,sI x,sI c]=some _:=rfl;have wc:=VW (cap:=[none,none,some 2,some 3]) it (by rw[V_,zzB];exact B5 ⋯)<|Az hc m6 h p1;have:=Mj (WD.e ⋯) (Qp wc)<|Kk h<|HL _ p1
 rwa [Aw]at this
def OE{n:Nat}{g:GF}{f:SF}{S:List O->Option O->AS}{it:Nat->xi}{v:Nat->O}{w:Nat->Option O}(hn:n<=900)(H:∀i,i<n->∀os e,os.length<900->g (it i) (S os e)=some (S os<|w i)/\f (S os<|w i)=some (.nx<|S (os++[v i])<|w i))(e0:Option O):∃e',forL g f ((List.range n).map it) (S [] e0)=some (.nx<|S ((List.range n).map v) e'):=by
 obtain⟨as',hf,e',rfl⟩:=yW (λi as=>∃e,as=S ((List.range i).map v) e) _ 0 _ (λi x as hx hI=>by
  obtain⟨e,rfl⟩:=hI;rw[zyX];have hi:i<n:=by
   have:=(zzG.mp hx).1
   rwa [zzB,zyU]at this
  rw[zzI,List.getElem?_range hi]at hx;cases hx;obtain⟨h1,h2⟩:=H i hi ((List.range i).map v) e (by rw[zzB,zyU];omega);exact⟨_,h1,_,h2,w i,by rw[List.range_succ,zyM];rfl⟩) ⟨e0,rfl⟩
 rw[zzB,zyU,zyX]at hf;exact⟨e',hf⟩
def AH{as:AS}{i:Nat}{s:Bool}{r:List Int}(h:as[i]? = some (some<|.lf s<|zj r)):xX (fV i) as=some (r.map λx=>(true,D.int x),as):=by
 refine IL (za h) ?_;show some _=_;unfold kids;rw[zyB];rfl
def oW{as:AS}{i:Nat}{T:TZ}(h:as[i]? = some (some<|Mg T)):xX (fV i) as=some (T.map λr=>(false,zj r),as):=by
 unfold xX;rw[Nh h];show((match as[i]? with|some (some<|.nd .ls os)=>some _|some (some<|.nd .tp os)=>some _|_=>none:Option _).bind λl=>some _)=_;rw[h];show some _=_;unfold RP;rw[zyB]
 congr 2
 refine List.map_congr_left λr _=>?_;show(false,(xl r).toD)=_;rw[(Xe r).2]
section
variable{n m:Nat}{F:List Int}{P:PZ}
def jk{as:AS}{i:Nat}{T:TZ}(hF:Row n F)(hi:as[i]? = some (some<|Mg T))(hc:∀d:xi,gN 0 d (Zv [none,some 5] as)=some [some<|.lf d.1 d.2,sT<|zj F])(hl:T.length<=900)(hr:∀r ∈ T,r.length<=900/\∀x ∈ r,zR n x):∃os,zX (xX<|fV i) [none,some 5] xF yK Bg as=some (.ow<|.nd .ls os,as)/\O.strs os=true/\O.toDs os=(T.map λr=>r.map<|vW F).map zj:=by
 obtain⟨os,h1,h2,h3⟩:=Ox T (oW hi) ⋯ λr mr=>by
  refine⟨_,hc _, ?_⟩;have wi:=GD (as:=[some<|.lf false _,sT _]) (cap:=[none,some 1]) (gg:=gN 0) r (AH (i:=0) rfl) (by have:=(hr r mr).1;exact q0b this) λx mx=>⟨_,rfl,zY (za (i:=1) rfl) (za (i:=0) rfl) (rowAt hF<|(hr r mr).2 x mx).1 rfl⟩;exact Qp wi
 exact⟨os,h1,h2,by rw[h3,zyB];rfl⟩
def Il(P:PZ)(F:List Int)(n a:Nat):List Int:=(List.range n).map λb:Nat=>jX P (PV F a)<|PV F b
def GP(P:PZ)(F:List Int)(n:Nat):TZ:=((List.range n).map<|Il P F n).map λr=>r.map<|vW F
def MU(P:PZ)(F:List Int)(n:Nat)(x:Int)(c:Nat):List Int:=(List.range n).map λa:Nat=>dX P x c<|PV F a
def DU(P:PZ)(F:List Int)(n m:Nat)(x:Int):TZ:=((List.range m).map<|MU P F n x).map λr=>r.map<|vW F
def Ca{g:Nat->Int}{v:Int}(hv:zR n v):vW ((List.range n).map g) v=g v.toNat:=by
 unfold vW;rw[zzI,List.getElem?_range ⋯];rfl
def S8{k:Nat}{g:Nat->Nat->Int}{u v:Int}(hu:zR k u)(hv:zR n v):yJ (((List.range k).map λa=>(List.range n).map<|g a).map λr=>r.map<|vW F) u v=vW F (g u.toNat v.toNat):=by
 unfold yJ;rw[zzI,zzI,List.getElem?_range ⋯];show vW (((List.range n).map _).map _) v=_;rw[zyB,Ca hv];rfl
def Fb{k:Nat}{g:Nat->Nat->Int}(hF:Row n F)(hg:∀a b,a<k->b<n->zR n (g a b)):Tab k n (((List.range k).map λa=>(List.range n).map<|g a).map λr=>r.map<|vW F):=by
 refine⟨by rw[zzB,zzB,zyU],λr mr=>?_⟩;obtain⟨q,mq,rfl⟩:=zxB.mp mr;obtain⟨a,ma,rfl⟩:=zxB.mp mq;refine⟨by rw[zzB,zzB,zyU],λx mx=>?_⟩;obtain⟨y,my,rfl⟩:=zxB.mp mx;obtain⟨b,mb,rfl⟩:=zxB.mp my;exact(rowAt hF<|hg a b (List.mem_range.mp ma)<|List.mem_range.mp mb).2
def Mb{i:Nat}(h:i<n):zR n (i:Int):=⋯
def A2(hP:PK P)(hn:n=PN P)(hF:F.Perm (UV n)){a b:Nat}(ha:a<n)(hb:b<n):zR n (jX P (PV F a)<|PV F b):=by
 have:=(sU hP).cl;rw[<-hn]at this;exact this _ _ (ZX hF<|Mb ha).1 (ZX hF<|Mb hb).1
def A5{x:Int}(hP:PK P)(hn:n=PN P)(m1:1<=m)(hm:∀p ∈ P,p.1=0->m=p.2)(hF:F.Perm (UV n)){c a:Nat}(hc:c<m)(ha:a<n):zR n (dX P x c<|PV F a):=by
 have:=(lG (x:=x) m1 hP hm).cl;rw[<-hn]at this;exact this _ _ (Mb hc) (ZX hF<|Mb ha).1
def ER(hP:PK P)(hn:n=PN P)(hF:F.Perm (UV n)):Tab n n (GP P F n)/\LJ n (yJ<|GP P F n) (vW F<|eX P)/\∀a b,zR n a->zR n b->yJ (GP P F n) (vW F a) (vW F b)=vW F (jX P a b):=by
 have q:∀a b,zR n a->zR n b->yJ (GP P F n) _ _=vW F _:=λa b ha hb=>by
  have ia:=Wl hF ha;have ib:=Wl hF hb;refine(S8 ia ib).trans ?_;rw[show(((vW F a).toNat:Nat):Int)=vW F a by omega,show(((vW F b).toNat:Nat):Int)=vW F b by omega,Pl hF ha,Pl hF hb]
 have hL:=sU hP;rw[<-hn]at hL;exact⟨Fb (xM hF).1 λa b ha hb=>A2 hP hn hF ha hb,gi hL (λa ha=>Wl hF ha) (λa ha=>(ZX hF ha).1) (λa ha=>(ZX hF ha).2) q,q⟩
def Iv{x:Int}(hP:PK P)(hn:n=PN P)(m1:1<=m)(hm:∀p ∈ P,p.1=0->m=p.2)(hF:F.Perm (UV n)):Tab m n (DU P F n m x)/\LD n m (yJ<|GP P F n) (vW F<|eX P) (yJ<|DU P F n m x):=by
 have hL:=sU hP;have hD:=lG (x:=x) m1 hP hm;rw[<-hn]at hL hD;refine⟨Fb (xM hF).1 λc a hc ha=>A5 hP hn m1 hm hF hc ha,gE ⋯ hL hD (λa ha=>Wl hF ha) (λa ha=>(ZX hF ha).1) (λa ha=>(ZX hF ha).2) (ER hP hn hF).2.2 λc a hc ha=>?_⟩;have ia:=Wl hF ha;refine(S8 hc ia).trans ?_;rw[show(((vW F a).toNat:Nat):Int)=vW F a by omega,show c.toNat=c by omega,Pl hF ha]
end
abbrev jY:SF:=qU
abbrev jy:SF:=r_
abbrev jw:SF:=nJ
abbrev ie:SF:=nQ
abbrev jv:SF:=rO
abbrev jj:SF:=qu
abbrev jR:SF:=(zm false 7<|zZ dN)
abbrev ir:SF:=(yx (Yi xm) (gN 8) kZ)
abbrev gj:SF:=(zm false 7<|zX (xX Qa) [none,some 5] xF yK Bg)
abbrev vD(P:PZ)(F:List Int)(n:Nat):D:=.lst ((List.range n).map λa:Nat=>zj<|sp P<|PV F a)
abbrev A7(ns:List Int)(P:PZ)(n m:Nat)(F:List Int)(l:AS):AS:=sT (zj ns)::sI 0::sT (Yt P)::sI n::sI m::sT (zj F)::sT (vD P F n)::l
structure Hd(P:PZ)(n m:Nat)(F:List Int):Prop where
 p:Pt P
 nn:n=PN P
 m1:1<=m
 m6:m<=6
 z:∀p ∈ P,p.1=0->m=p.2
 f:F.Perm (UV n)
def qp{as:AS}{P:PZ}(h:as[2]? = some (sT<|Yt P)):xX zv as=some (P.map λp=>(true,pD p),as):=Y9 ⋯
def AZ{as:AS}{P:PZ}{fe:EF}{f:Int×Nat->Int}(hP:Pt P)(h:as[2]? = some (sT<|Yt P))(hf:∀p:Int×Nat,WD fe [sI p.1,sI p.2] true<|.int<|f p):WD (zd (aC zv<|aC (zX (xX zv) [none,none] (gT 2<|yQ xF<|yQ (gN 1) Yu) yK fe) aN) xq) as true (.int<|ld P<|P.map f):=
 Mj ⋯ (Qp<|GD P (qp h) (by have:=hP.l2;omega) λp _=>⟨[sI p.1,sI p.2],rfl,hf p⟩) (Kk hP.k (zzB ..).symm)
def JJ(ns:List Int):∃P n m F,Hd P n m F/\∀(g:SF) (d:D),Rt (g<|A7 ns P n m F [none,none,none,none,none,none,none,none,none,none]) d->Rt (zh jY (zh jy<|zh jw<|zh ie<|zh jv<|zh jj g) [sT<|zj ns,sI 0,none,none,none,none,none,none,none,none,none,none,none,none,none,none,none]) d:=by
 obtain⟨x0,hx0,w0⟩:=WH ns (k:=0) (by omega);obtain⟨x1,hx1,w1⟩:=WH ns (k:=1) (by omega);obtain⟨P,hP,rP⟩:=F2 x0;have nN:=jA P;have n8:=hP.n8;have n1:=MX hP.k;obtain⟨F,hF,rF⟩:=Ho (x:=x1) n8;have s1:jY [sT<|zj ns,sI 0,none,none,none,none,none,none,none,none,none,none,none,none,none,none,none]=some (.nx _):=y2 (p:=2) (y8 (WD.e<|w0 _ _ rfl<|za (i:=1) rfl) rP)<|zg rfl;have s2:jy [sT<|zj ns,sI 0,sT<|Yt P,none,none,none,none,none,none,none,none,none,none,none,none,none,none]=some (.nx [sT<|zj ns,sI 0,sT<|Yt P,sI<|PN P,none,none,none,none,none,none,none,none,none,none,none,none,none]):=by
  have w:=zM (AZ (as:=[sT<|zj ns,sI 0,sT<|Yt P,none,none,none,none,none,none,none,none,none,none,none,none,none,none]) (fe:=f2 zi zA yp) (f:=λp=>(p.2:Int)-1) hP rfl λp=>x5 (za (i:=1) rfl) zb)<|zb (x:=.int 1);rw[nN]at w;exact zD (i:=3) w<|zg rfl
 have q0:=zyN (x0/16) (show(4:Int)≠0 by decide);obtain⟨m0,em⟩:∃k:Nat,(k:Int)=1+x0/16%4:=⟨(1+x0/16%4).toNat,by omega⟩;have s3:jw [sT<|zj ns,sI 0,sT<|Yt P,sI<|PN P,none,none,none,none,none,none,none,none,none,none,none,none,none]=some (.nx [sT<|zj ns,sI 0,sT<|Yt P,sI<|PN P,sI m0,none,none,none,none,none,none,none,none,none,none,none,none]):=by
  have w:=zM (zb (x:=.int 1)) (ya (we (w0 [sT<|zj ns,sI 0,sT<|Yt P,sI<|PN P,none,none,none,none,none,none,none,none,none,none,none,none,none] zi rfl<|za (i:=1) rfl) (zb (x:=.int 16)) (by decide)<|zG (by decide)<|by decide) (zb (x:=.int 4))<|by decide);rw[<-em]at w;exact zD (i:=4) w<|zg rfl
 obtain⟨m,m1,m6,mz,s4⟩:∃m:Nat,1<=m/\m<=6/\(∀p ∈ P,p.1=0->m=p.2)/\ie [sT<|zj ns,sI 0,sT<|Yt P,sI<|PN P,sI m0,none,none,none,none,none,none,none,none,none,none,none,none]=some (.nx [sT<|zj ns,sI 0,sT<|Yt P,sI<|PN P,sI m,none,none,none,none,none,none,none,none,none,none,none,none]):=by
  obtain _|⟨p,Q⟩:=P
  . exact absurd rfl hP.ne
  have wp:WD (f2 zv zT zx) [sT<|zj ns,sI 0,sT<|Yt (p::Q),sI<|PN (p::Q),sI m0,none,none,none,none,none,none,none,none,none,none,none,none] true (pD p):=Xq (za (i:=2) (x:=Yt (p::Q)) rfl) (zb (x:=.int ((0:Nat):Int)))<|Zy (f:=pD) (l:=p::Q) (i:=0) rfl;have tl:=hP.tl
  by_cases hz:p.1=0
  . have k:=hP.z6 p (zzF ..) hz;have k2:=hP.k p<|zzF ..;refine⟨p.2,by omega,k,λq mq e=>?_,xf (eqT (zY wp zb rfl rfl) zb<|by rw[hz];rfl)<|zD (i:=4) (zY wp zb rfl rfl)<|zg rfl⟩
    rcases zzC.mp mq with rfl|mq
    . rfl
    . exact absurd e<|tl q mq
  . refine⟨m0,by omega,by omega,λq mq e=>?_,zu (eqT (zY wp zb rfl rfl) zb<|beq_eq_false_iff_ne.mpr hz) rfl⟩
    rcases zzC.mp mq with rfl|mq
    . exact absurd e hz
    . exact absurd e<|tl q mq
 have s5:jv [sT<|zj ns,sI 0,sT<|Yt P,sI<|PN P,sI m,none,none,none,none,none,none,none,none,none,none,none,none]=some (.nx _):=y2 (p:=5) (yM (WD.e<|w1 _ _ rfl<|zM (za (i:=1) (x:=.int 0) (s:=true) rfl)<|zb (x:=.int 1)) (WD.e<|za (i:=3) rfl) rF)<|zg rfl;have s6:jj [sT<|zj ns,sI 0,sT<|Yt P,sI<|PN P,sI m,sT<|zj F,none,none,none,none,none,none,none,none,none,none,none]=some (.nx<|A7 ns P (PN P) m F [none,none,none,none,none,none,none,none,none,none]):=by
  obtain⟨os,o1,o2,o3⟩:=Ox (cap:=[none,some 2,some 5]) (gg:=gN 0) (List.range<|PN P) (CY (as:=[sT<|zj ns,sI 0,sT<|Yt P,sI<|PN P,sI m,sT<|zj F,none,none,none,none,none,none,none,none,none,none,none]) (ze (za (i:=3) rfl) zo)<|(q0A n1 n8)) (by rw[zyU];exact q0A n1 n8) λa ma=>by
   have ha:=List.mem_range.mp ma;rw[Int.zero_add];refine⟨[sI a,sT<|Yt P,sT<|zj F],rfl,yM (WD.e<|za (i:=1) rfl) (WD.e<|hU (i:=2) (j:=0) (by have:=(xM hF).1.1;omega) ((xM hF).2 a (q0a)<|(q0j ha)) rfl rfl) ⟨_,Oe hP.k (by have:=hP.l2;omega),Xe _⟩⟩
  exact y2 (p:=6) ⟨_,o1,o2,congrArg D.lst o3⟩<|zg rfl
 exact⟨P,PN P,m,F,⟨hP,rfl,m1,m6,mz,hF⟩,λg d h=>zc s1<|zc s2<|zc s3<|zc s4<|zc s5<|zc s6 h⟩
abbrev rf:SF:=(zm false 9<|zZ dN)
abbrev qM:SF:=nS
abbrev mM:SF:=pA
abbrev ql:SF:=(zm false 15<|zZ dN)
abbrev mL:SF:=rD
abbrev kY:SF:=qW
section
variable{ns F:List Int}{P:PZ}{n m:Nat}
def CJ(h:Hd P n m F):∃os b,O.strs os=true/\O.toDs os=(GP P F n).map zj/\∀(g:SF) (d:D),Rt (g<|A7 ns P n m F [sN os,b,none,none,none,none,none,none,none,none]) d->Rt (zh jR (zh ir<|zh gj g)<|A7 ns P n m F [none,none,none,none,none,none,none,none,none,none]) d:=by
 have n8:=h.p.n8;rw[<-h.nn]at n8;have l2:=h.p.l2;have s7:jR (A7 ns P n m F [none,none,none,none,none,none,none,none,none,none])=some _:=w9 ⋯ (zg rfl);obtain⟨b,hb⟩:=OE (n:=n) (g:=gN 8) (f:=kZ) (S:=λos e=>A7 ns P n m F [sN os,e,none,none,none,none,none,none,none,none]) (it:=λa=>(true,zj<|sp P<|PV F a)) (q0g n8) (λa ha os e hl=>⟨rfl,Vh rfl (GD _ (Y9<|WD.e ⋯) (by rw[zyU];exact q0n n8) λb mb=>⟨[sT _,sT<|Yt P,sT _],rfl,Jo h.p.k l2⟩) rfl<|slt<|(q0B hl)⟩) none;have s8:ir (A7 ns P n m F [sN [],none,none,none,none,none,none,none,none,none])=some (.nx<|A7 ns P n m F [some<|Mg<|(List.range n).map<|Il P F n,b,none,none,none,none,none,none,none,none]):=by
  refine yn (EK<|za rfl) ?_;rw[zyB];refine hb.trans ?_;show _=some (Out.nx<|A7 ns P n m F [sN _,b,none,none,none,none,none,none,none,none]);rw[zyB];rfl
 have hR:=(xM h.f).1;obtain⟨os,o1,o2,o3⟩:=jk (i:=7) (as:=A7 ns P n m F [some<|Mg<|(List.range n).map<|Il P F n,b,none,none,none,none,none,none,none,none]) hR rfl (λd=>rfl) (by rw[zzB,zyU];exact q0g n8) (λr mr=>by
  obtain⟨a,ma,rfl⟩:=zxB.mp mr;have ha:=List.mem_range.mp ma;refine⟨by unfold Il;rw[zzB,zyU];exact q0g n8,λx mx=>?_⟩;obtain⟨b,mb,rfl⟩:=zxB.mp mx;exact A2 h.p.k h.nn h.f ha<|List.mem_range.mp mb)
 exact⟨os,b,o2,o3,λg d hg=>zc s7<|zc s8<|zc (w9 o1<|zg rfl) hg⟩
abbrev A6(P:PZ)(n m:Nat)(F:List Int)(p:Str×TZ):Prop:=Tab m n p.2/\LD n m (yJ<|GP P F n) (vW F<|eX P) (yJ p.2)
abbrev Ve(ns:List Int)(P:PZ)(n m:Nat)(F:List Int)(o7:List O)(ss:List Str)(o9:List O)(b8 b11 b12 b13 b14 b15:Option O):AS:=A7 ns P n m F [sN o7,b8,sN o9,sT<|.lst<|ss.map D.str,b11,b12,b13,b14,b15,none]
def HJ{o7:List O}{b:Option O}(h:Hd P n m F):∃ss o9 Ds b8 b11 b12 b13 b14,ss.length=7/\ss.Nodup/\Ows XJ (A6 P n m F) o9 Ds/\1<=Ds.length/\Ds.length<=4/\Ds.map (·.1)=(List.range Ds.length).map (λj=>(ss[j]?).getD ("":Str))/\∀(g:SF) (d:D),Rt (g<|Ve ns P n m F o7 ss o9 b8 b11 b12 b13 b14 none) d->Rt (zh rf (zh qM<|zh mM g)<|A7 ns P n m F [sN o7,b,none,none,none,none,none,none,none,none]) d:=by
 have n8:=h.p.n8;rw[<-h.nn]at n8;have l2:=h.p.l2;have m6:=h.m6;have hR:=(xM h.f).1;obtain⟨x2,_,w2⟩:=WH ns (k:=2) (by omega);obtain⟨x3,_,w3⟩:=WH ns (k:=3) (by omega);obtain⟨ss,sl,sn,rs⟩:=Lu x2 (mn:=7) (by omega);have sg:∀i,i<7->ss[i]? = some ((ss[i]?).getD ("":Str)):=λi hi=>by rw[zzE<|(q1z hi sl)];rfl
 have s10:rf (A7 ns P n m F [sN o7,b,none,none,none,none,none,none,none,none])=some (.nx<|A7 ns P n m F [sN o7,b,sN [],none,none,none,none,none,none,none]):=w9 (i:=9) (YQ yG<|W6 rfl)<|zg rfl;have s11:qM (A7 ns P n m F [sN o7,b,sN [],none,none,none,none,none,none,none])=some (.nx<|Ve ns P n m F o7 ss [] b none none none none none):=y2 (p:=10) (yM (WD.e<|w2 _ _ rfl<|zM (za (i:=1) (x:=.int 0) (s:=true) rfl)<|zb (x:=.int 2)) (WD.e<|zb (x:=.int 7)) rs)<|zg rfl;have q0:=zyN x3 (show(4:Int)≠0 by decide);have q1:=zyH x3 (show(0:Int)<4 by decide);obtain⟨k,ek⟩:∃k:Nat,(k:Int)=1+x3%4:=⟨(1+x3%4).toNat,by omega⟩;obtain⟨as',hl,o9,Ds,b11,b12,b13,b14,rfl,hO,hN,hK⟩:=yW (g:=gN 11) (f:=jx)
  (λi as=>∃(o9:List O) (Ds:DD) (b11 b12 b13 b14:Option O),as=Ve ns P n m F o7 ss o9 b b11 b12 b13 b14 none/\Ows XJ (A6 P n m F) o9 Ds/\Ds.map (·.1)=(List.range i).map (λj=>(ss[j]?).getD ("":Str))/\Ds.length=i) (yR 0 k) 0 (Ve ns P n m F o7 ss [] b none none none none none) (λi y as hy hI=>by
   obtain⟨o9,Ds,b11,b12,b13,b14,rfl,hO,hN,hK⟩:=hI;obtain⟨rfl,hi⟩:=y_ hy;rw[zyX]at hN hK ⊢;rw[Int.zero_add];obtain⟨x,_,wx⟩:=WH ns (k:=4+i) (by omega);have t1:zm true 12 nr (Ve ns P n m F o7 ss o9 b (sI i) b12 b13 b14 none)=some (.nx<|Ve ns P n m F o7 ss o9 b (sI i) (sI x) b13 b14 none):=by
    have w:=zM (zM (za (as:=Ve ns P n m F o7 ss o9 b (sI i) b12 b13 b14 none) (i:=1) (x:=.int 0) (s:=true) rfl)<|zb (x:=.int 4))<|za (i:=11) (x:=.int i) (s:=true) rfl;rw[show(0:Int)+4+(i:Int)=((4+i:Nat):Int) by omega]at w;exact zD (i:=12) (wx _ _ rfl w)<|zg rfl
   have t2:zm false 13 (zZ dN) (Ve ns P n m F o7 ss o9 b (sI i) (sI x) b13 b14 none)=some (.nx<|Ve ns P n m F o7 ss o9 b (sI i) (sI x) (sN []) b14 none):=w9 (i:=13) (YQ yG<|W6 rfl)<|zg rfl;obtain⟨e,he⟩:=OE (n:=m) (g:=gN 14) (f:=ky) (S:=λos e=>Ve ns P n m F o7 ss o9 b (sI i) (sI x) (sN os) e none) (it:=λc:Nat=>(true,D.int<|0+(c:Int))) (v:=λc=>xl<|MU P F n x c) (w:=λc=>sI c) (q0C m6) (λc hc os e hl=>by
    rw[Int.zero_add];exact⟨rfl,Vh (os:=os) (i:=13) rfl (GD (h:=λa:Nat=>dX P x c<|PV F a) (it:=λa:Nat=>(true,zj<|sp P<|PV F a)) (List.range n) (Y9<|WD.e<|za (i:=6) rfl) (by rw[zyU];exact q0n n8) λa ma=>⟨[sT<|zj<|sp P<|PV F a,sT<|Yt P,sI x,sI c],rfl,rX h.p.k l2 (Mb hc) m6⟩) rfl<|slt<|(q0B hl)⟩) b14
   have t3:yx (yu (aC zP aN) yH) (gN 14) ky (Ve ns P n m F o7 ss o9 b (sI i) (sI x) (sN []) b14 none)=some (.nx<|Ve ns P n m F o7 ss o9 b (sI i) (sI x) (some<|Mg<|(List.range m).map<|MU P F n x) e none):=by
    refine yn (CY (ze (za (i:=4) rfl) zo)<|(q0E m6))<|he.trans ?_;show _=some (Out.nx<|Ve ns P n m F o7 ss o9 b (sI i) (sI x) (sN<|((List.range m).map<|MU P F n x).map xl) e none);rw[zyB];rfl
   obtain⟨os,o1,o2,o3⟩:=jk (n:=n) (F:=F) (i:=13) (as:=Ve ns P n m F o7 ss o9 b (sI i) (sI x) (some<|Mg<|(List.range m).map<|MU P F n x) e none) hR rfl (λd=>rfl) (by rw[zzB,zyU];exact q0C m6) (λr mr=>by
    obtain⟨c,mc,rfl⟩:=zxB.mp mr;have hc:=List.mem_range.mp mc;refine⟨by unfold MU;rw[zzB,zyU];exact q0g n8,λy my=>?_⟩;obtain⟨a,ma,rfl⟩:=zxB.mp my;exact A5 h.p.k h.nn h.m1 h.z h.f hc<|List.mem_range.mp ma)
   have wt:WE qC (Ve ns P n m F o7 ss o9 b (sI i) (sI x) (some<|Mg<|(List.range m).map<|MU P F n x) e none) (XJ ((ss[i]?).getD ("":Str),DU P F n m x)):=yw (WD.e<|zY (za (i:=10) (x:=.lst<|ss.map D.str) (s:=true) rfl) (za (i:=11) (x:=.int i) (s:=true) rfl) (Zy<|sg i<|by omega) rfl) ⟨_,o1,o2,congrArg D.lst o3⟩;obtain⟨os',p1,p2⟩:=SI (i:=9) (os:=o9) (l:=Ds) rfl hO (by omega) wt<|Iv h.p.k h.nn h.m1 h.z h.f;exact⟨_,rfl,_,zt t1<|zt t2<|zt t3 p2,os',_,_,_,_,_,rfl,p1,by rw[zyM,hN,List.range_succ,zyM];rfl,by rw[zzJ,hK];rfl⟩)
  ⟨[],[],none,none,none,none,rfl,Ows.nil,rfl,rfl⟩
 rw[yU,zyX]at hN hK;have hr:=y6 (as:=Ve ns P n m F o7 ss [] b none none none none none) (ze (zM (zb (x:=.int 1))<|ya (w3 _ _ rfl<|zM (za (i:=1) (x:=.int 0) (s:=true) rfl)<|zb (x:=.int 3)) (zb (x:=.int 4))<|by decide) zo) (by omega) (by omega);rw[<-ek,zyI]at hr;exact⟨ss,o9,Ds,b,b11,b12,b13,b14,sl,sn,hO,by omega,by omega,by rw[hK];exact hN,λg d hg=>zc s10<|zc s11<|zc (yn hr hl) hg⟩
end
section
variable{ns F:List Int}{P:PZ}{n m:Nat}
def h_:∀i:Nat,i<8->∃k:Int,0<k/\k<1000/\zx (zj [1,2,4,8,16,32,64,128]) (.int (i:Int))=some (.im<|.int k)
 |0,_=>⟨1,by decide,by decide,rfl⟩
 |1,_=>⟨2,by decide,by decide,rfl⟩
 |2,_=>⟨4,by decide,by decide,rfl⟩
 |3,_=>⟨8,by decide,by decide,rfl⟩
 |4,_=>⟨16,by decide,by decide,rfl⟩
 |5,_=>⟨32,by decide,by decide,rfl⟩
 |6,_=>⟨64,by decide,by decide,rfl⟩
 |7,_=>⟨128,by decide,by decide,rfl⟩
 |i+8,h=>absurd h ⋯
def l8{as:AS}{a b c d e f g h:Int}:WE (zZ<|dC (fC<|.int a)<|dC (fC<|.int b)<|dC (fC<|.int c)<|dC (fC<|.int d)<|dC (fC<|.int e)<|dC (fC<|.int f)<|dC (fC<|.int g)<|dC (fC<|.int h) dN) as (zj [a,b,c,d,e,f,g,h]):=xB ⋯ (W6 rfl) rfl rfl
def FL{as:AS}{fi:IF}{cap:List (Option Nat)}{gg:GF}{tt:TF}{fe:EF}{it:Nat->xi}(l:List Nat)(h1:fi as=some (l.map it,as))(hl:l.length<=1000000)(H:∀q ∈ l,∃as1 t,gg (it q) (Zv cap as)=some as1/\WT tt as1 t/\WE fe as1 (.int q)):∃r:List Int,WE (zX fi cap gg tt fe) as (zj r):=by
 have:∃p:Nat->Bool,∀q ∈ l,∃as1,gg (it q) (Zv cap as)=some as1/\WT tt as1 (p q)/\WE fe as1 (.int q):=by
  refine⟨λq=>((gg (it q)<|Zv cap as).bind tt).elim false (·.1),λq mq=>?_⟩;obtain⟨as1,t,h1,h2,h3⟩:=H q mq;refine⟨as1,h1, ?_,h3⟩;show WT tt as1 (((gg _ _).bind tt).elim false _);rw[h1];show _=some ((tt as1).elim false _,as1);rw[h2];rfl
 obtain⟨p,hp⟩:=this;have w:=Ek l h1 hl λq mq=>by
  obtain⟨as1,h1,h2,h3⟩:=hp q mq;exact⟨as1,h1,h2,λ_=>h3⟩
 refine⟨(l.filter p).map λq:Nat=>q, ?_⟩;show WE _ _ (D.lst _)
 rwa [zyB]
def Of{o7 o9:List O}{ss:List Str}{b8 b11 b12 b13 b14:Option O}(h:Hd P n m F)(sl:ss.length=7):∃o15 S c11 c12,Ows Ud (λ_=>True) o15 S/\1<=S.length/\S.length<=3/\S.map (·.1)=(List.range S.length).map (λj=>(ss[4+j]?).getD ("":Str))/\∀(g:SF) (d:D),Rt (g<|Ve ns P n m F o7 ss o9 b8 c11 c12 b13 b14<|sN o15) d->Rt (zh ql (zh mL g)<|Ve ns P n m F o7 ss o9 b8 b11 b12 b13 b14 none) d:=by
 have n8:=h.p.n8;rw[<-h.nn]at n8;obtain⟨x3,_,w3⟩:=WH ns (k:=8) (by omega);have sg:∀i,i<7->ss[i]? = some ((ss[i]?).getD ("":Str)):=λi hi=>by rw[zzE<|(q1z hi sl)];rfl
 have s13:ql (Ve ns P n m F o7 ss o9 b8 b11 b12 b13 b14 none)=some (.nx<|Ve ns P n m F o7 ss o9 b8 b11 b12 b13 b14<|sN []):=w9 (i:=15) (YQ yG<|W6 rfl)<|zg rfl;have q0:=zyN x3 (show(3:Int)≠0 by decide);obtain⟨k,ek⟩:∃k:Nat,(k:Int)=1+x3%3:=⟨(1+x3%3).toNat,by omega⟩;obtain⟨as',hl,o15,S,c11,c12,rfl,hO,hN,hK⟩:=yW (g:=gN 11) (f:=jN)
  (λi as=>∃(o15:List O) (S:SS) (b11 b12:Option O),as=Ve ns P n m F o7 ss o9 b8 b11 b12 b13 b14 (sN o15)/\Ows Ud (λ_=>True) o15 S/\S.map (·.1)=(List.range i).map (λj=>(ss[4+j]?).getD ("":Str))/\S.length=i) (yR 0 k) 0 (Ve ns P n m F o7 ss o9 b8 b11 b12 b13 b14<|sN []) (λi y as hy hI=>by
   obtain⟨o15,S,b11,b12,rfl,hO,hN,hK⟩:=hI;obtain⟨rfl,hi⟩:=y_ hy;rw[zyX]at hN hK ⊢;rw[Int.zero_add];obtain⟨x,_,wx⟩:=WH ns (k:=9+i) (by omega);have t1:zm true 12 nB (Ve ns P n m F o7 ss o9 b8 (sI i) b12 b13 b14<|sN o15)=some (.nx<|Ve ns P n m F o7 ss o9 b8 (sI i) (sI<|x/7) b13 b14<|sN o15):=by
    have w:=zM (zM (za (as:=Ve ns P n m F o7 ss o9 b8 (sI i) b12 b13 b14<|sN o15) (i:=1) (x:=.int 0) (s:=true) rfl)<|zb (x:=.int 9))<|za (i:=11) (x:=.int i) (s:=true) rfl;exact zD (i:=12) (we (wx _ _ rfl w) (zb (x:=.int 7)) (by decide)<|zG (by decide)<|by decide)<|zg rfl
   obtain⟨r,wr⟩:=FL (as:=Ve ns P n m F o7 ss o9 b8 (sI i) (sI<|x/7) b13 b14<|sN o15) (cap:=[none,some 12]) (gg:=gN 0) (tt:=ri) (fe:=fV 0) (List.range n) (CY (ze (za (i:=3) rfl) zo)<|(q0n n8)) (by rw[zyU];exact q1J n8) λq mq=>by
    have hq:=List.mem_range.mp mq;rw[Int.zero_add];obtain⟨z,z0,z1,ez⟩:=h_ q (by omega);exact⟨[sI q,sI<|x/7],_,rfl,eqT (ya (we (za (i:=1) rfl) (Fj l8 (WD.e<|za (i:=0) (x:=.int q) rfl) ez) z0<|zG (by omega)<|by omega) zb<|by decide) zb rfl,WD.e<|za (i:=0) rfl⟩
   have wn:WD (f2 (fV 10) (f2 YK Pc zp) zx) (Ve ns P n m F o7 ss o9 b8 (sI i) (sI<|x/7) b13 b14<|sN o15) true (.str<|(ss[4+i]?).getD ("":Str)):=by
    have w:=zM (zb (x:=.int 4))<|za (as:=Ve ns P n m F o7 ss o9 b8 (sI i) (sI<|x/7) b13 b14<|sN o15) (i:=11) (x:=.int i) (s:=true) rfl;exact zY (za (i:=10) (x:=.lst<|ss.map D.str) (s:=true) rfl) w (Zy<|sg (4+i)<|by omega) rfl
   obtain⟨os',p1,p2⟩:=SI (i:=15) (os:=o15) (l:=S) (x:=((ss[4+i]?).getD ("":Str),r)) rfl hO (by omega) (yw (WD.e wn) wr) True.intro;exact⟨_,rfl,_,zt t1 p2,os',_,_,_,rfl,p1,by rw[zyM,hN,List.range_succ,zyM];rfl,by rw[zzJ,hK];rfl⟩)
  ⟨[],[],b11,b12,rfl,Ows.nil,rfl,rfl⟩
 rw[yU,zyX]at hN hK;have hr:=y6 (as:=Ve ns P n m F o7 ss o9 b8 b11 b12 b13 b14<|sN []) (ze (zM (zb (x:=.int 1))<|ya (w3 _ _ rfl<|zM (za (i:=1) (x:=.int 0) (s:=true) rfl)<|zb (x:=.int 8)) (zb (x:=.int 3))<|by decide) zo) (by omega) (by omega);rw[<-ek,zyI]at hr;exact⟨o15,S,c11,c12,hO,by omega,by omega,by rw[hK];exact hN,λg d hg=>zc s13<|zc (yn hr hl) hg⟩
def HM{ss:List Str}(nd:ss.Nodup){i j:Nat}(hi:i<ss.length)(hj:j<ss.length)(e:ss[i]=ss[j]):i=j:=by
 have p:=List.pairwise_iff_getElem.mp nd
 rcases Nat.lt_trichotomy i j with h|h|h
 . exact absurd e<|p i j hi hj h
 . exact h
 . exact absurd e.symm<|p j i hj hi h
def La{ss:List Str}{k a:Nat}(nd:ss.Nodup)(hk:a+k<=ss.length):((List.range k).map λj=>(ss[a+j]?).getD ("":Str)).Nodup:=by
 refine List.pairwise_map.mpr<|(List.nodup_range).imp_of_mem λ{i j} mi mj hne he=>hne ?_;have hi:=List.mem_range.mp mi;have hj:=List.mem_range.mp mj;rw[zzE ⋯,zzE ⋯]at he;have:=HM nd ⋯ ⋯ he;omega
structure Cx.Gd(c:Cx):Prop where
 ok:c.Ok
 sl:c.S.length<=4
 sn:(c.S.map (·.1)).Nodup
 dd:1<=c.Ds.length
def Ma(ns:List Int):∃c:Cx,c.Gd/\RE (Z8 [(true,zj ns),(true,.int 0)]) c.g:=by
 obtain⟨P,n,m,F,h,g1⟩:=JJ ns;obtain⟨o7,b,j1,j2,g2⟩:=CJ (ns:=ns) h;obtain⟨ss,o9,Ds,b8,b11,b12,b13,b14,sl,sn,hD,d1,d4,dn,g3⟩:=HJ (ns:=ns) (o7:=o7) (b:=b) h;obtain⟨o15,S,c11,c12,hS,s1,s3,sm,g4⟩:=Of (ns:=ns) (o7:=o7) (o9:=o9) (b8:=b8) (b11:=b11) (b12:=b12) (b13:=b13) (b14:=b14) h sl;obtain⟨tJ,lJ,qJ⟩:=ER h.p.k h.nn h.f;have hR:=(xM h.f).1;have e0:=(sU h.p.k).ce;rw[<-h.nn]at e0;have n8:=h.p.n8;have n1:=MX h.p.k;rw[<-h.nn]at n8 n1;let Z:=Ve ns P n m F o7 ss o9 b8 c11 c12 b13 b14<|sN o15;have s15:kY Z=some (.nx<|A7 ns P n m F [sN o7,b8,sN o9,sT<|.lst<|ss.map D.str,c11,c12,b13,b14,sN o15,sI<|vW F<|eX P]):=by
  have w:=AZ (as:=Z) h.p rfl λp=>by
   have w:=yX (as:=[sI p.1,sI p.2]) (g:=PC) (ze (Gs (c:=p.1==3) (za (i:=0) (x:=.int p.1) (s:=true) rfl) (zb (x:=.int 3)) rfl) zo) rfl rfl
   rwa [show(if(p.1==3)=true then(1:Int)else 0)=eK p.1 by unfold eK;by_cases h:p.1=3<;>simp[h]]at w
  rw[jQ]at w;exact zD (i:=16) (zY (za (i:=5) (x:=zj F) (s:=true) rfl) w (rowAt hR e0).1 rfl)<|zg rfl
 have wr:pS (A7 ns P n m F [sN o7,b8,sN o9,sT<|.lst<|ss.map D.str,c11,c12,b13,b14,sN o15,sI<|vW F<|eX P])=some (_,_):=
  ZA (za (i:=3) rfl) ⋯
 have hfin:=EM wr<|W6 rfl;have hf7:(O.nd .ls o7).frz = .lf true (xZ<|GP P F n):=by
  show O.lf (O.strs o7) (.lst<|O.toDs o7)=_;rw[j1,j2]
 rw[hf7,hD.frz,hS.frz]at hfin;have rt:=U7 hfin rfl;have nd1:(Ds.map (·.1)).Nodup:=by
  rw[dn];have:=La (k:=Ds.length) (a:=0) sn (by omega);simp only[zyX]at this;exact this
 have nd2:(S.map (·.1)).Nodup:=by
  rw[sm];exact La sn (by omega)
 exact⟨⟨n,m,GP P F n,vW F<|eX P,Ds,S⟩,⟨⟨⟨n1,n8,h.m1,h.m6,tJ,(rowAt hR e0).2.1,(rowAt hR e0).2.2,by show Ds.length<=6;omega,λp mp=>(hD.al p mp).1,nd1⟩,⟨lJ,λp mp=>(hD.al p mp).2⟩⟩,by show S.length<=4;omega,nd2,d1⟩,zN rfl<|g1 _ _<|g2 _ _<|g3 _ _<|g4 _ _<|zc s15 ⟨_,rt,rfl,rfl⟩⟩
end
abbrev iM:SF:=(zm true 1 lZ)
abbrev j8:SF:=qO
abbrev jC:SF:=(zm true 3<|f2 zz zA zp)
abbrev jJ:SF:=(zm true 4<|f2 zP zA zp)
abbrev jn:SF:=nP
abbrev iZ:SF:=pz
abbrev iQ:SF:=oM
abbrev i_:SF:=(zm false 11<|zZ dN)
abbrev iw:SF:=(yx (yu Py yH) (gN 12) lV)
abbrev mV:SF:=(zm false 14<|zZ dN)
abbrev kM:SF:=(yx (yu (aC xm aN) yH) (gN 12) ko)
def Cw{ds:List Int}{a n:Nat}(h:a+n<=ds.length):Wx (zj ds) (some (a:Int)) (some ((a+n:Nat):Int))=some (.fl<|((ds.drop a).take n).map D.int):=by
 show some _=_
 congr 2
 unfold PF.cutD;rw[HT.YO,HT.YO,zzB,Nat.min_eq_left h,Nat.min_eq_left ⋯,<-List.map_drop,<-List.map_take,Nat.add_sub_cancel_left]
def Ja{ds:List Int}{a n N:Nat}(h:a+n<=ds.length)(hd:∀x ∈ ds,zR N x)(e:n=N):Row N ((ds.drop a).take n):=by
 refine⟨by rw[zzS,List.length_drop];omega,λx m=>hd x<|List.mem_of_mem_drop<|List.mem_of_mem_take m⟩
def ki{f fl fh:EF}{as:AS}{ds:List Int}{a n:Nat}{lo hi:Int}(h:a+n<=ds.length)(hf:WD f as true (zj ds))(h1:WD fl as true (.int lo))(h2:WD fh as true (.int hi))(e1:lo=(a:Int))(e2:hi=((a+n:Nat):Int)):WE (Xr f (oS fl) (oS fh) Wx) as (zj<|(ds.drop a).take n):=by
 subst e1 e2;exact Fx ⋯ (OY h1) (OY h2) (Cw h)
def Iu{xs:List D}{k:Int}(h : -(2 ^ 63)<=k/\k<2 ^ 63/\xs.length*k.toNat<=sizeLine):ZM .Mult (.lst xs) (.int k)=some (.fl (List.replicate k.toNat xs).flatten):=if_pos h
def SB{as:AS}{a b:EF}{x:Int}{k:Nat}(ha:WD a as true (.int x))(hb:WD b as true (.int (k:Int)))(hk:k<=900):WE (f2 (zZ<|dC a dN) b zS) as (zj<|List.replicate k x):=by
 refine SN (xB (zE ha yG) (W6 rfl) rfl rfl) (WD.e hb) ?_;show ZM .Mult (.lst [D.int x]) _=_;rw[Iu ⟨⋯,⋯,B5 (by show 1*k<=_;omega)⟩,zyI,List.flatten_replicate_singleton,List.map_replicate]
abbrev iF:EF:=Xr zi (oS<|f2 zv zk zS) (oS<|f2 (f2 zv zk zS) zv zp) Wx
def AC{as:AS}{j n k:Nat}{cap:List (Option Nat)}{ds:List Int}(n8:n<=8)(k8:k<=8)(hc:∀b:Int,gN 0 (true,.int b) (Zv cap as)=some [sI b,sT<|zj ds,sI n])(hr:as[j]? = some (sI k))(hl:ds.length=n*k)(hd:∀x ∈ ds,zR n x):∃T:TZ,Tab k n T/\WE (zX (yu (aC (fV j) aN) yH) cap xF yK iF) as (xZ T):=by
 obtain⟨T,t1,t2,t3⟩:=ux zj (ze (za hr) zo) ⋯ λb b0 b1=>by
  have ha:n*b.toNat+n<=n*k:=by rw[<-Nat.mul_succ];exact Nat.mul_le_mul_left n ⋯
  have eb:b.toNat=b:=⋯;have w:WD (f2 zv zk zS) [sI b,sT<|zj ds,sI n] true _:=yZ ⋯ ⋯ (zG ⋯ (by omega)) (zG ⋯ ⋯);refine⟨[sI b,sT _,sI n],_,hc b,ki (a:=n*b.toNat) ⋯ (za (i:=1) rfl) w (zM w<|za (i:=2) rfl) (by rw[zzV,eb]) (by rw[Int.natCast_add,zzV,eb]),Ja ⋯ hd rfl⟩
 exact⟨T,⟨t1,t2⟩,t3⟩
def H_{ns:List Int}:∃r:List Int,r.length<=12/\Wx (zj ns) none (some 12)=some (.fl<|r.map D.int):=by
 refine⟨ns.take<|min 12 ns.length,by rw[zzS];omega, ?_⟩;show some (R0.fl<|PF.cutD _ none<|some ((12:Nat):Int))=_
 congr 2
 unfold PF.cutD;rw[HT.YO,HT.PP,zzB,List.drop_zero,Nat.sub_zero,<-List.map_take]
def MC{f:EF}{as:AS}{r:List Int}(h:WE f as (zj r)):WD (fP (aC f aN) yo) as true (.int r.length):=by
 have:=K2 (g:=yo) h rfl
 rwa [zzB]at this
def OQ{ns:List Int}{as:AS}(h:as[0]? = some (sT<|zj ns)):∃cs:List Int,cs.length=12/\WE lZ as (zj cs):=by
 obtain⟨r,hr,e⟩:=H_;have ws:WE (Xr zk oN _ Wx) as _:=QH (za h) rfl ⋯ e;have w1:=Qp<|GD (cap:=[none]) (gg:=gN 0) r (Y9 ws) ⋯ λx _=>⟨_,rfl,za (i:=0) rfl⟩;rw[List.map_id']at w1;have w2:WD oZ as true (.int ((12-r.length:Nat):Int)):=by
  have:=x5 (zb (x:=.int 12))<|MC ws
  rwa [show 12-_=((12-r.length:Nat):Int) by omega]at this
 refine⟨r++List.replicate (12-r.length) 0,by rw[zzJ,List.length_replicate];omega, ?_⟩;refine SN w1 (SB zb w2 ⋯) ?_;rw[zyM];exact if_pos (by rw[zzB,zzB,List.length_replicate];exact B5 ⋯)
section
variable{ns cs:List Int}{o z:Int}{n m k s:Nat}
abbrev B8(ns cs:List Int)(o:Int)(n m k s:Nat)(z:Int)(l:AS):AS:=sT (zj ns)::sT (zj cs)::sI o::sI n::sI m::sI k::sI s::sI z::l
abbrev Ls(ns cs:List Int)(o:Int)(n m k s:Nat)(z:Int)(ss:List Str)(b9:Option O)(J:TZ)(o11:List O)(b12 b13 b14 b15:Option O):AS:=B8 ns cs o n m k s z [sT<|.lst<|ss.map D.str,b9,sT<|xZ J,sN o11,b12,b13,b14,b15]
structure Bd(cs:List Int)(n m k s:Nat):Prop where
 c:cs.length=12
 n1:1<=n
 n8:n<=8
 m1:1<=m
 m6:m<=6
 k6:k<=6
 s4:s<=4
def ou(ns:List Int):∃cs o n m k s z ss b9 J,Bd cs n m k s/\ss.length=10/\ss.Nodup/\Tab n n J/\0<=z/\∀(g:SF) (d:D),Rt (g<|Ls ns cs o n m k s z ss b9 J [] none none none none) d->Rt (zh iM (zh j8<|zh jC<|zh jJ<|zh jn<|zh iZ<|zh iQ<|zh i_ g) [sT<|zj ns,none,none,none,none,none,none,none,none,none,none,none,none,none,none,none]) d:=by
 obtain⟨cs,hc,wc⟩:=OQ (ns:=ns) (as:=[sT<|zj ns,none,none,none,none,none,none,none,none,none,none,none,none,none,none,none]) rfl;have s1:=y2 (p:=1) wc<|zg rfl;obtain⟨c,w0⟩:=v8 (as:=[sT<|zj ns,sT<|zj cs,none,none,none,none,none,none,none,none,none,none,none,none,none,none]) (za (i:=1) rfl) (zb (x:=.int 0)) (by omega) (by omega);have wd:WE qe [sT<|zj ns,sT<|zj cs,none,none,none,none,none,none,none,none,none,none,none,none,none,none] (zj [c%2,c/2%8,c/2/8%6,c/2/8/6%7,c/2/8/6/7%5,c/2/8/6/7/5%8]):=MK (sz:=[2,8,6,7,5,8]) (by decide) (by decide) (WD.e w0)<|xB (os:=[ZZ 2,ZZ 8,ZZ 6,ZZ 7,ZZ 5,ZZ 8]) (zE zb<|zE zb<|zE zb<|zE zb<|zE zb<|zE zb yG) (W6 rfl) rfl rfl;have bd:∀(x y:Int),0<y->∃r:Nat,(r:Int)=x%y/\(r:Int)<y:=λx y hy=>by
  have:=zyN x (show y≠0 by omega);have:=zyH x hy;exact⟨(x%y).toNat,by omega,by omega⟩
 obtain⟨n',en,n8⟩:=bd (c/2) 8 (by decide);obtain⟨m',em,m8⟩:=bd (c/2/8) 6 (by decide);obtain⟨k,ek,k8⟩:=bd (c/2/8/6) 7 (by decide);obtain⟨s,es,s8⟩:=bd (c/2/8/6/7) 5 (by decide);obtain⟨z,ez,z8⟩:=bd (c/2/8/6/7/5) 8 (by decide);rw[<-en,<-em,<-ek,<-es,<-ez]at wd;generalize c%2=o at wd;have s2:j8 [sT<|zj ns,sT<|zj cs,none,none,none,none,none,none,none,none,none,none,none,none,none,none]=some (.nx _):=Mx wd rfl;have s3:jC [sT<|zj ns,sT<|zj cs,sI o,sI n',sI m',sI k,sI s,sI z,none,none,none,none,none,none,none,none]=some (.nx _):=zD (i:=3) (zM (za (i:=3) (x:=.int n') (s:=true) rfl)<|zb (x:=.int 1))<|zg rfl;have s4:jJ [sT<|zj ns,sT<|zj cs,sI o,sI ((n'+1:Nat):Int),sI m',sI k,sI s,sI z,none,none,none,none,none,none,none,none]=some (.nx<|B8 ns cs o (n'+1) (m'+1) k s z [none,none,none,none,none,none,none,none]):=zD (i:=4) (zM (za (i:=4) (x:=.int m') (s:=true) rfl)<|zb (x:=.int 1))<|zg rfl;have n9:n'+1<=8:=by omega
 have nn:(n'+1)*(n'+1)<=64:=Nat.mul_le_mul n9 n9;obtain⟨x,_,wx⟩:=WH ns (k:=12) (by omega);obtain⟨ss,sl,sn,rs⟩:=Lu x (mn:=10) (by omega);have s5:jn (B8 ns cs o (n'+1) (m'+1) k s z [none,none,none,none,none,none,none,none])=some (.nx<|B8 ns cs o (n'+1) (m'+1) k s z [sT<|.lst<|ss.map D.str,none,none,none,none,none,none,none]):=y2 (p:=8) (yM (WD.e<|wx _ _ rfl<|zb (x:=.int 12)) (WD.e<|zb (x:=.int 10)) rs)<|zg rfl;obtain⟨c1,w1⟩:=v8 (as:=B8 ns cs o (n'+1) (m'+1) k s z [sT<|.lst<|ss.map D.str,none,none,none,none,none,none,none]) (za (i:=1) rfl) (zb (x:=.int 1)) (by omega) (by omega);have wm:=yZ (za (as:=B8 ns cs o (n'+1) (m'+1) k s z [sT<|.lst<|ss.map D.str,none,none,none,none,none,none,none]) (i:=3) (x:=.int ((n'+1:Nat):Int)) (s:=true) rfl) (za (i:=3) (x:=.int ((n'+1:Nat):Int)) (s:=true) rfl) (zG (q2e en em ek es ez)<|by omega) (zG (q2e en em ek es ez)<|by omega);rw[<-zzV]at wm;have s6:=y2 (p:=9) (MK (λy my=>by rw[List.eq_of_mem_replicate my];omega) (by rw[List.length_replicate];exact q1D nn) (WD.e w1)<|SB (za (i:=3) rfl) wm<|(q1D nn))<|zg rfl;obtain⟨J,tJ,wJ⟩:=AC (as:=B8 ns cs o (n'+1) (m'+1) k s z [sT<|.lst<|ss.map D.str,sT<|zj<|dg c1<|List.replicate ((n'+1)*(n'+1)) ((n'+1:Nat):Int),none,none,none,none,none,none]) (j:=3) (n:=n'+1) (k:=n'+1) (cap:=[none,some 9,some 3]) n9 n9 (λb=>rfl) rfl (by rw[Pw,List.length_replicate])<|FG (q2f en em ek es ez) _ _;have s7:=y2 (p:=10) wJ<|zg rfl;exact⟨cs,o,n'+1,m'+1,k,s,z,ss,_,J,⟨hc,q2f en em ek es ez,n9,by omega,by omega,by omega,by omega⟩,sl,sn,tJ,by omega,λg d h=>zc s1<|zc s2<|zc s3<|zc s4<|zc s5<|zc s6<|zc s7<|zc (w9 (i:=11) (YQ yG<|W6 rfl)<|zg rfl) h⟩
end
section
variable{ns cs:List Int}{o z:Int}{n m k s:Nat}{ss:List Str}{b9:Option O}{J:TZ}
def u9(h:Bd cs n m k s)(sl:ss.length=10):∃o11 Ds b12 b13,Ows XJ (λp=>Tab m n p.2) o11 Ds/\Ds.length=k/\Ds.map (·.1)=(List.range k).map (λj=>(ss[j]?).getD ("":Str))/\iw (Ls ns cs o n m k s z ss b9 J [] none none none none)=some (.nx<|Ls ns cs o n m k s z ss b9 J o11 b12 b13 none none):=by
 have n1:=h.n1;have n8:=h.n8;have m6:=h.m6;have k6:=h.k6;have hc:=h.c;have nm:=Nat.mul_le_mul n8 m6;have sg:∀i,i<10->ss[i]? = some ((ss[i]?).getD ("":Str)):=λi hi=>by rw[zzE<|(q1B hi sl)];rfl
 obtain⟨as',hl,o11,Ds,b12,b13,rfl,hO,hN,hK⟩:=yW (g:=gN 12) (f:=lV)
  (λi as=>∃(o11:List O) (Ds:DD) (b12 b13:Option O),as=Ls ns cs o n m k s z ss b9 J o11 b12 b13 none none/\Ows XJ (λp=>Tab m n p.2) o11 Ds/\Ds.map (·.1)=(List.range i).map (λj=>(ss[j]?).getD ("":Str))/\Ds.length=i) (yR 0 k) 0 _ (λi y as hy hI=>by
   obtain⟨o11,Ds,b12,b13,rfl,hO,hN,hK⟩:=hI;obtain⟨rfl,hi⟩:=y_ hy;rw[zyX]at hN hK ⊢;rw[Int.zero_add];obtain⟨c,wc⟩:=v8 (as:=Ls ns cs o n m k s z ss b9 J o11 (sI i) b13 none none) (za (i:=1) rfl) (zM (zb (x:=.int 2))<|za (i:=12) (x:=.int i) (s:=true) rfl) (by omega) (by omega);have wm:=yZ (za (as:=Ls ns cs o n m k s z ss b9 J o11 (sI i) b13 none none) (i:=3) (x:=.int n) (s:=true) rfl) (za (i:=4) (x:=.int m) (s:=true) rfl) (zG (q0N n1 n8)<|(q0V n1 n8)) (zG (by omega)<|by omega);have t1:=y2 (p:=13) (MK (λy my=>by rw[List.eq_of_mem_replicate my];exact q2c n1 n8) (by rw[List.length_replicate];exact q1v nm) (WD.e wc)<|SB (za (i:=3) (x:=.int n) (s:=true) rfl) wm<|(q1v nm))<|zg rfl;obtain⟨T,tT,wT⟩:=AC (as:=Ls ns cs o n m k s z ss b9 J o11 (sI i) (sT<|zj<|dg c<|List.replicate (n*m) (n:Int)) none none) (j:=4) (n:=n) (k:=m) (cap:=[none,some 13,some 3]) n8 (by omega) (λb=>rfl) rfl (by rw[Pw,List.length_replicate])<|FG n1 _ _;obtain⟨os',p1,p2⟩:=SI (i:=11) (os:=o11) (l:=Ds) (x:=((ss[i]?).getD ("":Str),T)) rfl hO (by omega) (yw (WD.e<|zY (za (i:=8) (s:=true) rfl) ⋯ (Zy<|sg i<|by omega) rfl) wT) tT;exact⟨_,rfl,_,zt t1 p2,os',_,_,_,rfl,p1,by rw[zyM,hN,List.range_succ,zyM];rfl,by rw[zzJ,hK];rfl⟩)
  ⟨[],[],none,none,rfl,Ows.nil,rfl,rfl⟩
 rw[yU,zyX]at hN hK;have hr:=y6 (as:=Ls ns cs o n m k s z ss b9 J [] none none none none) (ze (za (i:=5) (x:=.int k) (s:=true) rfl) zo) (by omega) (by omega);exact⟨o11,Ds,b12,b13,hO,hK,hN,yn hr hl⟩
def D0{o11:List O}{b12 b13:Option O}(h:Bd cs n m k s)(sl:ss.length=10):∃o14 S b12' b15,Ows Ud (λ_=>True) o14 S/\S.length=s/\S.map (·.1)=(List.range s).map (λj=>(ss[9-j]?).getD ("":Str))/\kM (Ls ns cs o n m k s z ss b9 J o11 b12 b13 (sN []) none)=some (.nx<|Ls ns cs o n m k s z ss b9 J o11 b12' b13 (sN o14) b15):=by
 have n1:=h.n1;have n8:=h.n8;have s4:=h.s4;have hc:=h.c;have sg:∀i,i<10->ss[i]? = some ((ss[i]?).getD ("":Str)):=λi hi=>by rw[zzE<|(q1B hi sl)];rfl
 obtain⟨as',hl,o14,S,b12',b15,rfl,hO,hN,hK⟩:=yW (g:=gN 12) (f:=ko)
  (λi as=>∃(o14:List O) (S:SS) (b12 b15:Option O),as=Ls ns cs o n m k s z ss b9 J o11 b12 b13 (sN o14) b15/\Ows Ud (λ_=>True) o14 S/\S.map (·.1)=(List.range i).map (λj=>(ss[9-j]?).getD ("":Str))/\S.length=i) (yR 0 s) 0 _ (λi y as hy hI=>by
   obtain⟨o14,S,b12,b15,rfl,hO,hN,hK⟩:=hI;obtain⟨rfl,hi⟩:=y_ hy;rw[zyX]at hN hK ⊢;rw[Int.zero_add];obtain⟨c,wc⟩:=v8 (as:=Ls ns cs o n m k s z ss b9 J o11 (sI i) b13 (sN o14) b15) (za (i:=1) rfl) (zM (zb (x:=.int 8))<|za (i:=12) (x:=.int i) (s:=true) rfl) (by omega) (by omega);have t1:=y2 (p:=15) (MK (λy my=>by rw[List.eq_of_mem_replicate my];omega) (by rw[List.length_replicate];exact q1S n1 n8) (WD.e wc)<|SB (zb (x:=.int 2)) (za (i:=3) (x:=.int n) (s:=true) rfl)<|(q1S n1 n8))<|zg rfl;obtain⟨r,wr⟩:=FL (as:=Ls ns cs o n m k s z ss b9 J o11 (sI i) b13 (sN o14)<|sT<|zj<|dg c<|List.replicate n 2) (cap:=[none,some 15]) (gg:=gN 0) (tt:=(fT<|f2 (f2 zi zk zx) zA<|zw .Eq)) (fe:=fV 0) (List.range n) (CY (ze (za (i:=3) rfl) zo)<|(q0A n1 n8)) (by rw[zyU];omega) λq mq=>by
    have hq:=List.mem_range.mp mq;rw[Int.zero_add];obtain⟨v,wv⟩:=v8 (as:=[sI q,sT<|zj<|dg c<|List.replicate n 2]) (za (i:=1) rfl) (za (i:=0) (x:=.int q) rfl) (q0a) (by rw[Pw,List.length_replicate];exact q0j hq);exact⟨_,_,rfl,eqT wv zb rfl,WD.e<|za (i:=0) rfl⟩
   have wn:WD (f2 (fV 8) (f2 (fC<|.int 9) (fV 12) yp) zx) (Ls ns cs o n m k s z ss b9 J o11 (sI i) b13 (sN o14)<|sT<|zj<|dg c<|List.replicate n 2) true (.str<|(ss[9-i]?).getD ("":Str)):=by
    have w:=x5 (as:=Ls ns cs o n m k s z ss b9 J o11 (sI i) b13 (sN o14)<|sT<|zj<|dg c<|List.replicate n 2) (zb (x:=.int 9))<|za (i:=12) (x:=.int i) (s:=true) rfl;rw[show(9:Int)-i=((9-i:Nat):Int) by omega]at w;exact zY (za (i:=8) (s:=true) rfl) w (Zy<|sg (9-i)<|by omega) rfl
   obtain⟨os',p1,p2⟩:=SI (i:=14) (os:=o14) (l:=S) (x:=((ss[9-i]?).getD ("":Str),r)) rfl hO (by omega) (yw (WD.e wn) wr) True.intro;exact⟨_,rfl,_,zt t1 p2,os',_,_,_,rfl,p1,by rw[zyM,hN,List.range_succ,zyM];rfl,by rw[zzJ,hK];rfl⟩)
  ⟨[],[],b12,none,rfl,Ows.nil,rfl,rfl⟩
 rw[yU,zyX]at hN hK;have hr:=y6 (as:=Ls ns cs o n m k s z ss b9 J o11 b12 b13 (sN []) none) (ze (za (i:=6) (x:=.int s) (s:=true) rfl) zo) (by omega) (by omega);exact⟨o14,S,b12',b15,hO,hK,hN,yn hr hl⟩
def Cj{ss:List Str}{k a:Nat}(nd:ss.Nodup)(ha:a<ss.length)(hk:k<=a):((List.range k).map λj=>(ss[a-j]?).getD ("":Str)).Nodup:=by
 refine List.pairwise_map.mpr<|(List.nodup_range).imp_of_mem λ{i j} mi mj hne he=>hne ?_;have hi:=List.mem_range.mp mi;have hj:=List.mem_range.mp mj;rw[zzE ⋯,zzE ⋯]at he;have:=HM nd ⋯ ⋯ he;omega
def Ku(ns:List Int):∃c:Cx,Alg c.n c.m c.J c.e c.Ds/\c.S.length<=4/\(c.S.map (·.1)).Nodup/\RE (wK [(true,zj ns)]) c.g:=by
 obtain⟨cs,o,n,m,k,s,z,ss,b9,J,h,sl,sn,tJ,z0,g1⟩:=ou ns;obtain⟨o11,Ds,b12,b13,hD,dl,dn,e9⟩:=u9 (ns:=ns) (o:=o) (z:=z) (b9:=b9) (J:=J) h sl;obtain⟨o14,S,c12,b15,hS,slen,sm,e11⟩:=D0 (ns:=ns) (o:=o) (z:=z) (b9:=b9) (J:=J) h sl;have n1:=h.n1;have k6:=h.k6;have s4:=h.s4;have e10:mV (Ls ns cs o n m k s z ss b9 J o11 b12 b13 none none)=some _:=w9 (i:=14) (YQ yG<|W6 rfl)<|zg rfl;have hz:=X0 (x:=z) h.n1;have wr:o8 (Ls ns cs o n m k s z ss b9 J o11 c12 b13 (sN o14) b15)=some (_,_):=
  ZA (za (i:=3) rfl) (ZA (za (i:=4) rfl)<|ZA (za (i:=10) rfl)<|ZA (ya (za (i:=7) rfl) (za (i:=3) (s:=true) rfl)<|(q0S n1))<|Ss (j:=11) (ps:=o11) rfl<|Ss (j:=14) (ps:=o14) rfl rfl)
 have hfin:=EM wr<|W6 rfl;rw[hD.frz,hS.frz]at hfin;have rt:=U7 hfin rfl;have nd1:(Ds.map (·.1)).Nodup:=by
  rw[dn];have:=La (k:=k) (a:=0) sn (by omega);simp only[zyX]at this;exact this
 have nd2:(S.map (·.1)).Nodup:=by
  rw[sm];exact Cj sn (by omega) (by omega)
 exact⟨⟨n,m,J,z%n,Ds,S⟩,⟨h.n1,h.n8,h.m1,h.m6,tJ,hz.1,hz.2,by show Ds.length<=6;omega,hD.al,nd1⟩,by show S.length<=4;omega,nd2,zN rfl<|g1 _ _<|zc e9<|zc e10<|zc e11 ⟨_,rt,rfl,rfl⟩⟩
end
theorem Om(k:Nat):∀r s:List Int,AU (Yj<|k+1) (r.map D.int) (s.map D.int)=some (r==s)
 | [],[]=>rfl
 | [],_::_=>rfl
 |_::_,[]=>rfl
 |a::r,b::s=>by
  show(some _).bind _=_;rw[Om k r s];rfl
def A1(r s:List Int):Yj 60 (zj r) (zj s)=some (r==s):=Om 58 r s
def H0:∀xs:List D,Yj 60 (.lst xs) (.lst [])=some xs.isEmpty
 | []=>rfl
 |_::_=>rfl
def Rf(r:Option Out)(I:AS->Prop):Prop:=(∃as,r=some (.nx as)/\I as)\/r=some (.rt<|.lf true<|.bl false)
theorem Rf.loop{g:GF}{f:SF}(I:Nat->AS->Prop):∀(xs:List xi) (k:Nat) (as:AS),(∀i x as,xs[i]? = some x->I (k+i) as->∃as1,g x as=some as1/\Rf (f as1) (I<|k+i+1))->I k as->Rf (forL g f xs as) (I<|k+xs.length)
 | [],k,as,_,h=>.inl ⟨as,rfl,h⟩
 |x::xs,k,as,H,h=>by
  obtain⟨as1,h1,h2⟩:=H 0 x as rfl h
  rcases h2 with⟨as2,h2,h3⟩|h2
  . have:=Rf.loop I xs _ as2 (λi y as hy hI=>by
     have:=H _ y as hy (by rwa [show k+(i+1)=k+1+i from q0c])
     rwa [show k+_+1=k+1+i+1 by omega]at this) h3
    rw[show k+1+xs.length=k+(x::xs).length by rw[zzT];exact q0k]at this;have e:forL g f (x::xs) as=forL g f xs as2:=by
     show(g x as).bind _=_;rw[h1];show(f as1).bind _=_;rw[h2];rfl
    rwa [e]
  . right;show(g x as).bind _=_;rw[h1];show(f as1).bind _=_;rw[h2];rfl
def Rf.seq{f g:SF}{as as1:AS}{I:AS->Prop}(h:f as=some (.nx as1))(k:Rf (g as1) I):Rf (zh f g as) I:=by
 rcases k with⟨a,b,c⟩|k
 . exact .inl ⟨a,zt h b,c⟩
 . exact .inr<|zt h k
def Rf.no{c:TF}{as:AS}{I:AS->Prop}{t:Bool}(h:WT c as t)(k:t=false->I as):Rf (xk c (zy<|fC<|.bl false) xh as) I:=by
 cases t with
 |false=>exact .inl ⟨as,zu h rfl,k rfl⟩
 |true=>exact .inr (xf h rfl)
def Rf.bind{f g:SF}{as:AS}{I K:AS->Prop}(h:Rf (f as) I)(k:∀as1,I as1->Rf (g as1) K):Rf (zh f g as) K:=by
 rcases h with⟨a,b,c⟩|h
 . exact(k a c).seq b
 . exact .inr<|vY h
def kx{a b:EF}{as:AS}{x y:Int}{s t:Bool}(ha:WD a as s (.int x))(hb:WD b as t (.int y)):WT (fT<|f2 a b<|zw .NotEq) as (!(x==y)):=yF (E9 ha hb rfl) rfl
def tE{x y:Int}(h:(!(x==y))=false):x=y:=by
 rw[Bool.not_eq_false']at h;exact beq_iff_eq.mp h
section
variable{n m:Nat}{J T:TZ}{a b:Int}
abbrev D9(m:Nat)(J T:TZ)(a b:Int)(l:AS):AS:=sI m::sT (xZ J)::sT (xZ T)::sI a::sI b::l
abbrev O0(m:Nat)(J T:TZ)(a b i k:Int):Prop:=yJ T ((i+k)%m) (yJ J a b)=yJ J (yJ T i a) (yJ T k b)
def IC(hJ:Tab n n J)(hT:Tab m n T)(m1:1<=m)(m6:m<=6)(ha:zR n a)(hb:zR n b):∃t,RE (WY [(true,.int m),(true,xZ J),(true,xZ T),(true,.int a),(true,.int b)]) (.bl t)/\(t=true->∀i k,zR m i->zR m k->O0 m J T a b i k):=by
 have hr:=λl=>by
  have:=y6 (as:=D9 m J T a b l) (ze (za (i:=0) (x:=.int m) (s:=true) rfl) zo) (by omega) (by omega)
  rwa [zyI]at this
 have key:=Rf.loop (g:=gN 5) (λi as=>∃x y z w,as=D9 m J T a b [x,y,z,w]/\∀i':Nat,i'<i->∀k,zR m k->O0 m J T a b i' k) (yR 0 m) 0 (D9 m J T a b [none,none,none,none]) (λi y as hy hI=>by
  obtain⟨x,y,z,w,rfl,hI⟩:=hI;obtain⟨rfl,hi⟩:=y_ hy;rw[zyX]at hI ⊢;rw[Int.zero_add];refine⟨D9 m J T a b [sI i,y,z,w],rfl, ?_⟩;have inn:=Rf.loop (g:=gN 6) (f:=nW) (λk as=>∃y z w,as=D9 m J T a b [sI i,y,z,w]/\∀k':Nat,k'<k->O0 m J T a b i k') (yR 0 m) 0 (D9 m J T a b [sI i,y,z,w]) (λk y as hy hK=>by
   obtain⟨y,z,w,rfl,hK⟩:=hK;obtain⟨rfl,hk⟩:=y_ hy;rw[zyX]at hK ⊢;rw[Int.zero_add];refine⟨D9 m J T a b [sI i,sI k,z,w],rfl, ?_⟩;have w1:=(XR (as:=D9 m J T a b [sI i,sI k,z,w]) hT (X0 (x:=(i:Int)+k)<|by omega) (QB hJ ha hb) (za (i:=2) rfl) (ya ⋯ ⋯ (by omega))<|w_ hJ ha hb (za (i:=1) rfl) (za (i:=3) rfl)<|za (i:=4) rfl).1;have z1:=XR (as:=D9 m J T a b [sI i,sI k,sI<|yJ T (((i:Int)+k)%m)<|yJ J a b,w]) hT (Mb hi) ha (za (i:=2) rfl) (za (i:=5) rfl)<|za (i:=3) rfl;have z2:=XR (as:=D9 m J T a b [sI i,sI k,sI<|yJ T (((i:Int)+k)%m)<|yJ J a b,w]) hT (Mb hk) hb (za (i:=2) rfl) (za (i:=6) rfl)<|za (i:=4) rfl;refine(Rf.no ⋯ λh=>⟨_,_,_,rfl,λk' hk'=>?_⟩).seq (zD (i:=8) (w_ hJ z1.2 z2.2 (za (i:=1) rfl) z1.1 z2.1)<|zg rfl) |>.seq (zD (i:=7) w1<|zg rfl)
   rcases Nat.lt_or_eq_of_le (Nat.le_of_lt_succ hk')with h1|rfl
   . exact hK k' h1
   . exact tE h) ⟨_,_,_,rfl,λk' hk'=>absurd hk'<|Nat.not_lt_zero _⟩
  rw[yU,zyX]at inn;have fin:∀{r},forL (gN 6) nW (yR 0 m) (D9 m J T a b [sI i,y,z,w])=r->(yx (yu wY yH) (gN 6) nW) (D9 m J T a b [sI i,y,z,w])=r:=λh=>yn (hr _) h
  rcases inn with⟨as2,h1,y',z',w',rfl,h2⟩|h1
  . refine .inl ⟨_,fin h1,_,_,_,_,rfl,λi' hi' k hk=>?_⟩
    rcases Nat.lt_or_eq_of_le (Nat.le_of_lt_succ hi')with h3|rfl
    . exact hI i' h3 k hk
    . have:=h2 k.toNat<|⋯
      rwa [show((k.toNat:Nat):Int)=k by have:=hk.1;omega]at this
  . exact .inr<|fin h1) ⟨_,_,_,_,rfl,λk' hk'=>absurd hk'<|Nat.not_lt_zero _⟩
 rw[yU,zyX]at key
 rcases key with⟨as2,h1,x',y',z',w',rfl,h2⟩|h1
 . refine⟨true,zN rfl<|zc (yn (hr _) h1)<|zF<|WD.e zb,λ_ i k hi hk=>?_⟩;have:=h2 i.toNat (⋯) k hk
   rwa [show((i.toNat:Nat):Int)=i by have:=hi.1;omega]at this
 . exact⟨false,zN rfl<|yj ⟨_,yn (hr _) h1,rfl,rfl⟩,λh=>nomatch h⟩
end
def tK{a b c d e:EF}{as:AS}{x y z u v o:D}{g:List (Bool×D)->Option O}(ha:WE a as x)(hb:WE b as y)(hc:WE c as z)(hd:WE d as u)(he:WE e as v)(hg:RE (g [(true,x),(true,y),(true,z),(true,u),(true,v)]) o):WE (zd (aC a<|aC b<|aC c<|aC d<|aC e aN) g) as o:=by
 obtain⟨r,h1,h2,rfl⟩:=hg;exact⟨r,vL (yV ha<|yV hb<|yV hc<|yV hd<|yV he zo) (by simp;exact h1),h2,rfl⟩
def kN{a b:EF}{as:AS}{x y:Int}(ha:WD a as true (.int x))(hb:WD b as true (.int y))(h0:0<y)(h1:y<1000):WD (fP (aC a<|aC b aN) ID) as true (.tup [.int<|x/y,.int<|x%y]):=
 Nl (ze ha<|ze hb zo) (by show(if 0<y/\y<1073741824 then _ else _)=_;rw[if_pos ⟨h0,⋯⟩]) rfl
def CB{n:Nat}{r:List Int}{v:Int}{f:Int->Int}(hl:r.length=n)(hv:zR n v):vW (r.map f) v=f (vW r v):=by
 unfold vW;rw[zzI,zzE ⋯];rfl
abbrev G7(c:Cx)(l:AS):AS:=sT c.g::sI c.n::sI c.m::sT (xZ c.J)::sI c.e::sT (.lst<|c.Ds.map XJ)::sT (.lst<|c.S.map Ud)::l
structure pFac(c:Cx)(a b:Int):Prop where
 u:yJ c.J c.e a=a
 v:yJ c.J a c.e=a
 s:∀v,zR c.n v->yJ c.J (yJ c.J a b) v=yJ c.J a (yJ c.J b v)
 d:∀q ∈ c.Ds,∀i k,zR c.m i->zR c.m k->O0 c.m c.J q.2 a b i k
section
variable{c:Cx}
def Jj(A:Alg c.n c.m c.J c.e c.Ds){p:Nat}(hp:p<c.n*c.n){x8 x9 x10 x11:Option O}:Rf (lA<|G7 c [sI p,x8,x9,x10,x11,none]) (λas=>(∃x7 x8 x9 x10 x11,as=G7 c [x7,x8,x9,x10,x11,none])/\pFac c ((p:Int)/c.n) ((p:Int)%c.n)):=by
 have n1:=A.n1;have n8:=A.n8;have hb:zR c.n ((p:Int)%c.n):=X0 n1;have ha:zR c.n ((p:Int)/c.n):=⟨Int.ediv_nonneg (q0a) (by omega),by
  have:=Nat.div_lt_of_lt_mul<|Nat.mul_comm .. ▸ hp;omega⟩
 have he:zR c.n c.e:=⟨A.e0,A.en⟩;have s1:pX (G7 c [sI p,x8,x9,x10,x11,none])=some _:=Mx (WD.e<|kN (za (i:=7) rfl) (za (i:=1) rfl) (q1V n1 n8)<|by omega) rfl;generalize (p:Int)/c.n=a,(p:Int)%c.n=b at ha hb s1 ⊢;have hab:=QB A.j ha hb;have wJ:∀l,WD zz (G7 c l) true (xZ c.J):=λl=>za (i:=3) rfl;refine Rf.seq s1<|Rf.bind (I:=λas=>as=G7 c [sI p,sI a,sI b,x10,x11,none]/\yJ c.J c.e a=a/\yJ c.J a c.e=a) (Rf.no (t:=!(yJ c.J c.e a==a) || !(yJ c.J a c.e==a)) (NA (kx (w_ A.j he ha (wJ _) (za (i:=4) rfl)<|za (i:=8) rfl)<|za (i:=8) rfl) (λh=>by rw[h,Bool.false_or];exact kx (w_ A.j ha he (wJ _) (za (i:=8) rfl)<|za (i:=4) rfl)<|za (i:=8) rfl) λh=>by rw[h];rfl) λh=>by
  rw[Bool.or_eq_false_iff]at h;exact⟨rfl,tE h.1,tE h.2⟩) ?_
 rintro _ ⟨rfl,u1,u2⟩
 obtain⟨i1,r1⟩:=ZL A.j hab;obtain⟨i2,r2⟩:=ZL A.j hb;refine Rf.bind (I:=λas=>as=G7 c [sI p,sI a,sI b,x10,x11,none]/\∀v,zR c.n v->yJ c.J (yJ c.J a b) v=yJ c.J a (yJ c.J b v)) (Rf.no (yF (M_ (WD.e<|Xq (wJ _) (w_ A.j ha hb (wJ _) (za (i:=8) rfl)<|za (i:=9) rfl) i1) (Qp<|GD (gg:=gN 0) (Qk c.J b) (Y9<|WD.e<|Xq (wJ _) (za (i:=9) rfl) i2) (by rw[r2.1];exact q0A n1 n8) λv mv=>⟨[sI v,sT<|xZ c.J,sI a],rfl,w_ A.j ha (r2.2 v mv) (za (i:=1) rfl) (za (i:=2) rfl)<|za (i:=0) rfl⟩)<|A1 _ _) rfl) λh=>⟨rfl,λv hv=>?_⟩) ?_
 . rw[Bool.not_eq_false']at h;have e:=beq_iff_eq.mp h;show vW (Qk c.J<|yJ c.J a b) v=yJ c.J a (vW (Qk c.J b) v);rw[e,CB r2.1 hv]
 rintro _ ⟨rfl,u3⟩
 have key:=Rf.loop (g:=(gT 2<|yQ (gN 10)<|yQ (gN 11) Yu)) (f:=rJ) (λi as=>∃y z,as=G7 c [sI p,sI a,sI b,y,z,none]/\∀j q,j<i->c.Ds[j]? = some q->∀i k,zR c.m i->zR c.m k->O0 c.m c.J q.2 a b i k) ((c.Ds.map XJ).map λd=>(true,d)) 0 (G7 c [sI p,sI a,sI b,x10,x11,none]) (λi y as hy hI=>by
  obtain⟨y,z,rfl,hI⟩:=hI;rw[zyB,zzI]at hy;obtain⟨q,hq,rfl⟩:=zzX.mp hy;rw[zyX]at hI ⊢;refine⟨G7 c _,rfl, ?_⟩;obtain⟨t,w,ht⟩:=IC A.j (A.ds q<|zyA hq) A.m1 A.m6 ha hb;refine Rf.no (t:=!t) (ZH<|sQ<|tK (WD.e<|za (i:=2) rfl) (WD.e<|wJ _) (WD.e<|za (i:=11) rfl) (WD.e<|za (i:=8) rfl) (WD.e<|za (i:=9) rfl) w) λh=>⟨_,_,rfl,λj r hj hr=>?_⟩
  rcases Nat.lt_or_eq_of_le (Nat.le_of_lt_succ hj)with h1|rfl
  . exact hI j r h1 hr
  . rw[hq]at hr;cases hr;exact ht<|(Bool.not_eq_false' ..).mp h) ⟨_,_,rfl,λj _ hj=>absurd hj<|Nat.not_lt_zero _⟩
 rw[zyX,zzB,zzB]at key
 rcases key with⟨as2,h1,y,z,rfl,h2⟩|h1
 . refine .inl ⟨_,yn (EK<|za (i:=5) rfl) h1,⟨_,_,_,_,_,rfl⟩,u1,u2,u3,λq mq=>?_⟩;obtain⟨j,hj,e⟩:=List.getElem_of_mem mq;exact h2 j q hj (by rw[zzE hj,e])
 . exact .inr<|yn (EK<|za (i:=5) rfl) h1
end
section
variable{c:Cx}
def JA(A:Alg c.n c.m c.J c.e c.Ds):∃t,RE (Z2 [(true,c.g)]) (.bl t)/\(t=true->LawA c.n c.m c.J c.e c.Ds/\1<=c.Ds.length):=by
 have n1:=A.n1;have n8:=A.n8;have nn:=Nat.mul_le_mul n8 n8;have s1:Jy [sT c.g,none,none,none,none,none,none,none,none,none,none,none,none]=some (.nx<|G7 c [none,none,none,none,none,none]):=Mx (WD.e<|za (i:=0) rfl) rfl;have wm:=yZ (za (as:=G7 c [none,none,none,none,none,none]) (i:=1) (x:=.int c.n) (s:=true) rfl) (za (i:=1) (x:=.int c.n) (s:=true) rfl) (zG (q0N n1 n8)<|(q0V n1 n8)) (zG (q0N n1 n8)<|(q0V n1 n8));rw[<-zzV]at wm;have hr:=y6 (ze wm zo) (by omega) (by omega);rw[zyI]at hr;have key:=Rf.loop (g:=gN 7) (f:=lA) (λi as=>(∃x7 x8 x9 x10 x11,as=G7 c [x7,x8,x9,x10,x11,none])/\∀p:Nat,p<i->pFac c ((p:Int)/c.n) ((p:Int)%c.n)) (yR 0<|c.n*c.n) 0 (G7 c [none,none,none,none,none,none]) (λi y as hy hI=>by
  obtain⟨⟨x7,x8,x9,x10,x11,rfl⟩,hI⟩:=hI;obtain⟨rfl,hi⟩:=y_ hy;rw[zyX]at hI ⊢;rw[Int.zero_add];refine⟨_,rfl, ?_⟩
  rcases Jj A hi (x8:=x8) (x9:=x9) (x10:=x10) (x11:=x11)with⟨as,h1,h2,h3⟩|h1
  . refine .inl ⟨as,h1,h2,λp hp=>?_⟩
    rcases Nat.lt_or_eq_of_le (Nat.le_of_lt_succ hp)with h4|rfl
    . exact hI p h4
    . exact h3
  . exact .inr h1) ⟨⟨_,_,_,_,_,rfl⟩,λj hj=>absurd hj<|Nat.not_lt_zero _⟩
 rw[yU,zyX]at key
 rcases key with⟨as2,h1,⟨x7,x8,x9,x10,x11,rfl⟩,h2⟩|h1
 . have pf:∀a b,zR c.n a->zR c.n b->pFac c a b:=λa b ha hb=>by
    have:=ha.1;have:=ha.2;have:=hb.1;have:=hb.2;have e1:(b.toNat+c.n*a.toNat)/c.n=a.toNat:=by rw[Nat.add_mul_div_left _ _ n1,Nat.div_eq_of_lt (by omega),zyX]
    have e2:(b.toNat+c.n*a.toNat)%c.n=b.toNat:=by rw[Nat.add_mul_mod_self_left,Nat.mod_eq_of_lt<|by omega]
    have:=h2 (b.toNat+c.n*a.toNat) (by
     have:c.n*a.toNat+c.n<=c.n*c.n:=by rw[<-Nat.mul_succ];exact Nat.mul_le_mul_left _ (by omega)
     omega)
    rwa [<-Int.natCast_ediv,<-Int.natCast_emod,e1,e2,zyY (by omega),zyY<|by omega]at this
   have he:zR c.n c.e:=⟨A.e0,A.en⟩;have z0:zR c.m 0:=⟨by omega,by have:=A.m1;exact q0S this⟩;have wf:=Ek (as:=G7 c [x7,x8,x9,x10,x11,none]) (cap:=[none,none,some 4]) (gg:=gT 2<|yQ xF<|yQ (gN 1) Yu) (fe:=fV 0) c.Ds (Y9 (f:=fV 5)<|WD.e<|za (i:=5) rfl) (by have:=A.dl;exact q1I this) λq mq=>⟨[sT<|.str q.1,sT<|xZ q.2,sI c.e],rfl,kx (XR (A.ds q mq) z0 he (za (i:=1) rfl) zb<|za (i:=2) rfl).1<|za (i:=2) rfl,λ_=>WD.e<|za (i:=0) rfl⟩;have s3:=y2 (p:=12) wf<|zg rfl;have wn:∀{as:AS},WE (zZ dN) as (.lst []):=λ{as}=>X4 YH rfl;generalize hF:(c.Ds.filter λq:Str×TZ=>!(yJ q.2 0 c.e==c.e))=fl at s3;refine⟨(fl.map λq:Str×TZ=>D.str q.1).isEmpty&&(!(c.Ds.map XJ).isEmpty && !(c.S.map Ud).isEmpty),zN rfl (zc s1<|zc (yn hr h1)<|zc s3<|zF<|WD.e<|Ru (Hi (WD.e<|za (i:=12) rfl) wn<|H0 _) (λh=>by rw[h,Bool.true_and];exact Ru (M_ (WD.e<|za (i:=5) rfl) wn<|H0 _) (λh=>by rw[h,Bool.true_and];exact M_ (WD.e<|za (i:=6) rfl) wn<|H0 _) λh=>by rw[h];rfl) λh=>by rw[h];rfl),λht=>?_⟩;have hE:fl=[]:=by
    rw[zyC,List.isEmpty_iff,List.map_eq_nil_iff]at ht;exact ht.1
   have hE2:1<=c.Ds.length:=by
    rw[zyC,zyC]at ht;have h:=ht.2.1;cases z:c.Ds with
    |nil=>rw[z]at h;exact nomatch h
    |cons a b=>exact Nat.succ_le_succ (Nat.zero_le _)
   refine⟨?_,hE2⟩;refine⟨⟨λa b ha hb=>QB A.j ha hb,he,λa ha=>(pf a a ha ha).u,λa ha=>(pf a a ha ha).v,λa b v ha hb hv=>(pf a b ha hb).s v hv⟩,λq mq=>⟨λk a hk ha=>(rowAt (ZL (A.ds q mq) hk).2 ha).2, ?_,λa i b k ha hi hb hk=>(pf a b ha hb).d q mq i k hi hk⟩⟩
   by_cases hx:yJ q.2 0 c.e=c.e
   . exact hx
   . have:q ∈ fl:=hF ▸ List.mem_filter.mpr ⟨mq,by rw[beq_eq_false_iff_ne.mpr hx];rfl⟩;rw[hE]at this;exact absurd this List.not_mem_nil
 . exact⟨false,zN rfl<|zc s1<|yj ⟨_,yn hr h1,rfl,rfl⟩,λh=>nomatch h⟩
end
def tN(ns:List Int):∃c:Cx,c.Gd/\RE (We [(true,zj ns)]) c.g:=by
 obtain⟨c0,g0,r0⟩:=Ma ns;have e0:∀l,Rt (zy _ (sT (zj ns)::l)) c0.g:=λl=>zF<|yM ⋯ (WD.e zb) r0;obtain⟨t,ht⟩:∃t,WT pQ [sT<|zj ns,none] t:=by
  have wl:WT (fT<|f2 (fP wY yo) zT<|zw .Gt) [sT<|zj ns,none] (decide _):=yF (zY (MC<|WD.e<|za rfl) zb rfl rfl) rfl
  by_cases h:(0:Int)<ns.length
  . obtain⟨v,wv⟩:=v8 (as:=[sT<|zj ns,none]) (za (i:=0) rfl) (zb (x:=.int 0)) (by omega) (by omega);exact⟨_,KA wl (λ_=>eqT (ya wv zb<|by decide) zb rfl) (λz=>by rw[zyO h]at z;exact nomatch z)⟩
  . exact⟨false,KA wl (λz=>by rw[zyG h]at z;exact nomatch z) λ_=>rfl⟩
 cases t with
 |false=>exact⟨c0,g0,zN rfl<|zc (zu ht rfl)<|e0 _⟩
 |true=>
  obtain⟨c,A,s4,sn,rc⟩:=Ku ns;obtain⟨t,rg,hg⟩:=JA A;have s1:zm true 1 (zd wY wK) [sT<|zj ns,none]=some _:=y2 (y8 (WD.e<|za rfl) rc)<|zg rfl;have w:=sQ<|y8 (WD.e<|za (as:=[sT<|zj ns,sT c.g]) (i:=1) rfl) rg;cases t with
  |true=>exact⟨c,⟨⟨A,(hg rfl).1⟩,s4,sn,(hg rfl).2⟩,zN rfl<|yj<|yO ht<|zc s1<|yO w<|zF<|WD.e<|za rfl⟩
  |false=>exact⟨c0,g0,zN rfl<|zc (xf ht<|zt s1<|zu w rfl)<|e0 _⟩
def ug{fr:DF}{as:AS}{xs:List D}(h:WL fr as xs)(hl:Nat.ble xs.length 1000=true):WE (yf fr) as (.tup xs):=by
 obtain⟨os,h1,h2,h3⟩:=h;have e:os.length=xs.length:=by rw[<-h3,ZU]
 exact Cv h1 (by rw[e];exact W6 hl) h2<|congrArg D.tup h3
def Hf{α:Type}{fi:IF}{cap:List (Option Nat)}{gg:GF}{fe:EF}{as:AS}{it:α->xi}{h:α->D}(l:List α)(h1:fi as=some (l.map it,as))(hl:l.length<=1000)(H:∀q ∈ l,∃as1,gg (it q) (Zv cap as)=some as1/\WE fe as1 (h q)):WE (zX fi cap gg yK fe) as (.lst<|l.map h):=by
 obtain⟨os,o1,o2,o3⟩:=Ox l h1 hl H;exact⟨_,o1,o2,congrArg D.lst o3⟩
def rh{as:AS}{i k n:Nat}{T:TZ}(k9:k<=900)(hT:Tab k n T)(h:as[i]? = some (sT<|xZ T)):WE (zX (xX<|fV i) [none] xF yK<|fP wY lstP) as (xZ T):=
 Hf T (Y9 ⋯) (by rw[hT.1];exact q0b k9) λr _=>⟨[sT _],rfl,Ej ⋯⟩
def J8{c:Cx}(h:c.Gd):RE (YJ [(true,c.g)]) c.g:=by
 have A:=h.ok.A;have n8:=A.n8;have m6:=A.m6;have dl:=A.dl;have s4:=h.sl;have s1:Jy [sT c.g,none,none,none,none,none,none]=some (.nx<|G7 c []):=Mx (WD.e<|za rfl) rfl;have s2:qz (G7 c [])=some (.nx<|G7 c []):=y2 (Hf c.Ds (Y9<|WD.e<|za rfl) (q0E dl) λq mq=>⟨_,rfl,yw (WD.e<|za rfl)<|rh (q0C m6) (A.ds q mq) rfl⟩)<|zg rfl;exact zN rfl<|zc s1<|zc s2<|zF<|ug (yb (WD.e<|za rfl)<|yb (WD.e<|za rfl)<|yb (rh (q0g n8) A.j rfl)<|yb (WD.e<|za rfl)<|yb (WD.e<|za rfl)<|yb (Hf c.S (Y9<|WD.e<|za rfl) (by omega) λq mq=>⟨[sT<|.str q.1,sT<|zj q.2],rfl,yw (WD.e<|za (i:=0) rfl)<|Ej<|za (i:=1) rfl⟩) YH) rfl
def EI{a b c:EF}{as:AS}{i j k:Int}{s t u:Bool}(ha:WD a as s (.int i))(hb:WD b as t (.int j))(hc:WD c as u (.int k))(h1:i<=j)(h2:j<=k):WD (GQ a b c (zw .LtE)<|zw .LtE) as true (.bl true):=by
 unfold WD at *;unfold GQ;rw[ha];simp;rw[hb];simp only[RV.frz,O.frz,RV.view,O.toD,O.str,zyL,zw,Bw,AR,FA,h1,h2,hc];rfl
def QI{x k:Int}(h0:0<=x)(h1:x<=k):wU [(true,.int x),(true,.int 0),(true,.int k)]=sT (.bl true):=
 xO rfl (x6<|Ru (k:=true) ⋯ (λ_=>EI ⋯ ⋯ ⋯ h0 h1) ⋯)
def KF{r:List Int}{s t:Bool}(hl:r.length<=1000):RE (xx [(s,zj r),(t,zj r)]) (.bl true):=by
 have i1:WT (fT<|Vc zk "list") [some<|.lf s<|zj r,some<|.lf t<|zj r] true:=rfl;have n2:WT _ [some<|.lf s _,some<|.lf t _] _:=yF (E9 (za (i:=0) rfl) (za (i:=1) rfl)<|A1 r r) rfl;rw[beq_self_eq_true]at n2;have wf:=Ek (as:=[some<|.lf s _,some<|.lf t<|zj r]) (h:=λx:Int=>D.int x) (p:=λ_:Int=>false) (cap:=[none]) (gg:=gN 0) (tt:=UP (fT<|Vc zk "bool")<|wF<|fT<|Vc zk "int") (fe:=fV 0) r (AH (i:=0) rfl) ⋯ λx _=>⟨[sI x],rfl,rfl,λz=>nomatch z⟩;rw[List.filter_eq_nil_iff.mpr λ_ _=>zyV]at wf;exact zN rfl<|zc (zu ⋯ rfl)<|zF<|WD.e<|Hi wf (X4 YH rfl) ⋯
def JS{x:Int}{n:Nat}(n1:1<=n)(n8:n<=8):∃r:List Int,r.length<=59/\(∀v ∈ r,zR n v)/\RE (Qd [(true,.int x),(true,.int n),(true,.int 11)]) (zj r):=by
 have q0:=zyN x (show(12:Int)≠0 by decide);have r0:=zyN (x/512) (show(40:Int)≠0 by decide);have s1:zm true 3 (f2 zk (f2 zv zA zp) zC) [sI x,sI n,sI 11,none]=some _:=zD (i:=3) ⋯ (zg rfl);obtain⟨k,k9,s2⟩:∃k:Nat,k<=59/\qc [sI x,sI n,sI 11,sI<|x%12]=some (.nx [sI x,sI n,sI 11,sI k]):=by
  have wt:WT pB [sI x,sI n,sI 11,sI<|x%12] (x/64%8==1):=eqT ⋯ zb rfl;cases hc:x/64%8==1 with
  |true=>
   rw[hc]at wt;obtain⟨k,ek⟩:∃k:Nat,(k:Int)=20+x/512%40:=⟨(20+x/512%40).toNat,by omega⟩;refine⟨k,by omega,xf wt ?_⟩;rw[ek];exact zD (i:=3) ⋯ (zg rfl)
  |false=>
   rw[hc]at wt;refine⟨(x%12).toNat,by omega,zu wt ?_⟩;rw[zyY q0];rfl
 exact⟨_,by rw[Pw,List.length_replicate];exact k9,FG n1 k _,zN rfl<|zc s1<|zc s2<|zF<|MK (λy my=>by rw[List.eq_of_mem_replicate my];exact q2c n1 n8) (by rw[List.length_replicate];exact q1y k9) (WD.e<|we (za (i:=0) rfl) zb (by decide) ⋯)<|SB (za (i:=1) rfl) (za (i:=3) rfl)<|(q1y k9)⟩
noncomputable abbrev UF:List Str:=["way","trees"]
abbrev yL(c:Cx)(ts:List D):O:=.nd (.ob "Makes" UF) [.lf true c.w,.nd .ls<|ts.map<|O.lf true]
abbrev Kj(c:Cx)(ts:List D):D:=.ob "Makes" UF [c.w,.lst ts]
section
variable{c:Cx}{ts:List D}{as:AS}{i:Nat}
theorem NS:∀ts:List D,(ts.map<|O.lf true).all O.isLf=true
 | []=>rfl
 |_::r=>NS r
def U1:Ry (some<|some<|yL c ts)=some (Kj c ts):=by
 show(if true=true/\(ts.map _).all O.isLf=true/\O.strs _=true then some _ else none)=_;rw[if_pos ⟨rfl,NS ts,ZV ts⟩,VN]
def Wb:(yL c ts).str=true:=by
 show(true&&(O.strs _&&true))=_;rw[ZV];rfl
def Pd{m:Str}{tbl:List (Str×Fn)}{g:Fn}{a:EF}{x:D}{o:O}(h:as[i]? = some (some<|yL c ts))(hm:m ∉ UF)(ht:ES tbl "Makes"=some g)(ha:WE a as x)(hg:g [(true,Kj c ts),(true,x)]=some o)(ho:Ay UF o=true):xa i tbl m (aC a aN) as=some (.ow o,as):=by
 have hr:=yV ha zo;unfold xa;rw[h,U1];show(if m ∈ UF then none else some "Makes":Option Str).bind _=_;rw[if_neg hm];show(ES tbl "Makes").bind _=_;rw[ht];rw[hr];show(Ry as[i]?).bind _=_;rw[h,U1];show(g [_,(zB x||true,x)]).bind _=_;rw[zyD,hg];show(if Ay UF o=true then some _ else none)=_;rw[if_pos ho]
def v_{m:Str}{g:List xi->O->Option (D×O)}{fr:AF}{rs:List RV}{xs:List xi}{v:D}{ts':List D}(h:as[i]? = some (some<|yL c ts))(hm:m ∉ UF)(hr:fr as=some (rs,as))(ha:GE i as rs=some xs)(hg:g xs (yL c ts)=some (v,yL c ts')):wX i "Makes" m g fr as=some (.ow<|.lf true v,as.set i<|some<|yL c ts'):=by
 unfold wX;rw[h];show(if m ∈ UF then none else some "Makes":Option Str).bind _=_;rw[if_neg hm,zyL,hr];show(GE i as rs).bind _=_;rw[ha];rw[h];show(g xs _).bind _=_;rw[hg];show(if(yL c ts').str=true then _ else _)=_;rw[if_pos Wb]
def vS{f:SF}{g:VF}{as1:AS}{x:Option (D×AS)}(h:f as=some (.nx as1))(k:g as1=x):xN f g as=x:=by
 unfold xN
 rwa [h]
def GW{d:D}(hl:ts.length<900):ye [(true,d)] (yL c ts)=some (.int ts.length,yL c<|ts++[d]):=by
 have s1:nF 0 1 wG "trees" [some<|yL c ts,sT d]=some (.nx [some<|yL c<|ts++[d],sT d]):=by
  show(if _ ∈ wG/\("trees":Str)="trees"/\("way":Str)≠"trees"/\(ts.map<|O.lf true).length<sizeLine then some (Out.nx _)else none)=_;rw[if_pos ⟨⋯,rfl,⋯,by rw[zzB];exact slt<|(q0B hl)⟩];show _=some (Out.nx [some<|.nd _ _,sT d]);rw[zyM];rfl
 have w:WD (p8 0 wG "trees") [some<|yL c<|ts++[d],sT d] true (.int ((ts.length+1:Nat):Int)):=by
  show(if("Makes":Str) ∈ wG/\("trees":Str)="trees"/\("way":Str)≠"trees" then some _ else none)=_;rw[zzB,zzJ];rfl
 have w2:=x5 w<|zb (x:=.int 1);rw[show(_:Int)-1=ts.length by omega]at w2;have hv:Zw _=some _:=vS s1 (by
  unfold ZO;rw[w2];rfl)
 show(Zw [some<|yL c ts,sT d]).bind _=_;rw[hv];show(if(yL c<|ts++[d]).str=true then _ else _)=_;rw[if_pos Wb]
def rZ(h:WD (fV i) as true (Kj c ts)):WD (f1 (fV i)<|zU xg "way") as true c.w:=by
 have:=Lo (n:="way") h (by decide +kernel:_ ∈ xg) rfl
 rwa [zyD]at this
def Sm{v:Int}(hv:zR c.n v):RE (Ze [(true,c.w),(true,.int v)]) (.bl true):=by
 have w:WD _ [sT c.w,sI v] true (.int c.n):=⋯;exact zN rfl<|zF<|zW (WD.e ⋯) ⋯ (WD.e ⋯) (RE.of<|QI hv.1 ⋯)
def GA{v:Int}(hv:zR c.n v):yD [(true,Kj c ts),(true,.int v)]=sT .non:=by
 have h:wB (vU 2 [(true,Kj c ts),(true,.int v)])=some _:=zu (ZH<|sQ<|FF ⋯ ⋯ rfl (WD.e ⋯) (Sm hv)) rfl;unfold yD xY;rw[h];rfl
def Va{k:Nat}{d:D}(hk:ts[k]? = some d):RE (yA [(true,Kj c ts),(true,.int k)]) d:=by
 have kl:=(zzG.mp hk).1;have wl:WD Dp [sT<|Kj c ts,sI k] true _:=K2 (WD.e ⋯) rfl;have w:=sQ<|zW (WD.e<|za (i:=1) rfl) (WD.e ⋯) (WD.e<|x5 wl<|zb (x:=.int 1))<|RE.of<|QI ⋯ ⋯;refine zN rfl<|zc (zu (ZH w) rfl)<|zF<|WD.e<|Fj (WD.e ⋯) (WD.e ⋯) ?_;have:=Zy (f:=λd:D=>d) hk
 rwa [List.map_id']at this
end
section
variable{c:Cx}{ts:List D}{as:AS}{i:Nat}{r:List Int}
def rk{s:Bool}(h:as[i]? = some (some<|.lf s<|zj r)):Yi (fV i) as=some (r.map λx=>(true,D.int x),as):=by
 rw[Sn h];unfold kids;rw[zyB];rfl
def Fp{k:Int}(h:k<=300):xU [(true,.int k)]=sT .non:=by
 have h:Yx (vU 1 [(true,.int k)])=some _:=zu (yF ⋯ (by show some (decide _)=_;rw[zyG ⋯])) rfl;unfold xU xY;rw[h];rfl
def OB{s:Bool}(h:c.Ok)(hl:r.length<=300)(hv:c.In r)(tl:ts.length<900):∃d,OT c d r/\vK [(s,zj r)] (yL c ts)=some (.int ts.length,yL c<|ts++[d]):=by
 obtain⟨d,⟨o,t1,t2,t3⟩,hd⟩:=Su h (by omega) hv s;have s1:xk (wF<|fT<|Vc zi "list") IZ xh [some<|yL c ts,some<|.lf s<|zj r,none]=some (.nx _):=zu (ZH (k:=true) rfl) rfl;obtain⟨as',h2,e,rfl⟩:=yW (g:=gN 2) (f:=yc<|xa 0 y9 "check_value" vN) (λ_ as=>∃e,as=[some<|yL c ts,some<|.lf s<|zj r,e]) (r.map λx=>(true,D.int x)) 0 [some<|yL c ts,some<|.lf s<|zj r,none] (λj x as hx hI=>by
  obtain⟨e,rfl⟩:=hI;rw[zzI]at hx;obtain⟨v,hv',rfl⟩:=zzX.mp hx;refine⟨[some<|yL c ts,some<|.lf s<|zj r,sI v],rfl,[some<|yL c ts,some<|.lf s<|zj r,sI v], ?_,_,rfl⟩;unfold yc;rw[Pd (i:=0) (c:=c) rfl (by decide +kernel) rfl (WD.e<|za (i:=2) rfl) (GA<|hv v<|zyA hv') rfl];rfl) ⟨_,rfl⟩
 have s2:=yn (rk (i:=1) (r:=r) rfl) h2;have wl:WD (fP yy yo) [some<|yL c ts,some<|.lf s<|zj r,e] true (.int r.length):=by
  have:=yX (as:=[some<|yL c ts,some<|.lf s<|zj r,e]) (g:=yo) (ze (za (i:=1) (s:=s) rfl) zo) rfl rfl
  rwa [zzB]at this
 have s3:yc (zd (aC (fP yy yo) aN) xU) [some<|yL c ts,some<|.lf s<|zj r,e]=some (.nx [some<|yL c ts,some<|.lf s<|zj r,e]):=by
  unfold yc;have:=O2 (WD.e wl) (Fp<|by omega);rw[this];rfl
 have wy:WD (BV 0 xg "way") [some<|yL c ts,some<|.lf s<|zj r,e] true c.w:=if_pos (c:=("Makes":Str) ∈ xg/\("way":Str)="way") (e:=none) ⟨by decide +kernel,rfl⟩;have wt:=vL (ze wy<|ze (za (i:=1) (s:=s) rfl) zo) t1;have hk:=v_ (i:=0) (c:=c) (ts:=ts) (m:="keep") (g:=ye) rfl (by decide +kernel) (yV ⟨o,wt,t2,t3⟩ zo) (by
  show some [(zB d||true,d)]=_;rw[zyD])<|GW tl
 refine⟨d,hd, ?_⟩;have hc:Zr _=some _:=vS s1 (vS s2<|vS s3<|by
  unfold ZO;rw[hk];rfl)
 show(Zr [some<|yL c ts,some<|.lf s<|zj r,none]).bind _=_;rw[hc];show(if(yL c<|ts++[d]).str=true then _ else _)=_;rw[if_pos Wb]
def FN{k:Nat}{d:D}(h:c.Ok)(hk:ts[k]? = some d)(hd:OT c d r)(hl:r.length<=900):vC [(true,Kj c ts),(true,.int k)]=some (xl r):=by
 obtain⟨o,t1,t2,t3⟩:=Va hk;have wt:WE (Z1 yB "tree_at" zk yy) [sT<|Kj c ts,sI k] d:=FF (za rfl) ⋯ rfl (WD.e<|za rfl) ⟨o,t1,t2,t3⟩;refine xO rfl<|U7 (vL (ze ⋯ (yV wt zo)) ?_) (Xe r).1;show Yr [(true,c.w),(zB d||true,d)]=_;rw[zyD];exact oU h hd (q0b hl)
def J6{k:Nat}{d:D}(hk:ts[k]? = some d)(hd:OT c d r):RE (Zt [(true,Kj c ts),(true,.int k)]) (.int r.length):=
 zN rfl (zF<|y8 (FF ⋯ ⋯ rfl (WD.e ⋯) (Va hk))<|V9 hd)
end
def mI{f:EF}{as:AS}{k:Int}(h:WD f as true (.int k)):oS f as=some (some k,as):=by
 unfold oS;rw[h];rfl
def iH{as:AS}{a b:D}{i j:Nat}(hi:i<as.length)(hj:j<as.length):gT 2 (yQ (gN i)<|yQ (gN j) Yu) (true,.tup [a,b]) as=some ((as.set i<|sT a).set j<|sT b):=by
 show yQ _ _ (kids true [a,b]) as=_;rw[Xs];show(gN i _ as).bind _=_;unfold gN;rw[if_pos hi];show((if j<(as.set i _).length then _ else _:Option AS)).bind _=_;rw[if_pos<|by rwa [zzU]];rfl
def jc{as:AS}{f:EF}{a b:D}{i j:Nat}(h:WE f as (.tup [a,b]))(hi:i<as.length)(hj:j<as.length):YI f (gT 2<|yQ (gN i)<|yQ (gN j) Yu) as=some (.nx<|(as.set i<|sT a).set j<|sT b):=by
 obtain⟨o,h,h1,h2⟩:=h;exact Es h (by rw[h1,h2];exact iH hi hj)
def AX{a b d:EF}{as:AS}{s:Bool}{r:List Int}{i k:Nat}(ha:WD a as s (zj r))(hb:WD b as true (.int i))(hd:WD d as true (.int k))(h1:i<=k)(h2:k<=r.length):WE (Xr a (oS b) (oS d) Wx) as (zj<|(r.take k).drop i):=by
 refine QH ha (mI hb) (mI hd) ?_;show some _=_;unfold PF.cutD;rw[HT.YO,HT.YO,zzB,Nat.min_eq_left h2,Nat.min_eq_left<|zzO h1 h2,List.drop_take,<-List.map_drop,<-List.map_take]
section
variable{c:Cx}{x y d:D}{r s R:List Int}{p q:Nat}{ts:List D}{as:AS}
def HW(h:c.Ok)(k:OT c d R):∃d',RE (xS [(true,c.w),(true,d)]) d'/\OT c d' R.reverse:=by
 rcases k with⟨rfl,rfl⟩|⟨p,k⟩
 . exact⟨.non,zN rfl<|yj<|yO ⋯ ⋯,.n⟩
 . obtain⟨d',a,b⟩:=Qu h k;exact⟨d',a,b.o⟩
def TK.one(k:TK c d R 0):R.length=1:=by
 generalize e:0=p at k;cases k with
 |lf=>rfl
 |nd=>omega
theorem G4(h:c.Ok):∀(n:Nat) {d:D}{R:List Int}{p:Nat}(i:Nat),TK c d R p->p<n->R.length<=1000->i<=R.length->∃a b,RE (xo n [(true,c.w),(true,d),(true,.int i)]) (.tup [a,b])/\OT c a (R.take i)/\OT c b (R.drop i)
 |0,_,_,_,_,_,h,_,_=>absurd h (Nat.not_lt_zero _)
 |n+1,d,R,p,i,k,hp,hl,hi=>by
  have v1:∀a b e,WD zi [sT c.w,sT d,sI i,a,b,e] true d:=λ_ _ _=>za (i:=1) rfl;have v2:∀a b e,WD zv [sT c.w,sT d,sI i,a,b,e] true (.int i):=λ_ _ _=>za (i:=2) rfl;have wy:∀a b e,WE zk [sT c.w,sT d,sI i,a,b,e] c.w:=λ_ _ _=>WD.e<|za (i:=0) rfl;have eqN:∀{f g:EF}{as:AS}{a b:Nat},WD f as true (.int a)->WD g as true (.int b)->WT (fT<|f2 f g<|zw .Eq) as (decide (a=b)):=λ{f g as a b} h1 h2=>yF (Gs (c:=decide (a=b)) h1 h2 (by
   show some ((a:Int)==b)=_
   by_cases z:a=b
   . subst z;rw[zyO rfl,beq_self_eq_true]
   . rw[zyG z,beq_eq_false_iff_ne.mpr<|(q1u z)])) rfl
  have t1:=eqN (v2 none none none)<|zb (x:=.int (0:Nat));have t2:=eqN (v2 none none none)<|k.size<|v1 none none none
  by_cases e0:i=0
  . rw[zyO e0]at t1;subst e0;exact⟨.non,d,zN rfl<|yj<|yO t1<|zF<|yw (WD.e zb)<|WD.e<|v1 _ _ _,.n,k.o⟩
  rw[zyG e0]at t1
  by_cases e1:i=R.length
  . rw[zyO e1]at t2;refine⟨d,.non,zN rfl<|zc (zu t1 rfl)<|yj<|yO t2<|zF<|yw (WD.e<|v1 _ _ _)<|WD.e zb, ?_, ?_⟩
    . rw[e1,List.take_length];exact k.o
    . rw[e1,List.drop_length];exact .n
  rw[zyG e1]at t2;have p0:p≠0:=λz=>by subst z;have:=k.one;omega
  obtain⟨x,y,r,s,u,v,k0,k1,k2,_,_,rfl,rfl⟩:=ZF h k p0;rw[zzJ]at hl hi e1;have s3:=y2 (p:=3) (yM (wy none none none) (WD.e<|v1 _ _ _) k0)<|zg rfl;have u0:∀b e,WD (f2 zz zT zx) [sT c.w,sT d,sI i,sT<|.tup [x,y],b,e] true x:=λ_ _=>xT (j:=3) rfl rfl;have u1:∀b e,WD (f2 zz zA zx) [sT c.w,sT d,sI i,sT<|.tup [x,y],b,e] true y:=λ_ _=>xT (j:=3) rfl rfl;have s4:=zD (i:=4) (st:=true) (k1.size<|u0 none none)<|zg rfl;have v4:∀e,WD zP [sT c.w,sT d,sI i,sT<|.tup [x,y],sI r.length,e] true (.int r.length):=λ_=>za (i:=4) rfl;have t5:=yF (ND (v2 (sT<|.tup [x,y]) (sI r.length) none)<|v4 none) rfl
  by_cases g:i<r.length
  . rw[zyO<|(q0j g)]at t5;obtain⟨a,b,a1,a2,a3⟩:=G4 h n i k1 (by omega) (q1p hl) (q0t g);obtain⟨f,f1,f2⟩:=LI h a3 k2.o (by rw[List.length_drop];omega) (by omega);have s5:=y2 (p:=5) (zW (wy _ _ _) (WD.e<|u0 (sI r.length) none) (WD.e<|v2 _ _ _) a1)<|zg rfl;refine⟨a,f,zN rfl<|zc (zu t1 rfl)<|zc (zu t2 rfl)<|zc s3<|zc s4<|yj<|yO t5<|zc s5<|zF<|yw (WD.e<|xT (j:=5) rfl rfl)<|zW (wy _ _ _) (WD.e<|xT (j:=5) rfl rfl) (WD.e<|u1 _ _) f1, ?_, ?_⟩
    . rw[List.take_append_of_le_length<|(q0t g)];exact a2
    . rw[List.drop_append_of_le_length<|(q0t g)];exact f2
  . rw[zyG<|by omega]at t5;obtain⟨a,b,a1,a2,a3⟩:=G4 h n (i-r.length) k2 (by omega) (by omega) (by omega);obtain⟨f,f1,f2⟩:=LI h k1.o a2 (q1p hl) (by rw[zzS];omega);have ws:=x5 (v2 (sT<|.tup [x,y]) (sI r.length) none)<|v4 none;rw[show(i:Int)-r.length=((i-r.length:Nat):Int) by omega]at ws;have s5:=y2 (p:=5) (zW (wy _ _ _) (WD.e<|u1 _ _) (WD.e ws) a1)<|zg rfl;refine⟨f,b,zN rfl<|zc (zu t1 rfl)<|zc (zu t2 rfl)<|zc s3<|zc s4<|zc (zu t5 rfl)<|zc s5<|zF<|yw (zW (wy _ _ _) (WD.e<|u0 _ _) (WD.e<|xT (j:=5) rfl rfl) f1)<|WD.e<|xT (j:=5) rfl rfl, ?_, ?_⟩
    . rw[List.take_append,List.take_of_length_le<|(q0D g)];exact f2
    . rw[List.drop_append,List.drop_of_length_le (q0D g),List.nil_append];exact a3
def Me(h:c.Ok)(k:OT c d R)(i:Nat)(hl:R.length<=1000)(hi:i<=R.length):∃a b,RE (xo 20 [(true,c.w),(true,d),(true,.int i)]) (.tup [a,b])/\OT c a (R.take i)/\OT c b (R.drop i):=by
 rcases k with⟨rfl,rfl⟩|⟨p,k⟩
 . cases Nat.le_zero.mp hi;exact⟨.non,.non,zN rfl<|yj<|yO ⋯ (zF<|yw ⋯ (WD.e ⋯)),.n,.n⟩
 . exact G4 h 20 i k (k.lt hl) hl hi
theorem SK(k:Nat):∀r:List Int,(r.map D.int).all (nc UF<|k+1)=true
 | []=>rfl
 |_::r=>SK k r
theorem Sv(k:Nat):∀T:TZ,(T.map W4).all (nc UF<|k+2)=true
 | []=>rfl
 |r::T=>by
  show(((r.map D.int).all _)&&(T.map W4).all _)=_;rw[SK,Sv k T];rfl
theorem TK.nc(k:TK c d R p):∀j,p+4<=j->nc UF j d=true:=by
 induction k with
 |lf v t _=>
  intro j hj;obtain⟨j,rfl⟩:∃i,j=i+2:=⟨j-2,⋯⟩;rfl
 | @nd w t x y r s p q R a b _ _ hw e i1 i2=>
  intro j hj;obtain⟨j,rfl⟩:∃i,j=i+4:=⟨j-4,⋯⟩;have h1:=i1 (j+3) ⋯;have h2:=i2 (j+3) ⋯;have h3:PF.nc UF (j+3) (Rq w)=true:=by
   cases w with
   |none=>rfl
   |some T=>exact Sv j T
  show(decide _&&(true&&(true&&(PF.nc UF _ _&&(true&&(PF.nc UF _ x&&(PF.nc UF _ y&&_)))))))=_;rw[h1,h2,h3];rfl
theorem OT.nc(k:OT c d R)(hl:R.length<=1000){j:Nat}(hj:24<=j):nc UF j d=true:=by
 rcases k with⟨rfl,_⟩|⟨p,k⟩
 . obtain⟨j,rfl⟩:∃i,j=i+1:=⟨j-1,⋯⟩;rfl
 . exact k.nc j (by have:=k.lt hl;omega)
def Cu{x a b:Int}(h0:a<=x)(h1:x<=b):wU [(true,.int x),(true,.int a),(true,.int b)]=sT (.bl true):=
 xO rfl (x6<|Ru (k:=true) ⋯ (λ_=>EI ⋯ ⋯ ⋯ h0 h1) ⋯)
def B6{x a b:Int}(h0:a<=x)(h1:x<=b):yY [(true,.int x),(true,.int a),(true,.int b)]=sT .non:=by
 have h:Z5 (vU 3 [(true,.int x),(true,.int a),(true,.int b)])=some _:=zu (ZH<|sQ<|WD.e<|HB (WD.e ⋯) (WD.e ⋯) (WD.e ⋯)<|Cu h0 h1) rfl;unfold yY xY;rw[h];rfl
def Kw{f g h:EF}{x a b:Int}(wf:WE f as (.int x))(wg:WE g as (.int a))(wh:WE h as (.int b))(h0:a<=x)(h1:x<=b):yc (zd (aC f<|aC g<|aC h aN) yY) as=some (.nx as):=by
 have:=HB wf wg wh<|B6 h0 h1;unfold yc;rw[this];rfl
def RD(h:c.Ok){k:Nat}(hk:ts[k]? = some d)(hd:OT c d R)(hl:R.length<=900){i j:Nat}(h1:i<=j)(h2:j<=R.length):∃x y z,y7 [(true,Kj c ts),(true,.int k),(true,.int i),(true,.int j)]=sT (.tup [x,y,z])/\OT c x (R.take i)/\OT c y ((R.take j).drop i)/\OT c z (R.drop j):=by
 obtain⟨a,z,a1,a2,a3⟩:=Me h hd j (q0b hl) h2;obtain⟨x,y,b1,b2,b3⟩:=Me h a2 i (by rw[zzS];omega) (by rw[zzS];omega);have wt:WE (Z1 yB "tree_at" zk yy) [sT<|Kj c ts,sI k,sI i,sI j,none,none,none] d:=FF (za (i:=0) rfl) (by decide +kernel) rfl (WD.e<|za (i:=1) rfl)<|Va hk;have s4:=y2 (p:=4) wt<|zg rfl;have ws:WE (zd (aC zP aN) yS) [sT<|Kj c ts,sI k,sI i,sI j,sT d,none,none] (.int R.length):=y8 (WD.e<|za (i:=4) rfl)<|V9 hd;have s5:=Kw (WD.e<|za (i:=2) (s:=true) (x:=.int i) rfl) (WD.e<|zb (x:=.int 0)) ws (q0a) (by omega);have s6:=Kw (WD.e<|za (i:=3) (s:=true) (x:=.int j) rfl) (WD.e<|za (i:=2) (s:=true) (x:=.int i) rfl) ws (q0T h1) (q0T h2);have s7:=y2 (p:=5) (as:=[sT<|Kj c ts,sI k,sI i,sI j,sT d,none,none]) (zW (WD.e<|rZ<|za (i:=0) rfl) (WD.e<|za (i:=4) rfl) (WD.e<|za (i:=3) rfl) a1)<|zg rfl;have s8:=y2 (p:=6) (as:=[sT<|Kj c ts,sI k,sI i,sI j,sT d,sT<|.tup [a,z],none]) (zW (WD.e<|rZ<|za (i:=0) rfl) (WD.e<|xT (j:=5) (i:=0) rfl rfl) (WD.e<|za (i:=2) rfl) b1)<|zg rfl;rw[List.take_take,Nat.min_eq_left h1]at b2;exact⟨x,y,z,xO rfl<|zt s4<|zt s5<|zt s6<|zt s7<|zt s8<|x6<|uM (zE (xT (j:=6) rfl rfl)<|zE (xT (j:=6) rfl rfl)<|zE (xT (j:=5) rfl rfl) yG) (W6 rfl) rfl,b2,b3,a3⟩
def QE{f:EF}{x:D}(h:WE f as x):WD (P7 f) as true x:=by
 obtain⟨o,h1,h2,h3⟩:=h;unfold WD P7;rw[h1];show some (RV.ow<|.lf o.str o.toD,as)=_;rw[h2,h3]
def MD(h:c.Ok){u v w:D}{a b e:List Int}(ha:OT c u a)(hb:OT c v b)(he:OT c w e)(hl:a.length+b.length+e.length<=900):∃d,zK [(true,Kj c ts),(true,u),(true,v),(true,w)]=sT d/\OT c d (a++b++e):=by
 obtain⟨d1,p1,p2⟩:=LI h ha hb ⋯ ⋯;obtain⟨d,q1,q2⟩:=LI h p2 he (by rw[zzJ];omega) ⋯;exact⟨d,xO rfl<|x6<|QE<|zW (WD.e ⋯) (zW (WD.e ⋯) (WD.e ⋯) (WD.e ⋯) p1) (WD.e ⋯) q1,q2⟩
end
section
variable{c:Cx}{ts:List D}{as:AS}{i:Nat}{d:D}{R:List Int}{k:Nat}
def Wv{m:Str}{tbl:List (Str×Fn)}{g:Fn}{fr:AF}{xs:List (Bool×D)}{o:O}(h:as[i]? = some (some<|yL c ts))(hm:m ∉ UF)(ht:ES tbl "Makes"=some g)(b:WA fr as xs)(hg:g ((true,Kj c ts)::xs.map λx=>(zB x.2||x.1,x.2))=some o)(ho:Ay UF o=true):xa i tbl m fr as=some (.ow o,as):=by
 unfold xa;rw[h,U1];show(if m ∈ UF then none else some "Makes":Option Str).bind _=_;rw[if_neg hm];show(ES tbl "Makes").bind _=_;rw[ht];rw[b];show(Ry as[i]?).bind _=_;rw[h,U1];rw[Yo];show(g _).bind _=_;rw[hg];show(if Ay UF o=true then some _ else none)=_;rw[if_pos ho]
def JW(h:as[0]? = some (some<|yL c ts)):WD (BV 0 xg "way") as true c.w:=by
 unfold WD BV;rw[h];exact if_pos ⋯
def HI{fr:AF}{d:D}(h:as[0]? = some (some<|yL c ts))(hr:WA fr as [(true,d)])(tl:ts.length<900):ZO (wX 0 "Makes" "keep" ye fr) as=some (.int ts.length,as.set 0<|some<|yL c<|ts++[d]):=by
 have hk:=v_ (m:="keep") h ⋯ hr (by
  show some [(zB d||true,d)]=_;rw[zyD]) (GW tl)
 unfold ZO;rw[hk];rfl
def iN{as1:AS}{a b:EF}{x y:D}(ha:WD a as true x)(hb:b as=some (.ow<|.lf true y,as1)):dC a (dC b dN) as=some ([.lf true x,.lf true y],as1):=by
 show(a as).bind _=_;rw[ha];show((b as).bind _).bind _=_;rw[hb];rfl
def Au{fr:AF}{d:D}(h:as[0]? = some (some<|yL c ts))(hr:WA fr as [(true,d)])(tl:ts.length<900):wX 0 "Makes" "keep" ye fr as=some (.ow<|.lf true<|.int ts.length,as.set 0<|some<|yL c<|ts++[d]):=
 v_ h ⋯ hr (by
  show some [(zB d||true,d)]=_;rw[zyD]) (GW tl)
def nY{n m:Nat}{f:VF}{xs:List xi}{ts':List D}{v:D}{l:AS}(hn:xs.length+1=m)(hc:f (wj n (yL c ts::xs.map M0))=some (v,some (yL c ts')::l)):JO n m f xs (yL c ts)=some (v,yL c ts'):=by
 unfold JO;rw[if_pos hn];rw[hc];show(if(yL c ts').str=true then _ else _)=_;rw[if_pos Wb]
def W7{k:Nat}{d:D}(hk:ts[k]? = some d):yA [(true,Kj c ts),(true,.int k)]=sT d:=by
 have kl:=(zzG.mp hk).1;have wl:WD Dp [sT<|Kj c ts,sI k] true _:=K2 (WD.e ⋯) rfl;have w:=sQ<|zW (WD.e<|za (i:=1) rfl) (WD.e ⋯) (WD.e<|x5 wl<|zb (x:=.int 1))<|RE.of<|QI ⋯ ⋯;refine xO rfl<|zt (zu (ZH w) rfl)<|x6<|Fj (WD.e ⋯) (WD.e ⋯) ?_;have:=Zy (f:=λd:D=>d) hk
 rwa [List.map_id']at this
def RW{x y z:D}{a b e:List Int}(ha:OT c x a)(hb:OT c y b)(he:OT c z e)(l1:a.length<=1000)(l2:b.length<=1000)(l3:e.length<=1000):Ay UF (.lf true<|.tup [x,y,z])=true:=by
 show(PF.nc UF 59 x&&(PF.nc UF 59 y&&(PF.nc UF 59 z&&true)))=_;rw[ha.nc l1 ⋯,hb.nc l2 ⋯,he.nc l3 ⋯];rfl
section
variable(h:c.Ok)(hk:ts[k]? = some d)(hd:OT c d R)(hl:R.length<=900){i j:Nat}(h1:i<=j)(h2:j<=R.length)(tl:ts.length<900)
include h hk hd hl h1 h2 tl
def Et:∃d',OT c d' (R.take i++((R.take j).drop i).reverse++R.drop j)/\xI [(true,.int k),(true,.int i),(true,.int j)] (yL c ts)=some (.int ts.length,yL c<|ts++[d']):=by
 obtain⟨x,y,z,t1,ox,oy,oz⟩:=RD h hk hd hl h1 h2;obtain⟨y',r1,oy'⟩:=HW h oy;have lx:(R.take i).length<=900:=by rw[zzS];exact q0Y hl
 have ly:((R.take j).drop i).length<=900:=by rw[List.length_drop,zzS];exact q0P hl h2
 have lz:(R.drop j).length<=900:=by rw[List.length_drop];exact q1f hl h2
 obtain⟨d',g1,od⟩:=MD h ox oy' oz (by rw[List.length_reverse,List.length_drop,zzS,zzS,List.length_drop];omega);have w1:WD Jp [some<|yL c ts,sI k,sI i,sI j,none] true (.tup [x,y,z]):=Wv (c:=c) rfl (by decide +kernel) rfl (ze (za (i:=1) rfl)<|ze (za (i:=2) rfl)<|ze (za (i:=3) rfl) zo) t1 (RW ox oy oz (q0b lx) (q0b ly)<|(q0b lz));have s1:=zD (st:=true) (i:=4) w1<|zg rfl;have wy:WD (BV 0 xg "way") [some<|yL c ts,sI k,sI i,sI j,sT<|.tup [x,y,z]] true c.w:=JW rfl;have w3:=yM (WD.e wy) (WD.e<|xT (j:=4) (i:=1) (z:=y) rfl rfl) r1;have w4:WD p_ [some<|yL c ts,sI k,sI i,sI j,sT<|.tup [x,y,z]] true d':=by
  refine Wv (c:=c) (g:=zK) rfl (by decide +kernel) rfl (ze (xT (j:=4) rfl rfl)<|yV w3<|ze (xT (j:=4) rfl rfl) zo) ?_ (od.nc (by rw[zzJ,zzJ,List.length_reverse,List.length_drop,zzS,zzS,List.length_drop];omega)<|by omega);show zK [_,(zB x||true,x),(zB y'||true,y'),(zB z||true,z)]=_
  rwa [zyD,zyD,zyD]
 exact⟨d',od,nY (l:=_) rfl<|vS s1<|HI rfl (ze w4 zo) tl⟩
def C3(t8:ts.length<800):∃d1 d2,OT c d1 ((R.take j).drop i)/\OT c d2 (R.take i++R.drop j)/\v9 [(true,.int k),(true,.int i),(true,.int j)] (yL c ts)=some (.tup [.int ts.length,.int (ts.length+1:Nat)],yL c<|ts++[d1]++[d2]):=by
 obtain⟨x,y,z,t1,ox,oy,oz⟩:=RD h hk hd hl h1 h2;have lx:(R.take i).length<=900:=by rw[zzS];exact q0Y hl
 have ly:((R.take j).drop i).length<=900:=by rw[List.length_drop,zzS];exact q0P hl h2
 have lz:(R.drop j).length<=900:=by rw[List.length_drop];exact q1f hl h2
 obtain⟨d',g1,od⟩:=LI h ox oz (q0b lx) (q0b lz);have w1:WD Jp [some<|yL c ts,sI k,sI i,sI j,none,none] true (.tup [x,y,z]):=Wv (c:=c) rfl (by decide +kernel) rfl (ze (za (i:=1) rfl)<|ze (za (i:=2) rfl)<|ze (za (i:=3) rfl) zo) t1 (RW ox oy oz (q0b lx) (q0b ly)<|(q0b lz));have s1:=zD (st:=true) (i:=4) w1<|zg rfl;have k1:=Au (c:=c) (as:=[some<|yL c ts,sI k,sI i,sI j,sT<|.tup [x,y,z],none]) rfl (ze (xT (j:=4) (i:=1) (z:=y) rfl rfl) zo) (by omega);have s2:zm true 5 (wX 0 "Makes" "keep" ye<|aC (f2 zP zA zx) aN) [some<|yL c ts,sI k,sI i,sI j,sT<|.tup [x,y,z],none]=some (.nx [some<|yL c<|ts++[y],sI k,sI i,sI j,sT<|.tup [x,y,z],sI ts.length]):=by
  unfold zm;rw[k1];rfl
 have w3:=zW (WD.e<|JW (c:=c) (as:=[some<|yL c<|ts++[y],sI k,sI i,sI j,sT<|.tup [x,y,z],sI ts.length]) rfl) (WD.e<|xT (j:=4) (i:=0) (z:=x) rfl rfl) (WD.e<|xT (j:=4) (i:=2) (z:=z) rfl rfl) g1;have k2:=Au (c:=c) rfl (yV w3 zo) (by rw[zzJ];show ts.length+1<900;omega);rw[show(ts++[y]).length=ts.length+1 from zzJ]at k2;have s3:ZO (yf<|dC yq nA) [some<|yL c<|ts++[y],sI k,sI i,sI j,sT<|.tup [x,y,z],sI ts.length]=some (.tup [.int ts.length,.int (ts.length+1:Nat)],[some<|yL c<|ts++[y]++[d'],sI k,sI i,sI j,sT<|.tup [x,y,z],sI ts.length]):=by
  have e:=iN (za (i:=5) rfl) k2;unfold ZO yf;rw[e];rfl
 exact⟨y,d',oy,od,nY (l:=_) rfl<|vS s1<|vS s2 s3⟩
omit h1 h2 in
theorem L0{v:Int}(hi:i<R.length)(hv:zR c.n v):∃d',OT c d' (R.take i++[v]++R.drop (i+1))/\xu [(true,.int k),(true,.int i),(true,.int v)] (yL c ts)=some (.int ts.length,yL c<|ts++[d']):=by
 obtain⟨x,y,z,t1,ox,oy,oz⟩:=RD h hk hd hl (show i<=i+1 from q0U) (by omega);obtain⟨y',r1,oy'⟩:=Su h (r:=[v]) (by show 1<=_;omega) (λw mw=>by rw[zzR.mp mw];exact hv) true;have lx:(R.take i).length<=900:=by rw[zzS];omega
 have ly:((R.take<|i+1).drop i).length<=900:=by rw[List.length_drop,zzS];omega
 have lz:(R.drop<|i+1).length<=900:=by rw[List.length_drop];omega
 obtain⟨d',g1,od⟩:=MD (ts:=ts) h ox oy' oz (by rw[zzS,List.length_drop];show _+1+_<=_;omega);have w0:WD (xa 0 yB "tree_at" yy) [some<|yL c ts,sI k,sI i,sI v,none,none] true d:=Wv (c:=c) (ts:=ts) (g:=yA) rfl (by decide +kernel) rfl (ze (za (i:=1) rfl) zo) (W7 hk) (hd.nc (q0b hl)<|by omega);have s0:=zD (st:=true) (i:=4) w0<|zg rfl;have ws:WD (f2 (zd (aC zP aN) yS) zA yp) [some<|yL c ts,sI k,sI i,sI v,sT d,none] true (.int<|R.length-1):=x5 (Ac rfl<|y8 (WD.e<|za (i:=4) rfl)<|V9 hd) zb;have s1:=Kw (WD.e<|za (i:=2) (s:=true) (x:=.int i) rfl) (WD.e<|zb (x:=.int 0)) (WD.e ws) (q0a) (by omega);have s2:yc (xa 0 y9 "check_value" Zd) [some<|yL c ts,sI k,sI i,sI v,sT d,none]=some (.nx [some<|yL c ts,sI k,sI i,sI v,sT d,none]):=by
  unfold yc;rw[Pd (i:=0) (c:=c) (ts:=ts) (tbl:=y9) (g:=yD) (o:=.lf true .non) rfl (by decide +kernel) rfl (WD.e<|za (i:=3) rfl) (GA hv) rfl];rfl
 have w1:WD rG [some<|yL c ts,sI k,sI i,sI v,sT d,none] true (.tup [x,y,z]):=Wv (c:=c) (ts:=ts) (g:=y7) rfl (by decide +kernel) rfl (ze (za (i:=1) rfl)<|ze (za (i:=2) rfl)<|ze (zM (za (i:=2) rfl)<|zb (x:=.int 1)) zo) t1 (RW ox oy oz (q0b lx) (q0b ly)<|(q0b lz));have s3:=zD (st:=true) (i:=5) w1<|zg rfl;have wy:WD (BV 0 xg "way") [some<|yL c ts,sI k,sI i,sI v,sT d,sT<|.tup [x,y,z]] true c.w:=JW rfl;have w3:=yM (g:=wV 20) (WD.e wy) (xB (os:=[ZZ v]) (x:=zj [v]) (zE (za (i:=3) rfl) yG) (W6 rfl) rfl rfl) r1;have w4:WD oT [some<|yL c ts,sI k,sI i,sI v,sT d,sT<|.tup [x,y,z]] true d':=by
  refine Wv (c:=c) (ts:=ts) (g:=zK) rfl (by decide +kernel) rfl (ze (xT (j:=5) rfl rfl)<|yV w3<|ze (xT (j:=5) rfl rfl) zo) ?_ (od.nc (by rw[zzJ,zzJ,zzS,List.length_drop];show _+1+_<=_;omega)<|by omega);show zK [_,(zB x||true,x),(zB y'||true,y'),(zB z||true,z)]=_;rw[zyD,zyD,zyD];exact g1
 exact⟨d',od,nY (l:=_) rfl<|vS s0<|vS s1<|vS s2<|vS s3<|HI rfl (ze w4 zo) tl⟩
omit h1 h2 in
theorem IS{q:Nat}{d2:D}{Q:List Int}(hi:i<=R.length)(hq:ts[q]? = some d2)(hd2:OT c d2 Q)(lq:R.length+Q.length<=300):∃d',OT c d' (R.take i++Q++R.drop i)/\xJ [(true,.int k),(true,.int i),(true,.int q)] (yL c ts)=some (.int ts.length,yL c<|ts++[d']):=by
 obtain⟨x,z,a1,ox,oz⟩:=Me h hd i (q0b hl) hi;obtain⟨d',g1,od⟩:=MD (ts:=ts) h ox hd2 oz (by rw[zzS,List.length_drop];omega);have w0:WD (xa 0 yB "tree_at" yy) [some<|yL c ts,sI k,sI i,sI q,none,none,none] true d:=Wv (c:=c) (ts:=ts) (g:=yA) rfl (by decide +kernel) rfl (ze (za (i:=1) rfl) zo) (W7 hk) (hd.nc (q0b hl)<|by omega);have s0:=zD (st:=true) (i:=4) w0<|zg rfl;have w1:WD (xa 0 yB "tree_at" Zd) [some<|yL c ts,sI k,sI i,sI q,sT d,none,none] true d2:=Wv (c:=c) (ts:=ts) (g:=yA) rfl (by decide +kernel) rfl (ze (za (i:=3) rfl) zo) (W7 hq) (hd2.nc (by omega)<|by omega);have s1:=zD (st:=true) (i:=5) w1<|zg rfl;have z1:WE (zd (aC zP aN) yS) [some<|yL c ts,sI k,sI i,sI q,sT d,sT d2,none] (.int R.length):=y8 (WD.e<|za (i:=4) rfl)<|V9 hd;have z2:WE (zd Py yS) [some<|yL c ts,sI k,sI i,sI q,sT d,sT d2,none] (.int Q.length):=y8 (WD.e<|za (i:=5) rfl)<|V9 hd2;have s2:=Kw (WD.e<|za (i:=2) (s:=true) (x:=.int i) rfl) (WD.e<|zb (x:=.int 0)) z1 (q0a) (q0T hi);have s3:yc uW [some<|yL c ts,sI k,sI i,sI q,sT d,sT d2,none]=some (.nx [some<|yL c ts,sI k,sI i,sI q,sT d,sT d2,none]):=by
  unfold yc;have:=O2 (WD.e<|zM (Ac rfl z1)<|Ac rfl z2) (Fp<|by omega);unfold WD at this;unfold uW;rw[this];rfl
 have s4:=y2 (p:=6) (as:=[some<|yL c ts,sI k,sI i,sI q,sT d,sT d2,none]) (zW (WD.e<|JW (c:=c) (ts:=ts) rfl) (WD.e<|za (i:=4) rfl) (WD.e<|za (i:=2) rfl) a1)<|zg rfl;have w4:WD rS [some<|yL c ts,sI k,sI i,sI q,sT d,sT d2,sT<|.tup [x,z]] true d':=Wv (c:=c) (ts:=ts) (g:=zK) rfl (by decide +kernel) rfl (ze (xT (j:=6) rfl rfl)<|ze (za (i:=5) rfl)<|ze (xT (j:=6) rfl rfl) zo) (by
  show zK [_,(zB x||true,x),(zB d2||true,d2),(zB z||true,z)]=_
  rwa [zyD,zyD,zyD]) (od.nc (by rw[zzJ,zzJ,zzS,List.length_drop];omega)<|by omega)
 exact⟨d',od,nY (l:=_) rfl<|vS s0<|vS s1<|vS s2<|vS s3<|vS s4<|HI rfl (ze w4 zo) tl⟩
end
end
def J1{a b:EF}{as:AS}{s:Bool}{r:List Int}{k:Nat}(ha:WD a as s (zj r))(hb:WD b as true (.int k))(hk:k<=r.length):WE (Xr a oN (oS b) Wx) as (zj<|r.take k):=by
 have c1:=S9 (xs:=(r.take k).map D.int) (ys:=(r.drop k).map D.int);rw[<-zyM,List.take_append_drop,zzB,zzS,Nat.min_eq_left hk]at c1;exact QH ha rfl (mI hb) c1
def Kd{a b:EF}{as:AS}{s:Bool}{r:List Int}{k:Nat}(ha:WD a as s (zj r))(hb:WD b as true (.int k))(hk:k<=r.length):WE (Xr a (oS b) oN Wx) as (zj<|r.drop k):=by
 have c1:=Ng (xs:=(r.take k).map D.int) (ys:=(r.drop k).map D.int);rw[<-zyM,List.take_append_drop,zzB,zzS,Nat.min_eq_left hk]at c1;exact QH ha (mI hb) rfl c1
def Vb{a b:EF}{as:AS}{r s:List Int}(ha:WE a as (zj r))(hb:WE b as (zj s))(hl:r.length+s.length<=1000):WE (f2 a b zp) as (zj<|r++s):=by
 have:=SN ha hb (add_lists<|by rw[zzB,zzB];exact B5 ⋯)
 rwa [<-zyM]at this
def jT{r:Option O}{d:D}(hd:zB d=true)(h:RE r d):r=sT d:=by
 obtain⟨o,h,h1,h2⟩:=h;cases o with
 |lf s x=>subst h2;rwa [show s=true from h1]at h
 |nd k os=>subst h2;cases k<;>cases hd
abbrev UA(rs:TZ):List O:=(rs.map zj).map<|O.lf true
theorem Ah:∀r:List Int,Ay UF (xl r)=true
 | []=>rfl
 |_::r=>Ah r
def Ea{as:AS}{i:Nat}{rs:TZ}{b:EF}{k:Nat}{r:List Int}(h:as[i]? = some (sN<|UA rs))(hb:WD b as true (.int k))(hr:rs[k]? = some r):WD (f2 (fV i) b zx) as true (zj r):=
 uw h (NS _) (ZV _) hb (by rw[VN];exact Zy hr)
def gq{as:AS}{a b d:D}{i j k:Nat}(hi:i<as.length)(hj:j<as.length)(hk:k<as.length):gT 3 (yQ (gN i)<|yQ (gN j)<|yQ (gN k) Yu) (true,.lst [a,b,d]) as=some (((as.set i<|sT a).set j<|sT b).set k<|sT d):=by
 show yQ _ _ (kids true [a,b,d]) as=_;rw[Xs];show(gN i _ as).bind _=_;unfold gN;rw[if_pos hi];show((if j<(as.set i _).length then _ else _:Option AS)).bind _=_;rw[if_pos<|by rwa [zzU]];show((if k<((as.set i _).set j _).length then _ else _:Option AS)).bind _=_;rw[if_pos<|by rwa [zzU,zzU]];rfl
def F6(x:Int)(n:Nat)(hn:n<=1000):∃i j:Nat,i<=j/\j<=n/\RE (YU [(true,.int x),(true,.int n)]) (.tup [.int i,.int j]):=by
 have wd:=MK (a:=fV 0) (as:=[sI x,sI n,none,none,none]) (x:=x) (sz:=[27720,27720,5]) (by decide) (by decide) (WD.e<|za (i:=0) rfl)<|X4 (yb (WD.e zb)<|yb (WD.e zb)<|yb (WD.e zb) YH) rfl;obtain⟨o,d1,d2,d3⟩:=wd;have s1:=Es d1 (by rw[d2,d3];exact gq (i:=2) (j:=3) (k:=4) (zg rfl) (zg rfl)<|zg rfl);generalize x%27720=a at s1;generalize x/27720%27720=b at s1;generalize x/27720/27720%5=k at s1;have hm:∀y:Int,∃q:Nat,y%(n+1)=q/\q<=n:=λy=>by
  have h0:=zyN y (show(n:Int)+1≠0 by omega);have h1:=zyH y (show(0:Int)<n+1 from q0R hn);exact⟨(y%(n+1)).toNat,by omega,by omega⟩
 obtain⟨p,ep,pn⟩:=hm a;obtain⟨q,eq,qn⟩:=hm b;have s2:=zD (st:=true) (i:=2) (ya (za (as:=[sI x,sI n,sI a,sI b,sI k]) (i:=2) (x:=.int a) (s:=true) rfl) (zM (za (i:=1) (x:=.int n) (s:=true) rfl)<|zb (x:=.int 1))<|(q0R hn))<|zg rfl;rw[ep]at s2;have s3:=zD (st:=true) (i:=3) (ya (za (as:=[sI x,sI n,sI p,sI b,sI k]) (i:=3) (x:=.int b) (s:=true) rfl) (zM (za (i:=1) (x:=.int n) (s:=true) rfl)<|zb (x:=.int 1))<|(q0R hn))<|zg rfl;rw[eq]at s3;have e4:∀z,WT (fT<|f2 zP (fC<|.int z)<|zw .Eq) [sI x,sI n,sI p,sI q,sI k] (k==z):=λz=>eqT (za (i:=4) rfl) zb rfl;have v1:WD zi [sI x,sI n,sI p,sI q,sI k] true (.int n):=za (i:=1) rfl;have v2:WD zv [sI x,sI n,sI p,sI q,sI k] true (.int p):=za (i:=2) rfl;have v3:WD zz [sI x,sI n,sI p,sI q,sI k] true (.int q):=za (i:=3) rfl;have t0:=e4 0;cases z0:k==0 with
 |true=>
  rw[z0]at t0;exact⟨0,n,by omega,by omega,zN rfl<|zc s1<|zc s2<|zc s3<|yj<|yO t0<|zF<|yw (WD.e zb)<|WD.e v1⟩
 |false=>
  rw[z0]at t0;have t1:=e4 1;cases z1:k==1 with
  |true=>
   rw[z1]at t1;have w:=yX (g:=P6) (x:=.int (min (p+1) n:Nat)) (ze (zM v2<|zb (x:=.int 1))<|ze v1 zo) (by
    show some (R0.im<|.int<|if(n:Int)<(p:Int)+1 then(n:Int)else(p:Int)+1)=_;rw[show(if(n:Int)<(p:Int)+1 then(n:Int)else(p:Int)+1)=((min (p+1) n:Nat):Int) by split<;>omega]) rfl
   exact⟨p,min (p+1) n,by omega,by omega,zN rfl<|zc s1<|zc s2<|zc s3<|zc (zu t0 rfl)<|yj<|yO t1<|zF<|yw (WD.e v2)<|WD.e w⟩
  |false=>
   rw[z1]at t1;have w:=yX (g:=P6) (x:=.int (min p q:Nat)) (ze v2<|ze v3 zo) (by
    show some (R0.im<|.int<|if(q:Int)<p then(q:Int)else p)=_;rw[show(if(q:Int)<p then(q:Int)else p)=((min p q:Nat):Int) by split<;>omega]) rfl
   have w':=yX (g:=Tp) (x:=.int (max p q:Nat)) (ze v2<|ze v3 zo) (by
    show some (R0.im<|.int<|if(q:Int) > p then(q:Int)else p)=_;rw[show(if(q:Int) > p then(q:Int)else p)=((max p q:Nat):Int) by split<;>omega]) rfl
   exact⟨min p q,max p q,by omega,by omega,zN rfl<|zc s1<|zc s2<|zc s3<|zc (zu t0 rfl)<|zc (zu t1 rfl)<|zF<|yw (WD.e w)<|WD.e w'⟩
def qj(x:Int)(k:Nat)(hk:0<k):∃w:Nat,x%(k:Int)=w/\w<k:=by
 have h0:=zyN x (show(k:Int)≠0 by omega);have h1:=zyH x (show(0:Int)<k from q0O hk);exact⟨(x%k).toNat,⋯,⋯⟩
def JP{xs:List D}{x:D}:zx (.lst<|xs++[x]) (.int (-1))=some (.im x):=by
 have:L2.atI (xs++[x]) (-1)=some x:=by
  unfold L2.atI L2.ixN;rw[if_neg (by decide),zzJ,if_pos (by show -(((xs.length+1:Nat)):Int) <= -1;omega)];show _[(-1+((xs.length+1:Nat):Int)).toNat]? = _;rw[show(-1+(_:Int)).toNat=xs.length by omega,zyR<|zzN _,Nat.sub_self];rfl
 show O_ _=_;rw[this];rfl
def Dd{xs:List D}{x y:D}:zx (.lst<|xs++[x]++[y]) (.int (-2))=some (.im x):=by
 have:L2.atI (xs++[x]++[y]) (-2)=some x:=by
  unfold L2.atI L2.ixN;rw[if_neg (by decide),zxA,zzJ,if_pos (by show -(((xs.length+2:Nat)):Int) <= -2;omega)];show _[(-2+((xs.length+2:Nat):Int)).toNat]? = _;rw[show(-2+(_:Int)).toNat=xs.length by omega,zyR<|zzN _,Nat.sub_self];rfl
 show O_ _=_;rw[this];rfl
def km{as:AS}{i:Nat}{rs:TZ}{r:List Int}(h:as[i]? = some (sN<|UA<|rs++[r])):WD (f2 (fV i) (f1 zA P9) zx) as true (zj r):=
 uw h (NS _) (ZV _) ⋯ (by rw[VN,zyM];exact JP)
def ET{as:AS}{i:Nat}{rs:TZ}(h:as[i]? = some (sN<|UA rs)):WD (fP (aC (fV i) aN) yo) as true (.int rs.length):=by
 have:=jd h
 rwa [zzB,zzB]at this
def V6{as:AS}{i:Nat}{rs:TZ}{f:EF}{r:List Int}(h:as[i]? = some (sN<|UA rs))(hl:rs.length<900)(hf:WD f as true (zj r)):yc (wQ i (dC f dN) vH) as=some (.nx<|as.set i<|sN<|UA<|rs++[r]):=by
 refine(Oc h (by rw[zzB,zzB];exact slt ⋯) hf).trans ?_;show _=some (Out.nx<|as.set i<|sN<|((rs++_).map zj).map _);rw[zyM,zyM];rfl
def t9{as:AS}{i k:Nat}{rs:TZ}(h:as[i]? = some (sN<|UA rs))(e:rs.length=k+1):WD (f2 (fP (aC (fV i) aN) yo) zA yp) as true (.int k):=by
 have w:=x5 (ET h)<|zb (x:=.int 1)
 rwa [show(rs.length:Int)-1=k by omega]at w
def qE{f:EF}{as:AS}{r:List Int}(h:WE f as (zj r)):WE (Xr f oN (oS<|f1 zA P9) sL) as (zj r.reverse):=by
 refine Fx h rfl ⋯ ?_;show(if(none:Option Int)=none/\some (-1:Int)=some (-1)then some _ else none)=_;rw[if_pos ⋯,List.map_reverse]
def uu{ta:TF}{f g:VF}{as:AS}{x:Option (D×AS)}(h:WT ta as true)(k:f as=x):Cf ta f g as=x:=by
 unfold Cf
 rwa [h]
def N7{ta:TF}{f g:VF}{as:AS}{x:Option (D×AS)}(h:WT ta as false)(k:g as=x):Cf ta f g as=x:=by
 unfold Cf
 rwa [h]
def Si{f:EF}{as as1:AS}{v:D}(h:f as=some (.ow<|.lf true v,as1)):ZO f as=some (v,as1):=by
 unfold ZO;rw[h];rfl
def O6{a b:EF}{as as1:AS}{v w:Int}(ha:a as=some (.ow<|.lf true<|.int v,as1))(hb:WD b as1 true (.int w))(e:v=w):zd (aC a<|aC b aN) yd as=some (.ow<|.lf true<|.bl true,as1):=by
 have hr:aC a (aC b aN) as=some ([.ow<|.lf true<|.int v,.ow<|.lf true<|.int w],as1):=by
  have:=ze hb zo;show(a as).bind _=_;rw[ha];show(aC b aN as1).bind _=_;rw[this];rfl
 unfold zd;rw[hr];show some (RV.ow<|.lf true _,as1)=_;rw[e,beq_self_eq_true]
def AV{as:AS}{f b:EF}{xs:List Nat}{w:Nat}(hf:WE f as (.lst (xs.map λk:Nat=>D.int k)))(hb:WD b as true (.int w))(hw:w<xs.length):∃k ∈ xs,WD (f2 f b zx) as true (.int k):=by
 have e:=zzE hw;exact⟨_,zyA e,Fj hf ⋯ (Zy e)⟩
structure Lt(c:Cx)(ts:List D)(rs:TZ):Prop where
 ln:ts.length=rs.length
 ot:∀(i:Nat) d r,ts[i]? = some d->rs[i]? = some r->OT c d r
 sz:∀r ∈ rs,r.length<=60
section
variable{c:Cx}{rs:TZ}{ts:List D}
def Lt.snoc{d:D}{r:List Int}(h:Lt c ts rs)(hd:OT c d r)(h1:r.length<=60):Lt c (ts++[d]) (rs++[r]):=by
 refine⟨by rw[zzJ,zzJ,h.ln];rfl,λi e q he hq=>?_,λq mq=>?_⟩
 . rcases Nat.lt_or_ge i ts.length with hi|hi
   . rw[zyP hi]at he;rw[zyP<|by have:=h.ln;exact q1O hi this]at hq;exact h.ot i e q he hq
   . rw[zyR hi]at he;rw[zyR (by have:=h.ln;exact q0h this hi),<-h.ln]at hq;cases hk:i-ts.length with
     |zero=>
      rw[hk]at he hq;cases he;cases hq;exact hd
     |succ k=>
      rw[hk]at he;cases he
 . rcases zzM.mp mq with m|m
   . exact h.sz q m
   . rwa [zzR.mp m]
def Lt.get(h:Lt c ts rs){k:Nat}(hk:k<rs.length):∃d r,ts[k]? = some d/\rs[k]? = some r/\OT c d r/\r.length<=60:=by
 have h1:=zzE hk;have h2:=zzE (show k<ts.length by have:=h.ln;omega);exact⟨_,_,h2,h1,h.ot _ _ _ h2 h1,h.sz _<|zyA h1⟩
def uD{as:AS}{i k:Nat}{d:D}{R:List Int}{f:EF}(h:c.Ok)(e:as[i]? = some (some<|yL c ts))(hf:WD f as true (.int k))(hk:ts[k]? = some d)(hd:OT c d R)(hl:R.length<=900):WE (xa i Yg "listed" (aC f aN)) as (zj R):=⟨_,Pd (g:=vC) e ⋯ rfl ⋯ (FN h hk hd hl) (Ah _),Xe _⟩
def jH{α:Type}{l:List α}{a:α}{k:Nat}{b:α}(h:l[k]? = some a):(l++[b])[k]? = some a:=by
 rwa [zyP (zzG.mp h).1]
def j_{α:Type}{l:List α}{b:α}:(l++[b])[l.length]? = some b:=by
 rw[zyR<|zzN _,Nat.sub_self];rfl
abbrev U6(c:Cx)(ts:List D)(rs:TZ)(k i j:Nat)(e:Option O):AS:=[some<|yL c ts,sN<|UA rs,sI k,sI i,sI j,e]
def JG(g:c.Gd)(h:Lt c ts rs)(h2:rs.length<=200){k i j:Nat}{R:List Int}{d:D}(hk:ts[k]? = some d)(hr:rs[k]? = some R)(h1:i<=j)(h3:j<=R.length):∃d1 d2,Lt c (ts++[d1]++[d2]) (rs++[(R.take j).drop i]++[R.take i++R.drop j])/\vQ [(true,.int k),(true,.int i),(true,.int j)] (yL c ts) (.nd .ls<|UA rs)=some (.bl true,yL c<|ts++[d1]++[d2],.nd .ls<|UA<|rs++[(R.take j).drop i]++[R.take i++R.drop j]):=by
 have hd:=h.ot k d R hk hr;have l6:=h.sz R<|zyA hr;have ln:=h.ln;obtain⟨d1,d2,o1,o2,md⟩:=C3 g.ok hk hd (q0e l6) h1 h3 (by omega) (by omega);have la:((R.take j).drop i).length<=60:=by rw[List.length_drop,zzS];omega
 have lb:(R.take i++R.drop j).length<=60:=by rw[zzJ,zzS,List.length_drop];omega
 have L2:=(h.snoc o1 la).snoc o2 lb;refine⟨d1,d2,L2, ?_⟩;have k1:=v_ (as:=U6 c ts rs k i j none) (i:=0) (c:=c) (ts:=ts) (m:="cut") (g:=v9) (fr:=aC zv<|aC zz<|aC zP aN) rfl (by decide +kernel) ⋯ rfl md;have s1:zm true 5 uU (U6 c ts rs k i j none)=some (.nx<|U6 c (ts++[d1]++[d2]) rs k i j<|sT<|.tup [.int ts.length,.int (ts.length+1:Nat)]):=by
  unfold zm;unfold uU;rw[k1];rfl
 have s2:=V6 (as:=U6 c (ts++[d1]++[d2]) rs k i j<|sT<|.tup [.int ts.length,.int (ts.length+1:Nat)]) (i:=1) (rs:=rs) (r:=(R.take j).drop i) rfl (by omega)<|QE<|AX (Ea (i:=1) (k:=k) (rs:=rs) rfl (za (i:=2) rfl) hr) (za (i:=3) rfl) (za (i:=4) rfl) h1 h3;have r1:WD (f2 zi zv zx) (U6 c (ts++[d1]++[d2]) (rs++[(R.take j).drop i]) k i j<|sT<|.tup [.int ts.length,.int (ts.length+1:Nat)]) true (zj R):=Ea (i:=1) (k:=k) rfl (za (i:=2) rfl)<|jH hr;have s3:=V6 (i:=1) (f:=P7 tX) rfl (by rw[zzJ];show rs.length+1<900;omega) (QE<|Vb (J1 r1 (za (i:=3) rfl)<|(q0l h1 h3)) (Kd r1 (za (i:=4) rfl) h3)<|by rw[zzS,List.length_drop];omega)
 replace s3:yc (wQ 1 (dC (P7 tX) dN) vH) _=some (.nx<|U6 c (ts++[d1]++[d2]) (rs++[(R.take j).drop i]++[R.take i++R.drop j]) k i j<|sT<|.tup [.int ts.length,.int (ts.length+1:Nat)]):=s3
 generalize hA:U6 c (ts++[d1]++[d2]) (rs++[(R.take j).drop i]++[R.take i++R.drop j]) k i j (sT<|.tup [.int ts.length,.int (ts.length+1:Nat)])=A at s3;have a0:A[0]? = some (some<|yL c<|ts++[d1]++[d2]):=by subst hA;rfl
 have a1:A[1]? = some (sN<|UA<|rs++[(R.take j).drop i]++[R.take i++R.drop j]):=by subst hA;rfl
 have a5:A[5]? = some (sT<|.tup [.int ts.length,.int (ts.length+1:Nat)]):=by subst hA;rfl
 have p0:WD (f2 yq zT zx) A true (.int ts.length):=xT (j:=5) a5 rfl;have p1:WD (f2 yq zA zx) A true (.int (ts.length+1:Nat)):=xT (j:=5) a5 rfl;have rl:WD (fP yy yo) A true (.int (rs.length+2:Nat)):=by
  have:=ET a1
  rwa [zzJ,zzJ]at this
 have n0:=O6 p0 (x5 rl<|zb (x:=.int 2)) (by omega);have n1:=O6 p1 (x5 rl<|zb (x:=.int 1)) (by omega);have i1:WT (fT<|Vc yq "tuple") A true:=by subst hA;rfl
 have l2:WT (fT<|f2 (fP Py yo) yE<|zw .NotEq) A false:=by subst hA;rfl
 have t4:WT nC A false:=NA (k:=false) (ZH (k:=true) i1) (λ_=>NA (k:=false) l2 (λ_=>ZH (k:=true)<|yF n0 rfl) λz=>nomatch z) λz=>nomatch z;have w2:=uw a1 (NS _) (ZV _) (Dq zb) (by rw[VN,zyM,zyM];exact Dd);have wl:=Ac (by rfl) (yM (g:=xx) (uD (i:=0) g.ok a0 p0 (jH j_) o1<|(q0e la)) (WD.e w2)<|KF<|(q1o la));have s5:=Si<|Ru (k:=true) (l:=true) n1 (λ_=>wl) (λz=>nomatch z);unfold vQ qN;show(Wi<|U6 c ts rs k i j none).bind _=_;have hv:Wi (U6 c ts rs k i j none)=some (.bl true,A):=vS s1<|vS s2<|vS s3<|N7 t4 s5;rw[hv];subst hA;show(if(yL c<|ts++[d1]++[d2]).str=true/\(O.nd .ls<|UA<|rs++[(R.take j).drop i]++[R.take i++R.drop j]).str=true then _ else _)=_;rw[if_pos ⟨Wb,ZV _⟩]
end
section
variable{c:Cx}{rs:TZ}{ts:List D}
abbrev W0(c:Cx)(ts:List D)(rs:TZ)(x:Int)(e4 e5 e6 e7 e8 e9:Option O):AS:=[some<|yL c ts,sN<|UA rs,sI x,sI c.n,e4,e5,e6,e7,e8,e9]
abbrev WZ(c:Cx)(ts:List D)(rs:TZ)(x:Int)(k:Nat)(R:List Int)(i j w q:Nat):AS:=W0 c ts rs x (sI k) (sT<|zj R) (sI i) (sI j) (sI w)<|sI q
def CL{as:AS}{i:Nat}{x a:Int}{n:Nat}{b:EF}(h:as[i]? = some (sI x))(ha:0<a)(hb:a<1000000)(wb:WD b as true (.int n))(hn:0<n):∃w:Nat,w<n/\WD (f2 (f2 (fV i) (fC<|.int a) zq) b zC) as true (.int w):=by
 obtain⟨w,ew,hw⟩:=qj _ n hn;have:=ya (we (za h) ⋯ ha (zG ⋯ ⋯)) wb ⋯;rw[ew]at this;exact⟨w,hw,this⟩
def callC{x:Int}{k i j w q:Nat}{R:List Int}{v:D}{ts':List D}{rs':TZ}(hs:vQ [(true,.int k),(true,.int i),(true,.int j)] (yL c ts) (.nd .ls<|UA rs)=some (v,yL c ts',.nd .ls<|UA rs')):XW 0 0 1 (aC zk<|aC zi<|aC zP<|aC xm CZ) vQ (WZ c ts rs x k R i j w q)=some (.ow<|.lf true v,WZ c ts' rs' x k R i j w q):=by
 have hr:(aC zk<|aC zi<|aC zP<|aC xm CZ) (WZ c ts rs x k R i j w q)=some _:=rfl;unfold XW;show((vQ [(true,.int k),(true,.int i),(true,.int j)] (yL c ts) _).bind _)=_;rw[hs];show(if(yL c ts').str=true/\(O.nd .ls<|UA rs').str=true/\0≠1 then _ else _)=_;rw[if_pos ⟨Wb,ZV _,by decide⟩];rfl
def len1'{as:AS}{i:Nat}{r:List Int}(h:as[i]? = some (sN<|UA<|rs++[r])):WD (f2 (fP (aC (fV i) aN) yo) zA yp) as true (.int rs.length):=t9 h (by rw[zzJ];rfl)
def Jr(g:c.Gd){x:Int}(h:Lt c ts rs)(h1:1<=rs.length)(h2:rs.length<=200):∃ts' rs',Lt c ts' rs'/\rs.length<rs'.length/\rs'.length<=rs.length+2/\xQ [(true,.int x),(true,.int c.n)] (yL c ts) (.nd .ls<|UA rs)=some (.bl true,yL c ts',.nd .ls<|UA rs'):=by
 have n1:=g.ok.A.n1;have ln:=h.ln;have tl:ts.length<900:=by omega
 have A0:∀e4 e5 e6 e7 e8 e9,WD (fP yy yo) (W0 c ts rs x e4 e5 e6 e7 e8 e9) true (.int rs.length):=λ_ _ _ _ _ _=>ET rfl;have lm:WD (f2 (fP yy yo) zA yp) (W0 c ts rs x none none none none none none) true (.int (rs.length-1:Nat)):=by
  have:=x5 (A0 none none none none none none)<|zb (x:=.int 1)
  rwa [show((rs.length:Nat):Int)-1=((rs.length-1:Nat):Int) by omega]at this
 obtain⟨u,hu,wu⟩:=CL (as:=W0 c ts rs x none none none none none none) (i:=2) (x:=x) (a:=12) rfl (by decide) (by decide) (A0 none none none none none none) h1;obtain⟨z,ez,hz⟩:=qj x 3 (by decide);have wz:=ya (za (as:=W0 c ts rs x none none none none none none) (i:=2) (x:=.int x) (s:=true) rfl) (zb (x:=.int 3)) (by decide);rw[show x%3=(z:Int)from ez]at wz;obtain⟨k,mk,wk⟩:=AV (xs:=[rs.length-1,rs.length-1,u]) (xB (os:=[ZZ (rs.length-1:Nat),ZZ (rs.length-1:Nat),ZZ u]) (zE (QE<|WD.e lm)<|zE (QE<|WD.e lm)<|zE (QE<|WD.e wu) yG) (W6 rfl) rfl rfl) wz hz;have hk:k<rs.length:=by
  rcases zzC.mp mk with e|mk
  . exact q1w h1 h2 e ln
  rcases zzC.mp mk with e|mk
  . exact q1w h1 h2 e ln
  . rw[zzR.mp mk];exact hu
 have s4:=zD (st:=true) (i:=4) wk<|zg rfl;obtain⟨d,R,g1,g2,g3,g4⟩:=h.get hk;have s5:=zD (st:=true) (i:=5) (Ea (as:=W0 c ts rs x (sI k) none none none none none) (i:=1) (k:=k) (b:=fV 4) rfl (za (i:=4) rfl) g2)<|zg rfl;obtain⟨i,j,b1,b2,pl⟩:=F6 (x/1000) R.length (q1o g4);have wl:WD (fP Py yo) (W0 c ts rs x (sI k) (sT<|zj R) none none none none) true (.int R.length):=MC<|WD.e<|za (i:=5) (x:=zj R) rfl;have s6:=jc (i:=6) (j:=7) (yM (WD.e<|we (za (as:=W0 c ts rs x (sI k) (sT<|zj R) none none none none) (i:=2) (x:=.int x) (s:=true) rfl) (zb (x:=.int 1000)) (by decide)<|zG (by decide)<|by decide) (WD.e wl) pl) (zg rfl)<|zg rfl;obtain⟨w,hw,ww⟩:=CL (as:=W0 c ts rs x (sI k) (sT<|zj R) (sI i) (sI j) none none) (i:=2) (x:=x) (a:=3) (n:=4) rfl (by decide) (by decide) (zb (x:=.int 4)) (by decide);have s8:=zD (st:=true) (i:=8) ww<|zg rfl;obtain⟨v,hv,wv⟩:=CL (as:=W0 c ts rs x (sI k) (sT<|zj R) (sI i) (sI j) (sI w) none) (i:=2) (x:=x) (a:=7) rfl (by decide) (by decide) (A0 _ _ _ _ _ none) h1;obtain⟨y,hy,wy⟩:=CL (as:=W0 c ts rs x (sI k) (sT<|zj R) (sI i) (sI j) (sI w) none) (i:=2) (x:=x) (a:=77) (n:=4) rfl (by decide) (by decide) (zb (x:=.int 4)) (by decide);obtain⟨q,mq,wq⟩:=AV (xs:=[k,v,v,0]) (xB (os:=[ZZ k,ZZ v,ZZ v,ZZ (0:Nat)]) (zE (za (i:=4) rfl)<|zE (QE<|WD.e wv)<|zE (QE<|WD.e wv)<|zE (zb (x:=.int (0:Nat))) yG) (W6 rfl) rfl rfl) wy hy;have hq:q<rs.length:=by
  rcases zzC.mp mq with e|mq
  . exact q0H hk e ln
  rcases zzC.mp mq with e|mq
  . exact q0H hv e ln
  rcases zzC.mp mq with e|mq
  . exact q0H hv e ln
  . rw[zzR.mp mq];omega
 have s9:=zD (st:=true) (i:=9) wq<|zg rfl;have fin:∀{ts':List D}{rs':TZ}{rest:VF},rest (WZ c ts rs x k R i j w q)=some (.bl true,WZ c ts' rs' x k R i j w q)->YA=(xN (zm true 4 _)<|xN (zm true 5<|f2 zi zP zx)<|xN oX<|xN (zm true 8<|f2 (f2 zv ZN zq) YK zC)<|xN (zm true 9 _) rest)->xQ [(true,.int x),(true,.int c.n)] (yL c ts) (.nd .ls<|UA rs)=some (.bl true,yL c ts',.nd .ls<|UA rs'):=λ{ts' rs' rest} hr he=>by
  unfold xQ qN;rw[if_pos<|by exact⟨rfl,by show 0<=2;omega⟩];show(YA<|W0 c ts rs x none none none none none none).bind _=_;rw[he,vS s4<|vS s5<|vS s6<|vS s8<|vS s9 hr];show(if(yL c ts').str=true/\(O.nd .ls<|UA rs').str=true then _ else _)=_;rw[if_pos ⟨Wb,ZV _⟩]
 have v5:∀ts rs,WD yq (WZ c ts rs x k R i j w q) true (zj R):=λ_ _=>za (i:=5) rfl;have v6:∀ts rs,WD xm (WZ c ts rs x k R i j w q) true (.int i):=λ_ _=>za (i:=6) rfl;have v7:∀ts rs,WD Qa (WZ c ts rs x k R i j w q) true (.int j):=λ_ _=>za (i:=7) rfl;have v4:∀ts rs,WD zP (WZ c ts rs x k R i j w q) true (.int k):=λ_ _=>za (i:=4) rfl;have t8:∀(a:Nat),WT (fT<|f2 (fV 8) (fC<|.int a)<|zw .Eq) (WZ c ts rs x k R i j w q) (decide (w=a)):=λa=>eqT (za (i:=8) (x:=.int w) (s:=true) rfl) zb (by
  by_cases e:w=a
  . subst e;rw[zyO rfl,beq_self_eq_true]
  . rw[zyG e,beq_eq_false_iff_ne.mpr<|(q1u e)])
 have r60:∀r:List Int,r.length<=60->∀d',OT c d' r->Lt c (ts++[d']) (rs++[r]):=λr hl d' od=>h.snoc od hl;have num:∀{m:Str}{gg:List xi->O->Option (D×O)}{fr:AF}{d':D}{r:List Int},wX 0 "Makes" m gg fr (WZ c ts (rs++[r]) x k R i j w q)=some (.ow<|.lf true<|.int ts.length,WZ c (ts++[d']) (rs++[r]) x k R i j w q)->ZO (zd (aC (wX 0 "Makes" m gg fr)<|aC (f2 (fP yy yo) zA yp) aN) yd) (WZ c ts (rs++[r]) x k R i j w q)=some (.bl true,WZ c (ts++[d']) (rs++[r]) x k R i j w q):=λ{m gg fr d' r} hm=>Si (O6 hm (len1' rfl)<|by omega);have l1:∀r:List Int,rs.length<(rs++[r]).length/\(rs++[r]).length<=rs.length+2:=λr=>by
  rw[zzJ];exact⟨Nat.lt_succ_self _,by show rs.length+1<=_;omega⟩
 by_cases w1:w=1
 . obtain⟨d1,d2,L2,hc⟩:=JG g h h2 g1 g2 b1 b2;have t1:=t8 1;rw[zyO w1]at t1;exact⟨_,_,L2,by rw[zzJ,zzJ];show _<_+1+1;omega,by rw[zzJ,zzJ];exact zzN _,fin (uu t1<|Si<|callC hc) rfl⟩
 have t1:=t8 1;rw[zyG w1]at t1;obtain⟨dq,Q,q1,q2,q3,q4⟩:=h.get hq;have lQ:WD (fP (aC (f2 zi (fV 9) zx) aN) yo) (WZ c ts rs x k R i j w q) true (.int Q.length):=MC<|WD.e<|Ea (i:=1) (k:=q) (rs:=rs) rfl (za (i:=9) rfl) q2;have lR:∀ts rs,WD (fP Py yo) (WZ c ts rs x k R i j w q) true (.int R.length):=λ_ _=>MC<|WD.e<|v5 _ _;have tt2:WT nv (WZ c ts rs x k R i j w q) (decide (w=2/\R.length+Q.length<61)):=by
  refine KA (t8 2) (λz=>?_) λz=>zyG λy=>absurd y.1<|of_decide_eq_false z;have:=yF (ND (zM (lR ts rs) lQ)<|zb (x:=.int 61)) rfl
  rwa [show decide ((R.length:Int)+Q.length<61)=decide (w=2/\R.length+Q.length<61)from decide_eq_decide.mpr ⟨λy=>⟨of_decide_eq_true z,by omega⟩,λy=>by omega⟩]at this
 by_cases w2:w=2/\R.length+Q.length<61
 . rw[zyO w2]at tt2;obtain⟨d',od,md⟩:=IS g.ok g1 g3 (q0e g4) tl (i:=i) (q0l b1 b2) q1 q3 (by omega);have sa:=V6 (as:=WZ c ts rs x k R i j w q) (i:=1) (rs:=rs) (f:=P7 qG) (r:=R.take i++Q++R.drop i) rfl (q0M h1 h2 ln) (QE<|Vb (Vb (J1 (v5 ts rs) (v6 _ _)<|(q0l b1 b2)) (WD.e<|Ea (i:=1) (k:=q) (rs:=rs) rfl (za (i:=9) rfl) q2)<|by rw[zzS];omega) (Kd (v5 _ _) (v6 _ _)<|(q0l b1 b2))<|by rw[zzJ,zzS,List.length_drop];omega);exact⟨_,_,r60 _ (by rw[zzJ,zzJ,zzS,List.length_drop];omega) d' od,(l1 _).1,(l1 _).2,fin (N7 t1<|uu tt2<|vS sa<|num<|v_ (i:=0) (c:=c) (ts:=ts) (m:="put_in") (g:=xJ) rfl (by decide +kernel) (ze (v4 _ _)<|ze (v6 _ _)<|ze (za (i:=9) rfl) zo) rfl md) rfl⟩
 rw[zyG w2]at tt2;have tt3:WT ny (WZ c ts rs x k R i j w q) (decide (w=3/\i<R.length)):=by
  refine KA (t8 3) (λz=>?_) λz=>zyG λy=>absurd y.1<|of_decide_eq_false z;have:=yF (ND (v6 ts rs)<|lR ts rs) rfl
  rwa [show decide ((i:Int)<R.length)=decide (w=3/\i<R.length)from decide_eq_decide.mpr ⟨λy=>⟨of_decide_eq_true z,by omega⟩,λy=>by omega⟩]at this
 by_cases w3:w=3/\i<R.length
 . rw[zyO w3]at tt3;have n8:=g.ok.A.n8;have wv:∀ts rs,WD (f2 (f2 zv L_ zq) zz zC) (WZ c ts rs x k R i j w q) true (.int<|x/5%c.n):=λts rs=>ya (we (za (i:=2) (x:=.int x) (s:=true) rfl) (zb (x:=.int 5)) (by decide)<|zG (by decide)<|by decide) (za (i:=3) (x:=.int c.n) (s:=true) rfl) (q1V n1 n8);obtain⟨d',od,md⟩:=L0 (v:=x/5%c.n) g.ok g1 g3 (q0e g4) tl w3.2 (X0<|by omega);have wi:WD (f2 xm zA zp) (WZ c ts rs x k R i j w q) true (.int (i+1:Nat)):=zM (v6 _ _)<|zb (x:=.int 1);have wL:WE (zZ<|dC (P7<|f2 (f2 zv L_ zq) zz zC) dN) (WZ c ts rs x k R i j w q) (zj [x/5%c.n]):=xB (os:=[ZZ<|x/5%c.n]) (zE (QE<|WD.e<|wv _ _) yG) (W6 rfl) rfl rfl;have sa:=V6 (as:=WZ c ts rs x k R i j w q) (i:=1) (rs:=rs) (r:=R.take i++[x/5%c.n]++R.drop (i+1)) rfl (q0M h1 h2 ln)<|QE<|Vb (Vb (J1 (v5 ts rs) (v6 _ _)<|by omega) wL (by rw[zzS];show _+1<=_;omega)) (Kd (v5 _ _) wi<|by have:=w3.2;omega) (by rw[zzJ,zzS,List.length_drop];show _+1+_<=_;omega);exact⟨_,_,r60 _ (by have:=w3.2;rw[zzJ,zzJ,zzS,List.length_drop];show _+1+_<=_;omega) d' od,(l1 _).1,(l1 _).2,fin (N7 t1<|N7 tt2<|uu tt3<|vS sa<|num<|v_ (i:=0) (c:=c) (ts:=ts) (m:="changed") (g:=xu) rfl (by decide +kernel) (ze (v4 _ _)<|ze (v6 _ _)<|ze (wv _ _) zo) rfl md) rfl⟩
 rw[zyG w3]at tt3;obtain⟨d',od,md⟩:=Et g.ok g1 g3 (q0e g4) b1 (by omega) tl;have sa:=V6 (as:=WZ c ts rs x k R i j w q) (i:=1) (rs:=rs) (f:=P7 sY) (r:=R.take i++((R.take j).drop i).reverse++R.drop j) rfl (q0M h1 h2 ln) (QE<|Vb (Vb (J1 (v5 _ _) (v6 _ _)<|(q0l b1 b2)) (qE<|AX (v5 ts rs) (v6 _ _) (v7 _ _) b1 b2)<|by rw[List.length_reverse,List.length_drop,zzS,zzS];omega) (Kd (v5 _ _) (v7 _ _) b2)<|by rw[zzJ,List.length_reverse,List.length_drop,zzS,zzS,List.length_drop];omega);exact⟨_,_,r60 _ (by rw[zzJ,zzJ,List.length_reverse,List.length_drop,zzS,zzS,List.length_drop];omega) d' od,(l1 _).1,(l1 _).2,fin (N7 t1<|N7 tt2<|N7 tt3<|vS sa<|num<|v_ (i:=0) (c:=c) (ts:=ts) (m:="turned") (g:=xI) rfl (by decide +kernel) (ze (v4 _ _)<|ze (v6 _ _)<|ze (v7 _ _) zo) rfl md) rfl⟩
end
def ic{c:TF}{f g:SF}{as as1:AS}(h:c as=some (false,as1)):xk c f g as=g as1:=by
 unfold xk;rw[h];rfl
def jt{f:EF}{as as1:AS}(h:f as=some (.ow<|.lf true<|.bl true,as1)):wF (fT f) as=some (false,as1):=by
 unfold wF fT;rw[h];rfl
section
variable{c:Cx}{rs:TZ}{ts:List D}{ns:List Int}
abbrev L5(ns:List Int)(c:Cx)(ts:List D)(rs:TZ)(e4:Option O):AS:=[sT<|zj ns,sT c.g,some<|yL c ts,sN<|UA rs,e4]
abbrev jO:SF:=(zh rd
 rT)
abbrev jI:SF:=nO
def Bf{x:Int}{e4:Option O}{f h:EF}{ts':List D}{rs':TZ}(wx:WD f (L5 ns c ts rs e4) true (.int x))(wn:WD h (L5 ns c ts rs e4) true (.int c.n))(hs:xQ [(true,.int x),(true,.int c.n)] (yL c ts) (.nd .ls<|UA rs)=some (.bl true,yL c ts',.nd .ls<|UA rs')):XW 0 2 3 (aC zv<|aC zz<|aC f<|aC h aN) xQ (L5 ns c ts rs e4)=some (.ow<|.lf true<|.bl true,L5 ns c ts' rs' e4):=by
 have hw:=ze wx<|ze wn zo;have hr:aC zv (aC zz<|aC f<|aC h aN) (L5 ns c ts rs e4)=some ([.bo 2,.bo 3,.ow<|.lf true<|.int x,.ow<|.lf true<|.int c.n],L5 ns c ts rs e4):=by
  show((aC f (aC h aN) _).bind _).bind _=_;rw[hw];rfl
 unfold XW;rw[hr];show((xQ [(true,.int x),(true,.int c.n)] (yL c ts) _).bind _)=_;rw[hs];show(if(yL c ts').str=true/\(O.nd .ls<|UA rs').str=true/\2≠3 then _ else _)=_;rw[if_pos ⟨Wb,ZV _,by decide⟩];rfl
def IM(g:c.Gd)(h:Lt c ts rs)(h1:1<=rs.length)(h2:rs.length<=200){k:Nat}(hk:k<=100):∃ts' rs',Lt c ts' rs'/\rs.length<rs'.length/\rs'.length<=rs.length+2/\jO (L5 ns c ts rs<|sI k)=some (.nx<|L5 ns c ts' rs'<|sI k):=by
 obtain⟨x,_,wx⟩:=WH ns hk;obtain⟨ts',rs',hL,l1,l2,hs⟩:=Jr g h h1 h2;refine⟨ts',rs',hL,l1,l2, ?_⟩;have s1:=ic (f:=zy<|fC<|.bl false) (g:=xh)<|jt<|Bf (wx _ _ rfl<|za (i:=4) rfl) (zY (g:=zx) (za (i:=1) rfl) (zb (x:=.int 0)) rfl rfl) hs;obtain⟨l,r,rfl⟩:∃l r,rs'=l++[r]:=⟨rs'.dropLast,rs'.getLast (by intro z;rw[z]at l1;simp at l1),(List.dropLast_concat_getLast _).symm⟩;obtain⟨d,r',g1,g2,g3,g4⟩:=hL.get (by rw[zzJ];exact Nat.lt_succ_self _);rw[j_]at g2;cases g2;have wl:=Ac ⋯ (yM (as:=L5 ns c ts' _<|sI k) (uD (i:=2) g.ok rfl (len1' (i:=3) rfl) g1 g3 ⋯) (WD.e<|km (i:=3) rfl)<|KF ⋯);exact zt s1<|zu (ZH<|yF wl rfl) rfl
def Ir(g:c.Gd)(h:Lt c ts rs){k:Nat}(hk:k<rs.length):jI (L5 ns c ts rs<|sI k)=some (.nx<|L5 ns c ts rs<|sI k):=by
 obtain⟨d,r,g1,g2,g3,g4⟩:=h.get hk;have wr:WD (f2 zz zP zx) (L5 ns c ts rs<|sI k) true _:=Ea rfl ⋯ g2;have wl:=Ac (by rfl)<|yM (uD (i:=2) g.ok rfl ⋯ g1 g3 ⋯) (WD.e wr)<|KF ⋯;have wm:WD (xa 2 KR "many" (aC zP aN)) (L5 ns c ts rs<|sI k) true _:=Wv (g:=Zt) rfl ⋯ rfl (ze ⋯ zo) (jT rfl<|J6 g1 g3) rfl;have wn:=O6 wm (MC<|WD.e wr) rfl;exact zu (NA (ZH<|yF wl rfl) (λ_=>ZH<|yF wn rfl) λz=>nomatch z) rfl
end
def ON(ns:List Int)(hns:ns.length<=63):TR [(true,.lst<|ns.map .int)]=sT (.bl true):=by
 obtain⟨c,g,ra⟩:=tN ns;have wm:∀(as:AS) (i:Nat),as[i]? = some (sT c.g)->zd (aC (zd (aC (zd (aC (fV i) aN) YJ) aN)<|xt "Ways") aN) (vT "Makes") as=some (.ow<|yL c [],as):=λas i h=>vL (yV (y8 (y8 (WD.e<|za h)<|J8 g)<|Ib (S:=c.S) g.ok.A g.ok.L g.sl g.sn) zo)<|⋯;have s1:(zm true 1<|zd wY We) [sT<|zj ns,none,none,none,none]=some (.nx [sT<|zj ns,sT c.g,none,none,none]):=y2 (p:=1) (y8 (WD.e<|za (i:=0) rfl) ra)<|zg rfl;have s2:=w9 (i:=2) (wm [sT<|zj ns,sT c.g,none,none,none] 1 rfl)<|zg rfl;obtain⟨x3,x30,w3⟩:=WH ns (k:=13) (by decide);obtain⟨r,r1,r2,rr⟩:=JS (x:=x3) g.ok.A.n1 g.ok.A.n8;have s3:=w9 (i:=3) (YQ (zE (QE<|zW (WD.e<|w3 [sT<|zj ns,sT c.g,some<|yL c [],none,none] _ rfl<|zb (x:=.int 13)) (WD.e<|zY (g:=zx) (z:=.int c.n) (za (i:=1) (x:=c.g) (s:=true) rfl) (zb (x:=.int 0)) rfl rfl) (WD.e<|zb (x:=.int 11)) rr) yG)<|W6 rfl)<|zg rfl;obtain⟨d,o1,m1⟩:=OB (s:=true) (ts:=[]) (r:=r) g.ok (by omega) r2 (by decide);have h0:Lt c [d] [r]:=⟨rfl,(λi e q he hq=>by
  cases i with
  |zero=>cases he;cases hq;exact o1
  |succ i=>cases he),(λq mq=>by rw[zzR.mp mq];omega)⟩
 have q1:=v_ (as:=L5 ns c [] [r] none) (i:=2) (c:=c) (m:="made") (g:=vK) rfl (by decide +kernel) (yV (Ej<|Ea (i:=3) (k:=0) (rs:=[r]) rfl (zb (x:=.int (0:Nat))) rfl) zo) rfl m1;have s4:=ic (f:=zy<|fC<|.bl false) (g:=xh)<|jt<|O6 q1 (zb (x:=.int 0)) rfl;obtain⟨k,k9,hr⟩:∃k:Nat,k<=49/\yu pM IH (L5 ns c [d] [r] none)=some (yR 14 k,L5 ns c [d] [r] none):=by
  have w1:=MC<|WD.e<|za (as:=L5 ns c [d] [r] none) (i:=0) (x:=zj ns) rfl;have w2:=yX (g:=P6) (ze w1<|ze (zb (x:=.int 63)) zo) rfl rfl;have w3:=yX (g:=Tp) (ze (zb (x:=.int 22))<|ze w2 zo) rfl rfl;generalize hm:(if(if(63:Int)<ns.length then(63:Int)else ns.length) > 22 then(if(63:Int)<ns.length then(63:Int)else ns.length)else 22)=M at w3;have m0:22<=M/\M<=63:=by
   rw[<-hm]
   split<;>split<;>omega
  have:=HN (ze (zb (x:=.int 14))<|ze w3 zo) (by omega) (by omega) (by omega) (by omega);exact⟨(M-14).toNat,by omega,this⟩
 obtain⟨as',hA,ts,rs,y4,rfl,hL,hK,hM⟩:=yW (g:=gN 4) (f:=jO) (λi as=>∃(ts:List D) (rs:TZ) (y4:Option O),as=L5 ns c ts rs y4/\Lt c ts rs/\1<=rs.length/\rs.length<=2*i+1) (yR 14 k) 0 (L5 ns c [d] [r] none) (λi y as hy hI=>by
  obtain⟨ts,rs,y4,rfl,hL,hK,hM⟩:=hI;obtain⟨rfl,hi⟩:=y_ hy;obtain⟨ts',rs',hL',l1,l2,hb⟩:=IM (ns:=ns) g hL hK (by omega) (k:=14+i) (by omega);exact⟨_,rfl,_,hb,_,_,_,rfl,hL',by omega,by omega⟩) ⟨_,_,none,rfl,h0,zzN 1,zzN 1⟩
 have s5:=yn hr hA;have hl:(yR 14 k).length=k:=yU _ _;rw[hl]at hM;have hr2:=y6 (ze (ET (as:=L5 ns c ts rs y4) (i:=3) (rs:=rs) rfl) zo) (by omega) (by omega);obtain⟨as',hB,z4,rfl⟩:=yW (g:=gN 4) (f:=jI) (λi as=>∃z4:Option O,as=L5 ns c ts rs z4) (yR 0 ((rs.length:Int)).toNat) 0 (L5 ns c ts rs y4) (λi y as hy hI=>by
  obtain⟨z4,rfl⟩:=hI;obtain⟨rfl,hi⟩:=y_ hy;refine⟨L5 ns c ts rs<|sI i, ?_,_,Ir g hL (k:=i) (by omega),_,rfl⟩;show some (L5 ns c ts rs<|sI<|0+i)=_;rw[Int.zero_add]) ⟨_,rfl⟩
 have s6:=yn hr2 hB;exact jT rfl<|zN rfl<|zc s1<|zc s2<|zc s3<|zc s4<|zc s5<|zc s6<|zF<|WD.e zb
end G42
end
end
open PySem PySem.W PyProof.Rows
set_option maxRecDepth 100000 in
set_option maxHeartbeats 0 in
theorem PySem.Challenge.cw_stretchdeeds_k42_turned_cut_and_put_in_holds : PySem.Challenge.rw_stretchdeeds_k42_turned_cut_and_put_in.Holds := by
 w_on;refine holds_law G42.ws λsaid=>?_
 refine holds_open (q:=G42.qv) (loose:=[]) (Xt:=G42.Xt) (XP:=XL G42.qv []) (Yf:=Hook.obs<|kHook G42.K G42.kA G42.kAe) (Ya:=Hook.val<|kHook G42.K G42.kA G42.kAe) (YP:=Hook.says<|kHook G42.K G42.kA G42.kAe) (N:=6000) G42.hl (Hook.of<|kHook G42.K G42.kA G42.kAe) (Hook.keeps<|kHook G42.K G42.kA G42.kAe) (λs e=>xl_of s (Bool.and_eq_true_iff.mp e).1) XL.keeps (by rfl) (by rfl) (by rfl) (λs e=>recFacts_of (Bool.and_eq_true_iff.mp e).2) (by rfl) (by first|assumption|decide +kernel) (by decide +kernel) G42.hbz ?hw ?hc
 (case hw=>w_witness2)
 k_fill
 refine G42.walk (l:=PySem.Challenge.rw_stretchdeeds_k42_turned_cut_and_put_in) rfl rfl (λw h Y=>W.kIn_of Y) G42.ON ?F
 case F=>
  intro w mg fa h KX G hmg;refine G42.D5 (kd:=PF.kdL []<|PF.P2 mg) h hmg λbase=>?_;constructor
  all_goals first|exact W.mg_none_of KX G (by k_is)|exact PF.s_ KX G (by k_is) ⟨_,⟨_,_,_,_,_,_,_,_,_,rfl,by k_is,by k_is⟩,by k_is⟩|exact PF.rR KX G (by k_is) (by k_is)|exact PF.pH KX G (by k_is) (by k_is) (by k_is) (by k_is) ⟨_,⟨_,_,_,_,_,_,_,_,_,rfl,by k_is,by k_is⟩,by k_is⟩|exact PF.pE KX G (by k_is) (by k_is) (by k_is) (by k_is) (by k_is) (by k_is) (by k_is)|exact PF.kdN|exact PF.GC.int (W.mg_of KX G<|by k_is)
#print axioms PySem.Challenge.cw_stretchdeeds_k42_turned_cut_and_put_in_holds
