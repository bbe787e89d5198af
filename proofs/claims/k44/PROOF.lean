import PyProof.Rows.All
import Wide.All
import OpenK.AllK
import PySem.Challenge.RW_stretchdeeds_k44_first_places
set_option Elab.async false
set_option linter.all false
set_option maxRecDepth 100000
set_option genSizeOf false
set_option compiler.extract_closed false
set_option bootstrap.genMatcherCode false
noncomputable section
def q0a{a:Nat}:(0:Int)<=(a:Int):=by omega
def q0b{a:Nat}(h:a<=900):a<=1000:=by omega
def q0c{a:Nat}(h:0<a):(0:Int)<(a:Int):=by omega
def q0d{a:Nat}(h:2<=a):0<a:=by omega
def q0e{a b:Nat}:a+(b+1)=a+1+b:=by omega
def q0f{a b:Nat}(h:a+100<b):a+1+50<b:=by omega
def q0g{a b c:Nat}(h:a<b):a-c<b:=by omega
def q0h{a b:Nat}(h:a<b):(a:Int)<(b:Int):=by omega
def q0i{a:Nat}:a<a+5\/a+5<a:=by omega
def q0j{a:Nat}(h:a<=8):a<=1000:=by omega
def q0k{a b c:Nat}(h:a+b=c)(k:b<c):a-1+(b+1)=c:=by omega
def q0l{a:Nat}(h:a<=8):a<=900:=by omega
def q0m{a b:Nat}(h:a<b\/b+5<a):a<b+5\/b+5<a:=by omega
def q0n{a b c:Nat}(h:a+b=c)(k:¬(b<c)):c<=b:=by omega
def q0o{a:Nat}(h:1<=a):(0:Int)<(a:Int):=by omega
def q0p{a b:Nat}:a+1+b=a+(b+1):=by omega
def q0q{a b c:Nat}(h:a+b=c)(k:b<c):a-1<a:=by omega
def q0r{a b c:Nat}(h:a=b)(k:a<=c):b<=c:=by omega
def q0s{a:Nat}(h:a<900):a<1000:=by omega
def q0t{a:Nat}(h:a<=1000):a<=1000000:=by omega
def q0u{a b:Nat}(h:a<b):a<b+5\/b+5<a:=by omega
def q0v{a b:Nat}:a<=a+b:=by omega
def q0w{a:Nat}(h:2<=a)(k:a<=7):(0:Int)<(a:Int):=by omega
def q0x{a b c:Nat}(h:a<b)(k:b<=c):c≠a:=by omega
def q0y{a:Nat}:a+2<a+5\/a+5<a+2:=by omega
def q0z{a:Nat}:a+3<a+5\/a+5<a+3:=by omega
def q0A{a:Nat}:a+1<a+5\/a+5<a+1:=by omega
def q0B{a b c d:Nat}(h:a+b<=c)(k:d<b):a+d<c:=by omega
def q0C{a:Nat}:a+4<a+5\/a+5<a+4:=by omega
def q0D{a b:Nat}(h:a<b):a<=b:=by omega
def q0E{a:Nat}:a<a+4\/a+4<a:=by omega
def q0F{a:Nat}:a+1<a+4\/a+4<a+1:=by omega
def q0G{a:Nat}:a+5<a+4\/a+4<a+5:=by omega
def q0H{a:Nat}(h:a<=100):(0:Int)<=(a:Int):=by omega
def q0I{a b:Nat}(h:a<b\/b<a):a≠b:=by omega
def q0J{a:Nat}(h:1<=a)(k:a<=8):a<=1000:=by omega
def q0K{a:Nat}(h:a<=6):a<=900:=by omega
def q0L{a b:Nat}(h:¬(a<b)):b<=a:=by omega
def q0M{a:Nat}(h:a<=6):a<=1000:=by omega
def q0N{a b c:Nat}(h:a=16777216)(k:b=c)(h1:b<=a):(c:Int)<2^63:=by omega
def q0O{a b c d:Nat}(h:a=b)(k:c=b)(h1:d<=b):d<=a:=by omega
def q0P{a b c:Nat}(h:a<=900)(k:b<=a)(h1:c<=b):min c a+(min b a-c)+(a-b)<=900:=by omega
def q0Q{a b:Nat}(h:a<=b):Int.toNat ((b:Int)-(a:Int))=b-a:=by omega
def q0R{a b c:Nat}(h:a<=900)(k:b<=a)(h1:c<=b):min c a+(min b a-c)+(a-b)<=1000:=by omega
def q0S{a b c:Nat}(h:a=b)(k:¬(c<b)):b<=c:=by omega
def q0T{a b c:Nat}(h:a<b)(k:a=c):c<=b:=by omega
def q0U{a b c:Nat}(h:a+1=b)(k:b<=c):a+1<=c:=by omega
def q0V{a b:Nat}(h:a<b)(k:b<=10):a<10:=by omega
def q0W{a b:Nat}(h:a=b):(0:Int)<(b:Int)+(1:Int):=by omega
def q0X{a:Nat}(h:1<=a)(k:a<=8):-10^200<(a:Int):=by omega
def q0Y{a b c:Nat}(h:a<=900)(k:b<=a):min b a-c<=900:=by omega
def q0Z{a:Nat}(h:a<=1000):(0:Int)<(a:Int)+(1:Int):=by omega
def q1a{a b:Nat}(h:a<=b):(a:Int)<=(b:Int):=by omega
def q1b{a:Nat}(h:1<=a)(k:a<=8):(a:Int)<10^200:=by omega
def q1c{a b:Nat}(h:0<a)(k:b<a):b<=a-1:=by omega
def q1d{a b:Nat}(h:0<a)(k:b<=a-1):b<a:=by omega
def q1e{a:Nat}:a<=a:=by omega
def q1f{a b:Nat}(h:a<=900):min b a<=900:=by omega
def q1g{a:Int}(h:¬((0:Int)<=a)):a<(0:Int):=by omega
def q1h{a b c:Nat}(h:a+3*(b+1)+5<c):a+1+3*b+5<c:=by omega
def q1i{a b:Nat}(h:a+1=b+1):a=b:=by omega
def q1j{a b:Nat}(h:a<=b+1)(k:b<=a+1):¬(1+max a b=0):=by omega
def q1k{a b:Nat}(h:a<b\/b+5<a):a<b\/b<a:=by omega
def q1l{a b:Nat}(h:¬(a<=b/\b<=a+5)):b<a\/a+5<b:=by omega
def q1m{a b c d:Nat}(h:a<b)(k:b=min c d):a<c:=by omega
def q1n{a b:Nat}(h:a<=900)(k:b<=a):a-b<=900:=by omega
def q1o{a:Nat}:(a:Int)+(1:Int)=(a+1:Int):=by omega
def q1p{a:Int}(h:(0:Int)<=a):(Int.toNat a:Int)=a:=by omega
def q1q{a:Int}(h:(0:Int)<=a):a=(Int.toNat a:Int):=by omega
def q1r{a b c:Nat}(h:1+max a b<c+1)(k:a<=b+1)(h1:b<=a+1):b<c:=by omega
def q1s{a b c d:Nat}(h:a<b)(k:b=min c d):a<d:=by omega
def q1t{a:Nat}:a+2<a+4\/a+4<a+2:=by omega
def q1u{a:Nat}(h:0<a):(a:Int)≠(0:Int):=by omega
def q1v{a b:Nat}(h:a+1<=b):a<=b:=by omega
def q1w{a b c:Nat}(h:1+max a b<c+1)(k:a<=b+1)(h1:b<=a+1):a<c:=by omega
def q1x{a b:Nat}(h:a+1<=b):a<b:=by omega
def q1y{a b:Nat}(h:a+100<b):a+60<b:=by omega
def q1z{a:Nat}:a+5<a\/a<a+5:=by omega
def q1A{a b:Nat}(h:a+1<b):b≠0:=by omega
def q1B{a b c d:Nat}(h:a<b+1)(k:c=b)(h1:d=b):a<=b:=by omega
def q1C{a:Int}(h:(0:Int)<a):a≠(0:Int):=by omega
def q1D{a b:Nat}(h:a+b<=1000):a<=1000:=by omega
def q1E{a:Nat}:-10^200<(a:Int):=by omega
def q1F{a b:Nat}(h:a+(b+1)<=900):a<1000:=by omega
def q1G{a b:Nat}(h:a<b):a<b+4\/b+4<a:=by omega
def q1H{a b:Nat}(h:a+(b+1)<=900):a+1+b<=900:=by omega
def q1I{a:Nat}(h:2<=a)(k:a<=7):1<=a:=by omega
def q1J{a b:Nat}(h:a*b<=8*6):a*b<=900:=by omega
def q1K{a b:Int}(h:a<=b)(k:b<=a):a=b:=by omega
def q1L{a b:Nat}:max a b<=1+max a b:=by omega
def q1M{a:Nat}(h:a<=59):a<=900:=by omega
def q1N{a b:Nat}(h:a<7)(k:b=7):a<b:=by omega
def q1O{a b:Nat}(h:a=b+2):a≠0:=by omega
def q1P{a b c:Nat}(h:a=b)(k:b<=59)(h1:c=b):a<=900:=by omega
def q1Q{a b:Nat}(h:a<10)(k:b=10):a<b:=by omega
def q1R{a b:Nat}:1+max a b<=1+max a b:=by omega
def q1S{a:Nat}(h:(a+1)*(a+1)<=8*8):(a+1)*(a+1)<=900:=by omega
def q1T{a b:Nat}(h:a<b)(k:b<=8):(a:Int)<10^200:=by omega
def q1U{a b:Nat}(h:a<b):a<b\/b<a:=by omega
def q1V{a b:Nat}(h:a<=b+1)(k:b<=a+1)(h1:¬(a<=b)):a=b+1:=by omega
def q1W{a:Nat}(h:a<=6):a<=1000000:=by omega
def q1X{a:Nat}(h:a<=8):a<=1000000:=by omega
def q1Y{a:Nat}(h:a<=100):(0:Int)<=(2:Int)*(a:Int)+(1:Int):=by omega
def q1Z{a:Int}(h:(0:Int)<a/\a<=(1000000:Int)):-10^200<a:=by omega
def q2a{a b c:Nat}(h:a=b)(k:b<=c):a<=c:=by omega
def q2b{a b c d e f:Nat}(h:a=min b c)(k:a<=d)(h1:e=b)(h2:f=c):e<=d\/f<=d:=by omega
def q2c{a:Int}(h:(0:Int)<=a):-10^200<a:=by omega
def q2d{a b c:Nat}(h:(12:Int)<(a:Int))(k:a<=59)(h1:b=a)(h2:c=a):0<=a:=by omega
def q2e{a b:Nat}(h:¬(a+1<b))(k:¬(b+1<a)):a<=b+1:=by omega
def q2f{a b c:Nat}(h:a=b)(k:c<=b):c<=a:=by omega
def q2g{a b:Nat}(h:a<b)(k:b<=8):(a:Int)<=(8:Int):=by omega
def q2h{a b:Nat}(h:a=b)(k:b<=60):a<=900:=by omega
def q2i{a:Int}(h:(0:Int)<a/\a<=(1000000:Int)):a<10^200:=by omega
def q2j{a:Nat}(h:2<=a/\a<=7):(0:Int)<(a:Int):=by omega
def q2k{a:Nat}(h:1<=a)(k:a<=8):a<=900:=by omega
def q2l{a b c d e:Nat}(h:a+1<b)(k:a<c+1)(h1:b<c+1)(h2:b=1+max d e):a<c:=by omega
def q2m{a:Nat}(h:a<=900):(0:Int)<=(a:Int):=by omega
def q2n{a b:Nat}(h:a<=b+1)(k:b<=a+1)(h1:¬(a<=b)):a≠0:=by omega
def q2o{a b c:Nat}(h:(a:Int)<(b:Int))(k:2<=b)(h1:b<=7)(h2:c<a):c<7:=by omega
def q2p{a b:Nat}(h:(a:Int)<(b:Int))(k:2<=b)(h1:b<=7):a<7:=by omega
def q2q{a:Nat}(h:a<=1000):(0:Int)<=(a:Int):=by omega
def q2r{a:Nat}(h:2<=a)(k:a<=7):(0:Int)<(a:Int)-(1:Int):=by omega
def q2s{a b:Nat}(h:a<=b+2)(k:b<=a+2)(h1:¬(a+1<b))(h2:¬(b+1<a)):a<=b+1:=by omega
def q2t{a:Nat}(h:a<=100):(a:Int)<=(100:Int):=by omega
def q2u{a:Int}(h:(0:Int)<=a)(k:a<=(100000:Int)):-2^62<=a:=by omega
def q2v{a:Nat}(h:a<=900):(a:Int)<=(1000:Int):=by omega
def q2w{a:Nat}(h:2<=a):(0:Int)<(a:Int)-(1:Int):=by omega
abbrev zzA:=PySem.W.Frag
abbrev zzB:=@List.length_map
abbrev zzC:=@List.mem_cons
abbrev zzD:=@List.mem_cons_of_mem
abbrev zzE:=@List.getElem?_eq_getElem
abbrev zzF:=@List.mem_cons_self
abbrev zzG:=@List.getElem?_eq_some_iff
abbrev zzH:=@List.size_toArray
abbrev zzI:=@List.getElem?_map
abbrev zzJ:=@List.length_append
abbrev zzK:=@Nat.lt_of_lt_of_le
abbrev zzL:=@List.mem_append_right
abbrev zzM:=@List.mem_append
abbrev zzN:=@Nat.le_refl
abbrev zzO:=@Nat.le_trans
abbrev zzP:=@List.mem_append_left
abbrev zzQ:=@Nat.ne_of_lt
abbrev zzR:=@List.mem_singleton
abbrev zzS:=@List.length_take
abbrev zzT:=@List.length_cons
abbrev zzU:=@List.length_set
abbrev zzV:=@Int.natCast_mul
abbrev zzW:=@List.nodup_cons
abbrev zzX:=@Option.map_eq_some_iff
abbrev zzY:=@List.getElem?_set_ne
abbrev zzZ:=@Option.some.inj
abbrev zyA:=@List.mem_of_getElem?
abbrev zyB:=@List.map_map
abbrev zyC:=@Bool.and_eq_true
abbrev zyD:=@Bool.or_true
abbrev zyE:=@List.append_nil
abbrev zyF:=@List.getD_eq_getElem?_getD
abbrev zyG:=@decide_eq_false
abbrev zyH:=@Int.emod_lt_of_pos
abbrev zyI:=@Int.toNat_natCast
abbrev zyJ:=@List.nodup_nil
abbrev zyK:=@List.getElem?_set_self
abbrev zyL:=@Option.bind_some
abbrev zyM:=@List.map_append
abbrev zyN:=@Int.emod_nonneg
abbrev zyO:=@decide_eq_true
abbrev zyP:=@List.getElem?_append_left
abbrev zyQ:=@List.drop_eq_getElem_cons
abbrev zyR:=@List.getElem?_append_right
abbrev zyS:=@List.map_cons
abbrev zyT:=@Array.length_toList
abbrev zyU:=@List.length_range
abbrev zyV:=@Bool.false_ne_true
abbrev zyW:=@Nat.le_succ
abbrev zyX:=@Nat.zero_add
abbrev zyY:=@Int.toNat_of_nonneg
abbrev zyZ:=@List.getElem_mem
abbrev zxA:=@Nat.lt_succ_of_lt
abbrev zxB:=@List.not_mem_nil
abbrev zxC:=@List.append_assoc
abbrev zxD:=@List.mem_map
abbrev zxE:=@List.nodup_append
abbrev zxF:=@PySem.wpAny_bind
abbrev zxG:=@PySem.wpAny_pure
abbrev zxH:=@PySem.Heap.get?_push_of_some
abbrev zxI:=@PySem.Heap.lt_size
abbrev zxJ:=@PySem.Heap.get?_push_size
abbrev zxK:=@PySem.wpAny_holding
abbrev zxL:=@PySem.Heap.size_push
abbrev zxM:=@PySem.wpAny_mono
abbrev zxN:=@PySem.wpAny_call_entry
section
namespace L2
open PySem PySem.Spec PyProof.Rows
abbrev Key:=Sum Int Str
noncomputable def Et:Key->Value->Bool
 | .inl k,v=>Value.isInt k v
 | .inr x,v=>Value.isStrOf x v
def df(w:World):Key->Int
 | .inl k=>hashInt k
 | .inr x=>hashStr w x
def yV:∀{k:Key}{v:Value},Et k v=true->(∃i t,k=Sum.inl i/\v=Value.int i t)\/(∃x t,k=Sum.inr x/\v=Value.str x t)
 | .inl i,v,h=>by
  obtain⟨t,e⟩:=Value.isInt_shape h;exact .inl ⟨i,t,rfl,e⟩
 | .inr x,v,h=>by
  obtain⟨t,e⟩:=Value.isStrOf_shape h;exact .inr ⟨x,t,rfl,e⟩
def JN(i)(t):Et (.inl i) (.int i t)=true:=by simp[Et,Value.isInt]
def Je(x)(t):Et (.inr x) (.str x t)=true:=by simp[Et,Value.isStrOf]
def oW(a b):decide ((Sum.inl a:Key)=Sum.inl b)=(a==b):=by
 by_cases e:a=b
 . subst e;simp
 . have h:¬(Sum.inl a:Key)=Sum.inl b:=λq=>e<|Sum.inl.inj q;rw[zyG h];exact(beq_eq_false_iff_ne.mpr e).symm
def lU(a b):decide ((Sum.inr a:Key)=Sum.inr b)=decide (a=b):=by
 by_cases e:a=b
 . subst e;simp
 . have h:¬(Sum.inr a:Key)=Sum.inr b:=λq=>e<|Sum.inr.inj q;rw[zyG h,zyG e]
def nS(a)(b):decide ((Sum.inl a:Key)=Sum.inr b)=false:=zyG (λq=>nomatch q)
def oZ(a)(b):decide ((Sum.inr a:Key)=Sum.inl b)=false:=zyG (λq=>nomatch q)
def wu(prog:Program)(w:World):PySem.KeyKind prog w Key where
 is:=Et
 hash:=df w
 inj:=λv a b ha hb=>by
  rcases yV ha with⟨i,t,rfl,rfl⟩|⟨x,t,rfl,rfl⟩
  . rcases yV hb with⟨j,u,rfl,e⟩|⟨y,u,rfl,e⟩
    . injection e with e1 _;rw[e1]
    . exact nomatch e
  . rcases yV hb with⟨j,u,rfl,e⟩|⟨y,u,rfl,e⟩
    . exact nomatch e
    . injection e with e1 _;rw[e1]
 byValue:=λk v h=>by
  rcases yV h with⟨i,t,rfl,rfl⟩|⟨x,t,rfl,rfl⟩<;>rfl
 pyHash:=λhv h=>by
  rcases yV hv with⟨i,t,rfl,rfl⟩|⟨x,t,rfl,rfl⟩
  . exact wpAny_pyHash_int h
  . exact wpAny_pyHash_str h
 eqBool:=λhu hv h=>by
  rcases yV hu with⟨i,t,rfl,rfl⟩|⟨x,t,rfl,rfl⟩
  . rcases yV hv with⟨j,u,rfl,rfl⟩|⟨y,u,rfl,rfl⟩
    . rw[oW]at h;exact wpAny_eqBool_int h
    . rw[nS]at h;exact SeqAt.EqAt.int_str i t y u _ _ _ _ h
  . rcases yV hv with⟨j,u,rfl,rfl⟩|⟨y,u,rfl,rfl⟩
    . rw[oZ]at h;exact SeqAt.EqAt.str_int x t j u _ _ _ _ h
    . rw[lU]at h;exact wpAny_eqBool_str h
 «strs» := λk x t v h=>by
  rcases yV h with⟨i,u,rfl,e⟩|⟨y,u,rfl,e⟩
  . exact nomatch e
  . injection e with e1 _
    subst e1;cases v<;>rfl
def Sf(prog)(w)(i)(t):(wu prog w).is (.inl i) (.int i t)=true:=JN i t
def QH(prog)(w)(x)(t):(wu prog w).is (.inr x) (.str x t)=true:=Je x t
end L2
namespace L2
open PySem PySem.Spec PyProof.Rows
inductive V where
 |non|bl (b:Bool)|int (i:Int)|str (x:Str)|byt (b:Array UInt8)|flt (b:UInt64)|ref (a:Addr)|ty (n:String)
 deriving DecidableEq
def RelV:V->Value->Prop
 | .non,u=>u=Value.none
 | .bl b,u=>u=Value.bool b
 | .int i,u=>∃t,u=Value.int i t
 | .str x,u=>∃t,u=Value.str x t
 | .byt b,u=>∃t,u=Value.bytes b t
 | .flt b,u=>∃t,u=Value.float b t
 | .ref a,u=>u=Value.ref a
 | .ty n,u=>u=Value.type n
abbrev zS:List V->List Value->Prop:=Paired RelV
theorem zS.length(r:zS xs us):xs.length=us.length:=Paired.length r
theorem zS.get:∀{xs:List V}{us:List Value}{i:Nat}{x:V},zS xs us->xs[i]? = some x->∃u,us[i]? = some u/\RelV x u
 |_,_,_,_,.nil,e=>by simp at e
 |_,_,0,_,.cons r _,e=>by simp at e;subst e;exact⟨_,rfl,r⟩
 |_,_,i+1,x,.cons _ t,e=>by
  obtain⟨u,h1,h2⟩:=zS.get t (by simpa using e);exact⟨u,by simpa using h1,h2⟩
theorem zS.append:∀{xs ys:List V}{us ws:List Value},zS xs us->zS ys ws->zS (xs++ys) (us++ws)
 |_,_,_,_,.nil,s=>s
 |_,_,_,_,.cons r t,s=>.cons r<|zS.append t s
theorem zS.take:∀{xs:List V}{us:List Value}(n:Nat),zS xs us->zS (xs.take n) (us.take n)
 |_,_,0,_=>.nil
 |_,_,_+1,.nil=>.nil
 |_,_,n+1,.cons r t=>.cons r<|zS.take n t
theorem zS.drop:∀{xs:List V}{us:List Value}(n:Nat),zS xs us->zS (xs.drop n) (us.drop n)
 |_,_,0,r=>r
 |_,_,_+1,.nil=>.nil
 |_,_,n+1,.cons _ t=>zS.drop n t
def RY:Option V->Option Value->Prop
 |some v,some u=>RelV v u
 |none,none=>True
 |_,_=>False
def KV{κ:Type}:List (κ×V)->List (κ×Value)->Prop:=Paired λ(p:κ×V) (q:κ×Value)=>p.1=q.1/\RelV p.2 q.2
def kV:Key->V
 | .inl i=>.int i
 | .inr x=>.str x
inductive HO where
 |lst (xs:List V)
 |tup (xs:List V)
 |dK (kvs:List (Key×V))|dT (kvs:List (List Key×V))
 |set (S:Int->Bool) (n:Nat)
 |ins (C dx:Addr) (fs:List (Str×V))
 |own (x:Addr)
 |xd (fs:List (Str×V))
 |met (f x:Addr)
 |rng (lo hi:Int)
 |frz (o:Obj) (u:HO)
 |tbl (ps:Array Value)
 |ext (φ:Heap->Prop)
abbrev Hp:=Addr->Option HO
noncomputable def upd(H:Hp)(a:Addr)(o:HO):Hp:=λb=>if b=a then some o else H b
def z_:upd H a o a=some o:=by unfold upd;rw[if_pos rfl]
def zG(h:b≠a):upd H a o b=H b:=by unfold upd;rw[if_neg h]
def zZ{H:Hp}{a b o}(h:H a=some o)(h':H b=none):a≠b:=by
 intro e;subst e;rw[h]at h';cases h'
section
variable(P:Program)(w:World)
def vH(H:Hp)(h:Heap)(a:Addr):HO->Prop
 | .lst xs=>xs.length<=sizeLine/\∃(its:List Value) (n:Nat),zS xs its/\h.get? a=some {cls:=.type "list",data:=.seq its.toArray n}
 | .tup xs=>xs.length<=sizeLine/\∃its:List Value,zS xs its/\IsTup h a its.toArray
 | .dK kvs=>kvs.length<=sizeLine/\(a==sysModules)=false/\∃vs,KV kvs vs/\h.DictOf (wu P w) a vs
 | .dT kvs=>kvs.length<=sizeLine/\(a==sysModules)=false/\∃xs:List (List Key×Addr×Value),
  Paired (λ(p:List Key×V) (q:List Key×Addr×Value)=>p.1=q.1/\H q.2.1=some (.tup<|p.1.map kV)/\RelV p.2 q.2.2) kvs xs/\
  ∃o es ep,h.get? a=some o/\o.ExactDict/\o.data = .dict es ep/\es.toList=xs.map (entryOfKey<|tupleKind<|wu P w)/\(xs.map (·.1)).Nodup
 | .set S n=>h.SetOf (intKind P w) a S n
 | .ins C dx fs=>H dx=some (.own a)/\fs.length<=1000/\dx≠a/\h.get? a=some (W.instObj C dx)/\
  ∃mA,h.Ns1 dx mA/\(∀f,RY (fs.lookup f)<|mA f)/\PySem.Within mA (fs.map (·.1))
 | .own _=>∃o,h.get? a=some o
 | .xd fs=>∃mA,h.Ns1 a mA/\∀f,RY (fs.lookup f)<|mA f
 | .rng lo hi=>∃t u v,h.get? a=some {cls:=.type "range",data:=.fields #[.int lo t,.int hi u,.int 1 v]}
 | .frz o u=>h.get? a=some o/\vH H h a u
 | .tbl ps=>h.get? a=some {cls:=.none,data:=.fields ps}
 | .met f x=>h.get? a=some (W.methodObj (.ref f)<|.ref x)
 | .ext φ=>φ h/\(∃o,h.get? a=some o)/\∀h1 h2:Heap,φ h1->(∀o,h1.get? a=some o->h2.get? a=some o)->φ h2
def GB(H:Hp)(h:Heap):Prop:=∀a o,H a=some o->vH P w H h a o
end
section
variable{P:Program}{w:World}{H H':Hp}{h h':Heap}{a:Addr}{o:HO}
theorem vH.lt(x:vH P w H h a o):a<h.objs.size:=by
 cases o with
 |lst xs=>obtain⟨_,_,_,_,e⟩:=x;exact zxI e
 |tup xs=>obtain⟨_,_,_,p⟩:=x;exact p.lt
 |dK kvs=>obtain⟨_,_,_,_,o,_,_,e,_⟩:=x;exact zxI e
 |dT kvs=>obtain⟨_,_,_,_,o,_,_,e,_⟩:=x;exact zxI e
 |set S n=>obtain⟨o,_,_,_,e,_⟩:=x;exact zxI e
 |ins C dx fs=>obtain⟨_,_,_,e,_⟩:=x;exact zxI e
 |own y=>obtain⟨_,e⟩:=x;exact zxI e
 |xd fs=>obtain⟨_,⟨_,_,_,e,_⟩,_⟩:=x;exact zxI e
 |rng lo hi=>obtain⟨_,_,_,e⟩:=x;exact zxI e
 |frz ob u=>obtain⟨e,_⟩:=x;exact zxI e
 |tbl ps=>exact zxI (x)
 |met f y=>exact zxI (x)
 |ext φ=>obtain⟨_,⟨_,e⟩,_⟩:=x;exact zxI e
theorem Paired.mapP:∀{l₁:List α}{l₂:List β},Paired F l₁ l₂->(∀a b,F a b->G a b)->Paired G l₁ l₂
 |_,_,.nil,_=>.nil
 |_,_,.cons r t,f=>.cons (f _ _ r)<|Paired.mapP t f
def vH.stay(x:vH P w H h a o)(k:∀b u,(b=a\/H b=some (.own a))->h.get? b=some u->h'.get? b=some u)
 (ho:∀b,H b=some (.own a)->H' b=some (.own a)) (ht:∀b xs,H b=some (.tup xs)->H' b=some (.tup xs)):vH P w H' h' a o:=by
 induction o with
 |lst xs=>obtain⟨z,its,n,r,e⟩:=x;exact⟨z,its,n,r,k _ _ (.inl rfl) e⟩
 |tup xs=>obtain⟨z,its,r,ob,e,c⟩:=x;exact⟨z,its,r,ob,k _ _ (.inl rfl) e,c⟩
 |dK kvs=>obtain⟨z,y,vs,r,ob,es,ep,e,c⟩:=x;exact⟨z,y,vs,r,ob,es,ep,k _ _ (.inl rfl) e,c⟩
 |dT kvs=>
  obtain⟨z,y,xs,r,ob,es,ep,e,c⟩:=x;exact⟨z,y,xs,Paired.mapP r λp q z=>⟨z.1,ht _ _ z.2.1,z.2.2⟩,ob,es,ep,k _ _ (.inl rfl) e,c⟩
 |set S n=>obtain⟨ob,es,ep,t,e,c⟩:=x;exact⟨ob,es,ep,t,k _ _ (.inl rfl) e,c⟩
 |ins C dx fs=>
  obtain⟨d,z,ne,e,mA,⟨od,es,ep,e2,c⟩,r⟩:=x;exact⟨ho _ d,z,ne,k _ _ (.inl rfl) e,mA,⟨od,es,ep,k _ _ (.inr d) e2,c⟩,r⟩
 |own y=>obtain⟨ob,e⟩:=x;exact⟨ob,k _ _ (.inl rfl) e⟩
 |xd fs=>obtain⟨mA,⟨od,es,ep,e,c⟩,r⟩:=x;exact⟨mA,⟨od,es,ep,k _ _ (.inl rfl) e,c⟩,r⟩
 |rng lo hi=>obtain⟨t,u,v,e⟩:=x;exact⟨t,u,v,k _ _ (.inl rfl) e⟩
 |frz ob u ih=>obtain⟨e,q⟩:=x;exact⟨k _ _ (.inl rfl) e,ih q⟩
 |tbl ps=>
  have e:=x;exact k a _ (.inl rfl) e
 |met f y=>
  have e:=x;exact k a _ (.inl rfl) e
 |ext φ=>obtain⟨p,⟨o,e⟩,st⟩:=x;exact⟨st _ _ p λo q=>k _ _ (.inl rfl) q,⟨o,k _ _ (.inl rfl) e⟩,st⟩
theorem GB.lt(x:GB P w H h)(e:H a=some o):a<h.objs.size:=(x a o e).lt
def GB.fresh(x:GB P w H h)(e:h.objs.size<=a):H a=none:=by
 cases q:H a with
 |none=>rfl
 |some u=>exact absurd (zzK (x.lt q) e) (Nat.lt_irrefl _)
def GB.kept(x:GB P w H h)(k:∀b u,h.get? b=some u->h'.get? b=some u):GB P w H h':=λa o e=>
 (x a o e).stay (λb u _ q=>k b u q) (λ_ q=>q) λ_ _ q=>q
def GB.laid(x:GB P w H h)(k:∀b u,h.get? b=some u->h'.get? b=some u)(hp:h.objs.size<=a)(new:vH P w (upd H a o) h' a o):GB P w (upd H a o) h':=λb u e=>by
 have hn:=x.fresh hp
 by_cases hb:b=a
 . subst hb;rw[z_]at e;cases e;exact new
 . rw[zG hb]at e;exact(x b u e).stay (λc v _ q=>k c v q) (λc q=>by rw[zG<|zZ q hn];exact q) λc xs q=>by rw[zG<|zZ q hn];exact q
end
def Rd(H:Hp)(a:Addr)(u:HO):Prop:=H a=some u\/∃o,H a=some (.frz o u)
def Rd.ok(r:Rd H a u)(x:GB P w H h):vH P w H h a u:=by
 rcases r with r|⟨o,r⟩
 . exact x a u r
 . obtain⟨_,q⟩:=x a _ r;exact q
def fu:Option HO->Prop
 |some (.lst _)=>True
 |some (.dK _)=>True
 |some (.dT _)=>True
 |some (.set _ _)=>True
 |some (.ins _ _ _)=>True
 |some (.ext _)=>True
 |_=>False
section
variable{P:Program}{w:World}{H:Hp}{h h':Heap}{x e:Addr}{o':HO}
def GB.write(ok:GB P w H h)(mu:fu (H x))(he:e=x\/H e=some (.own x))(k:∀b u,b≠e->h.get? b=some u->h'.get? b=some u)(heo:∃u,h'.get? e=some u)
 (new:vH P w (upd H x o') h' x o'):GB P w (upd H x o') h':=λb u q=>by
 have nown:∀c y,H c=some (.own y)->c≠x:=λc y r z=>by subst z;rw[r]at mu;exact mu
 have ntup:∀c xs,H c=some (.tup xs)->c≠x:=λc xs r z=>by subst z;rw[r]at mu;exact mu
 by_cases hb:b=x
 . subst hb;rw[z_]at q;cases q;exact new
 . rw[zG hb]at q
   by_cases hbe:b=e
   . have q':H b=some (.own x):=by
      rcases he with z|z
      . exact absurd (hbe.trans z) hb
      . rw[hbe];exact z
     rw[q]at q';cases q';obtain⟨v,hv⟩:=heo;exact⟨v,by rw[hbe];exact hv⟩
   . refine(ok b u q).stay (λc v hc r=>k c v ?_ r) (λc r=>by rw[zG<|nown c b r];exact r) λc xs r=>by rw[zG<|ntup c xs r];exact r
     rcases hc with rfl|hc
     . exact hbe
     . rintro rfl
       rcases he with z|z
       . exact nown c b hc z
       . rw[hc]at z;cases z;exact hb rfl
end
structure Un(fs ex:List Addr)(H H':Hp)(h h':Heap):Prop where
 keep:∀b o,h.get? b=some o->H b=none->b ∉ fs->b ∉ ex->h'.get? b=some o
 slot:∀b o,h.get? b=some o->H b=none->b ∈ fs->b ∉ ex->∃sl,h'.get? b=some {o with slots:=sl}
 free:∀b o,h.get? b=some o->H b=none->b ∉ ex->H' b=none
 there:∀b o,h.get? b=some o->b ∉ ex->∃o',h'.get? b=some o'
 tups:∀b xs,H b=some (.tup xs)->H' b=some (.tup xs)
 frzs:∀b o u,H b=some (.frz o u)->H' b=some (.frz o u)
 tbls:∀b ps,H b=some (.tbl ps)->∃more,H' b=some (.tbl<|ps++more)
section
variable{fs fs' ex ex':List Addr}{H H1 H2:Hp}{h h1 h2 h':Heap}{a x e:Addr}{o:HO}
def Un.any(u:Un fs ex H H1 h h1)(q:h.get? b=some ob)(n:H b=none)(hx:b ∉ ex):∃sl,h1.get? b=some {ob with slots:=sl}:=by
 by_cases hb:b ∈ fs
 . exact u.slot b ob q n hb hx
 . exact⟨ob.slots,u.keep b ob q n hb hx⟩
def Un.kept(k:∀b u,h.get? b=some u->h'.get? b=some u):Un fs ex H H h h':=
 ⟨λb ob q _ _ _=>k b ob q,λb ob q _ _ _=>⟨ob.slots,k b ob q⟩,λ_ _ _ n _=>n,λb ob q _=>⟨ob,k b ob q⟩,λ_ _ q=>q,λ_ _ _ q=>q,λ_ ps q=>⟨#[],by rw[q];simp⟩⟩
def Un.refl:Un fs ex H H h h:=Un.kept λ_ _ q=>q
def Un.laid(k:∀b u,h.get? b=some u->h'.get? b=some u)(hp:h.objs.size<=a)(hn:H a=none):Un fs ex H (upd H a o) h h' where
 keep:=λb u q _ _ _=>k b u q
 slot:=λb u q _ _ _=>⟨u.slots,k b u q⟩
 free:=λb u q n _=>by rw[zG<|zzQ<|zzK (zxI q) hp];exact n
 there:=λb u q _=>⟨u,k b u q⟩
 tups:=λb xs q=>by rw[zG<|zZ q hn];exact q
 frzs:=λb u xs q=>by rw[zG<|zZ q hn];exact q
 tbls:=λb ps q=>⟨#[],by rw[zG<|zZ q hn,q];simp⟩
def Un.write(mu:fu (H x))(he:e=x\/H e=some (.own x))(k:∀b u,b≠e->h.get? b=some u->h'.get? b=some u)(heo:∃u,h'.get? e=some u):Un fs ex H (upd H x o) h h':=by
 have hx:∀b,H b=none->b≠x:=λb n z=>by subst z;rw[n]at mu;exact mu
 have hb:∀b,H b=none->b≠e:=λb n z=>by
  subst z
  rcases he with r|r
  . exact hx b n r
  . rw[n]at r;cases r
 have hm:∀b u,H b=some u->¬fu (some u)->b≠x:=λb u q nm z=>by subst z;rw[q]at mu;exact nm mu
 refine⟨λb u q n _ _=>k b u (hb b n) q,λb u q n _ _=>⟨u.slots,k b u (hb b n) q⟩,λb u q n _=>by rw[zG<|hx b n];exact n,λb u q _=>?_,
  λb xs q=>by rw[zG<|hm b _ q λz=>z];exact q,λb u xs q=>by rw[zG<|hm b _ q λz=>z];exact q,λb ps q=>⟨#[],by rw[zG<|hm b _ q λz=>z,q];simp⟩⟩
 by_cases hbe:b=e
 . subst hbe;exact heo
 . exact⟨u,k b u hbe q⟩
end
def trk(h:Heap)(H:Hp):List Addr:=(List.range h.objs.size).filter λa=>(H a).isSome
def JW(h:Heap)(H:Hp):Heap:=W.hideAll h<|trk h H
def Ja(h)(H):(JW h H).objs.size=h.objs.size:=W.hideAll_size _ _
def DS(e:h.get? b=some o)(n:H b=none):(JW h H).get? b=some o:=
 W.hideAll_get _ e λhm=>by
  have q:=(List.mem_filter.mp hm).2;rw[n]at q;simp at q
def sO(e:(JW h H).get? b=some o):h.get? b=some o/\H b=none:=by
 have e':h.get? b=some o:=W.of_hideAll _ e;refine⟨e', ?_⟩;cases q:H b with
 |none=>rfl
 |some x=>
  have hm:b ∈ trk h H:=List.mem_filter.mpr ⟨List.mem_range.mpr<|zxI e',by simp[q]⟩;have z:(JW h H).get? b=none:=W.hideAll_none _ hm;rw[z]at e;cases e
end L2
namespace L2
open PySem PySem.Spec PyProof.Rows
structure Mod(K:zzA)(mg:Str->Option Value)(base:Heap):Prop where
 kin:K.In base
 glob:base.Ns mainGlobals mg
 blt:∃mb,base.Ns builtinsNs mb/\∀x:Str,x≠"__name__"->mb x=bootBuiltins x
 nolimit:base.NoLimit
structure Cx where
 prog:Program
 w:World
 K:zzA
 mg:Str->Option Value
 base:Heap
 A:Around
 N:List Str
 s₀:Shared
 H₀:Hp
 env:Env
 outer:List Env
 stack:List Env
 ex:List Addr
 fn:Str->Bool
 calm:Bool
 pn:List (Addr×Obj)
 xe:Value->Shared->Prop
def J3(l:List Env):List Addr:=l.filterMap (·.frame)
abbrev Cx.fs(X:Cx):List Addr:=J3 X.outer
def fH(sc:Scope)(x:Str):Prop:=sc.names.lookup x=some .local\/sc.names.lookup x=some .cell\/sc.names.lookup x=some .free
def Loc(sc:Scope)(x:Str):Prop:=sc.names.lookup x=some .local\/sc.names.lookup x=some .cell
def Look(env:Env)(h:Heap)(m:Str->Option Value)(x:Str)(u:Value):Prop:=
 (env.kindOf x=some .local/\m x=some u)\/((env.kindOf x=some .cell\/env.kindOf x=some .free)/\∃c,env.cells.lookup x=some c/\h.IsCell c (some u))
structure Cx.Ok(X:Cx):Prop where
 mod:Mod X.K X.mg X.base
 kind:X.env.scope.kind = .function
 glob:X.env.globals=mainGlobals
 blt:X.env.builtins=builtinsNs
 above:X.s₀.heap.objs.size<=X.env.locals
 inj:∀x y c,X.env.cells.lookup x=some c->X.env.cells.lookup y=some c->x=y
 has:∀x,(X.env.kindOf x=some .cell\/X.env.kindOf x=some .free)->∃c,X.env.cells.lookup x=some c
 cab:∀x c,X.fn x=true->X.env.cells.lookup x=some c->X.s₀.heap.objs.size<=c
 hd:X.calm=true->X.A.handled=none
 frames:X.A.frames=some X.stack
 stk:X.stack=X.outer\/(X.stack=X.env::X.outer/\X.env.frame=some X.env.locals)
 exf:∀b ∈ X.ex,b≠X.env.locals/\∀x c,X.env.cells.lookup x=some c->c≠b
 bs:∀b o,X.base.get? b=some o->X.s₀.heap.get? b=some o/\X.H₀ b=none
 bsz:X.base.objs.size<=X.s₀.heap.objs.size
 noex:∀b o,X.base.get? b=some o->b ∉ X.ex
 exfs:∀b ∈ X.ex,b ∉ X.fs
 funs:X.s₀.heap.FunFrames X.base X.outer
 frf:∀b ∈ X.fs,X.H₀ b=none
structure Inv(X:Cx)(pins:List (Addr×Obj))(σ:List (Option V))(H:Hp)(s:Shared):Prop where
 ok:X.Ok
 os:s.os=X.s₀.os
 bare:AllBare s.gens
 base:Un X.fs X.ex X.H₀ H X.s₀.heap s.heap
 loc:∃m,s.heap.Ns X.env.locals m/\∀(i:Nat) (x:Str) (v:V),X.N[i]? = some x->σ[i]? = some (some v)->fH X.env.scope x->∃u,RelV v u/\Look X.env s.heap m x u
 cell:∀x c,X.env.cells.lookup x=some c->∃v,s.heap.IsCell c v
 free:H X.env.locals=none
 freeC:∀x c,X.env.cells.lookup x=some c->H c=none
 pin:∀p ∈ X.pn++pins,s.heap.get? p.1=some p.2/\H p.1=none/\p.1≠X.env.locals/\p.1 ∉ X.fs/\∀v,p.2.data ≠ .cell v
 hok:GB X.prog X.w H s.heap
 len:σ.length=X.N.length
section
variable{X:Cx}{pins:List (Addr×Obj)}{σ:List (Option V)}{H H':Hp}{s:Shared}{h':Heap}
def Cx.Ok.nofr(ok:X.Ok)(e:X.base.get? b=some o):b ∉ X.fs:=λhb=>by
 have:=(ok.funs.mem hb).1;rw[e]at this;cases this
theorem Inv.bs(I:Inv X pins σ H s):∀b o,X.base.get? b=some o->s.heap.get? b=some o/\H b=none:=λb o e=>
 ⟨I.base.keep b o (I.ok.bs b o e).1 (I.ok.bs b o e).2 (I.ok.nofr e)<|I.ok.noex b o e,I.base.free b o (I.ok.bs b o e).1 (I.ok.bs b o e).2<|I.ok.noex b o e⟩
def Inv.bk(I:Inv X pins σ H s):∀b o,X.base.get? b=some o->s.heap.get? b=some o:=λb o e=>(I.bs b o e).1
theorem Inv.mod(I:Inv X pins σ H s):Mod X.K X.mg X.base:=I.ok.mod
def Inv.kIn(I:Inv X pins σ H s):X.K.In s.heap:=I.ok.mod.kin.keeps I.bk
theorem Inv.lt(I:Inv X pins σ H s):X.env.locals<s.heap.objs.size:=let⟨_,hn,_⟩:=I.loc;hn.lt
def Inv.sz(I:Inv X pins σ H s):X.s₀.heap.objs.size<=s.heap.objs.size:=zzO I.ok.above<|Nat.le_of_lt I.lt
def Inv.nofs(I:Inv X pins σ H s)(h:s.heap.objs.size<=a):a ∉ X.fs:=λhb=>by
 obtain⟨_,o,ho,_⟩:=I.ok.funs.mem hb;exact absurd (zzK (zxI ho)<|zzO I.sz h)<|Nat.lt_irrefl _
def Inv.cne(I:Inv X pins σ H s):∀x c,X.env.cells.lookup x=some c->c≠X.env.locals:=λx c e z=>by
 obtain⟨v,o,ho,hd⟩:=I.cell x c e;obtain⟨m,⟨o',es,ep,ho',hd',_⟩,_⟩:=I.loc;rw[z,ho']at ho;cases ho;rw[hd']at hd;cases hd
theorem Inv.funs(I:Inv X pins σ H s):s.heap.FunFrames X.base X.outer:=by
 have all:∀(l:List Env),(∀b ∈ J3 l,b ∈ X.fs)->X.s₀.heap.FunFrames X.base l->s.heap.FunFrames X.base l:=by
  intro l
  induction l with
  |nil=>intro _ _;trivial
  |cons env r ih=>
   intro hs hl;obtain⟨hk,⟨L,o,hf,hn,ho,hd⟩,hr⟩:=hl;have hL:=hs L (by unfold J3;rw[List.filterMap_cons,hf];exact zzF);obtain⟨sl,e⟩:=I.base.slot L o ho (I.ok.frf L hL) hL λz=>I.ok.exfs L z hL;exact⟨hk,⟨L,_,hf,hn,e,hd⟩,ih (λb hb=>hs b<|by unfold J3;rw[List.filterMap_cons,hf];exact zzD _ hb) hr⟩
 exact all X.outer (λ_ hb=>hb) I.ok.funs
theorem Inv.stack(I:Inv X pins σ H s):s.heap.FunFrames X.base X.stack:=by
 rcases I.ok.stk with e|⟨e,hf⟩
 . rw[e];exact I.funs
 . rw[e];obtain⟨m,hn,_⟩:=I.loc;refine .cons (by rw[I.ok.kind];decide) hf hn ?_ I.funs;exact Heap.get?_none_of_le<|zzO I.ok.bsz I.ok.above
def Inv.stkSub(I:Inv X pins σ H s):∀b ∈ J3 X.stack,b ∈ X.env.locals::X.fs:=λb hb=>by
 rcases I.ok.stk with e|⟨e,hf⟩
 . rw[e]at hb;exact zzD _ hb
 . rw[e]at hb;unfold J3 at hb;rw[List.filterMap_cons,hf]at hb;exact hb
def Inv.stkFree(I:Inv X pins σ H s):∀b ∈ J3 X.stack,H b=none:=λb hb=>by
 rcases zzC.mp (I.stkSub b hb)with e|hb
 . rw[e];exact I.free
 . obtain⟨_,o,ho,_⟩:=I.ok.funs.mem hb;exact I.base.free b o ho (I.ok.frf b hb) λz=>I.ok.exfs b z hb
def Inv.step{g'}{t':Nat}{d'}{ch:List Addr}(I:Inv X pins σ H s)
 (hch:∀b ∈ ch,(b ∈ X.ex\/X.s₀.heap.objs.size<=b)/\b≠X.env.locals/\(∀x c,X.env.cells.lookup x=some c->c≠b)/\∀p ∈ X.pn++pins,p.1≠b)
 (keep:∀b o,b≠X.env.locals->b ∉ X.fs->b ∉ ch->s.heap.get? b=some o->H b=none->h'.get? b=some o)
 (slot:∀b o,b≠X.env.locals->b ∈ X.fs->b ∉ ch->s.heap.get? b=some o->H b=none->∃sl,h'.get? b=some {o with slots:=sl}) (free:∀b o,b ∉ ch->s.heap.get? b=some o->H b=none->H' b=none)
 (there:∀b o,b ∉ ch->s.heap.get? b=some o->∃o',h'.get? b=some o')
 (tups:∀b xs,H b=some (.tup xs)->H' b=some (.tup xs)) (frzs:∀b o u,H b=some (.frz o u)->H' b=some (.frz o u)) (tbls:∀b ps,H b=some (.tbl ps)->∃more,H' b=some (.tbl<|ps++more))
 (ns:∀m,s.heap.Ns X.env.locals m->h'.Ns X.env.locals m) (hok:GB X.prog X.w H' h') (hg:AllBare g'):
 Inv X pins σ H' {s with heap:=h',gens:=g',drawn:=d',toks:=t'}:=by
 have neL:∀b o,X.s₀.heap.get? b=some o->b≠X.env.locals:=λb o e=>zzQ<|zzK (zxI e) I.ok.above;have neC:∀b o,X.s₀.heap.get? b=some o->b ∉ X.ex->b ∉ ch:=λb o e hx hb=>by
  rcases(hch b hb).1 with z|z
  . exact hx z
  . exact absurd (zzK (zxI e) z)<|Nat.lt_irrefl _
 have cellK:∀x c,X.env.cells.lookup x=some c->∀v,s.heap.IsCell c v->h'.IsCell c v:=λx c e v ⟨o,ho,hd⟩=>by
  have nch:=λz=>(hch c z).2.2.1 x c e rfl
  by_cases hc:c ∈ X.fs
  . obtain⟨sl,q⟩:=slot c o (I.cne x c e) hc nch ho<|I.freeC x c e;exact⟨_,q,hd⟩
  . exact⟨o,keep c o (I.cne x c e) hc nch ho<|I.freeC x c e,hd⟩
 refine⟨I.ok,I.os,hg,⟨λb o e n hb hx=>?_,λb o e n hb hx=>?_,λb o e n hx=>?_,λb o e hx=>?_,λb xs e=>tups b xs<|I.base.tups b xs e,λb o xs e=>frzs b o xs<|I.base.frzs b o xs e,λb ps e=>?_⟩, ?_,λx c e=>?_, ?_,λx c e=>?_,λp hp=>?_,hok,I.len⟩
 . exact keep b o (neL b o e) hb (neC b o e hx) (I.base.keep b o e n hb hx)<|I.base.free b o e n hx
 . obtain⟨sl,e1⟩:=I.base.slot b o e n hb hx;obtain⟨sl',e2⟩:=slot b _ (neL b o e) hb (neC b o e hx) e1<|I.base.free b o e n hx;exact⟨sl',e2⟩
 . obtain⟨o',e1⟩:=I.base.there b o e hx;exact free b o' (neC b o e hx) e1<|I.base.free b o e n hx
 . obtain⟨o',e1⟩:=I.base.there b o e hx;exact there b o' (neC b o e hx) e1
 . obtain⟨m1,e1⟩:=I.base.tbls b ps e;obtain⟨m2,e2⟩:=tbls b _ e1;exact⟨m1++m2,by rw[e2,Array.append_assoc]⟩
 . obtain⟨m,hn,hl⟩:=I.loc;refine⟨m,ns m hn,λi x v e1 e2 e3=>?_⟩;obtain⟨u,r,l⟩:=hl i x v e1 e2 e3;refine⟨u,r, ?_⟩
   rcases l with l|⟨k,c,e,z⟩
   . exact .inl l
   . exact .inr ⟨k,c,e,cellK x c e _ z⟩
 . obtain⟨v,z⟩:=I.cell x c e;exact⟨v,cellK x c e v z⟩
 . obtain⟨m,⟨o,_,_,ho,_⟩,_⟩:=I.loc;exact free _ o (λz=>(hch _ z).2.1 rfl) ho I.free
 . obtain⟨v,o,ho,hd⟩:=I.cell x c e;exact free c o (λz=>(hch c z).2.2.1 x c e rfl) ho<|I.freeC x c e
 . obtain⟨e,n,ne,nf,d⟩:=I.pin p hp;have nch:=λz=>(hch p.1 z).2.2.2 p hp rfl;exact⟨keep p.1 p.2 ne nf nch e n,free p.1 p.2 nch e n,ne,nf,d⟩
def Inv.un{t':Nat}(I:Inv X pins σ H s)(u:Un X.fs [] H H' s.heap h')(hok:GB X.prog X.w H' h'):Inv X pins σ H' {s with heap:=h',toks:=t'}:=by
 obtain⟨m,⟨o,es,ep,ho,r⟩,_⟩:=id I.loc;obtain⟨sl,hL⟩:=u.any ho I.free (by simp);exact I.step (g':=s.gens) (d':=s.drawn) (ch:=[]) (λ_ z=>nomatch z) (λb o _ hb _ e n=>u.keep b o e n hb<|by simp) (λb o _ hb _ e n=>u.slot b o e n hb<|by simp) (λb o _ e n=>u.free b o e n<|by simp) (λb o _ e=>u.there b o e<|by simp) u.tups u.frzs u.tbls (λm' hm=>by
  obtain⟨o',es',ep',ho',r'⟩:=hm;rw[ho]at ho';cases ho';exact⟨_,es',ep',hL,r'⟩) hok I.bare
def Inv.call{g'}{t':Nat}{d'}{ch:List Addr}(I:Inv X pins σ H s)(u:Un (J3 X.stack) ch H H' s.heap h')(hok:GB X.prog X.w H' h')(hg:AllBare g')
 (hch:∀b ∈ ch,(b ∈ X.ex\/X.s₀.heap.objs.size<=b)/\b≠X.env.locals/\(∀x c,X.env.cells.lookup x=some c->c≠b)/\∀p ∈ X.pn++pins,p.1≠b):
 Inv X pins σ H' {s with heap:=h',gens:=g',drawn:=d',toks:=t'}:=by
 obtain⟨m,⟨o,es,ep,ho,r⟩,_⟩:=id I.loc;obtain⟨sl,hL⟩:=u.any ho I.free λz=>(hch _ z).2.1 rfl;exact I.step hch (λb o hL hb hc e n=>u.keep b o e n (λz=>(zzC.mp<|I.stkSub b z).elim hL hb) hc) (λb o _ _ hc e n=>u.any e n hc) (λb o hc e n=>u.free b o e n hc) (λb o hc e=>u.there b o e hc) u.tups u.frzs u.tbls (λm' hm=>by
  obtain⟨o',es',ep',ho',r'⟩:=hm;rw[ho]at ho';cases ho';exact⟨_,es',ep',hL,r'⟩) hok hg
def Inv.turned{t':Nat}{it:Addr}(I:Inv X pins σ H s)(k:∀b o,b≠it->s.heap.get? b=some o->h'.get? b=some o)(hn:H it=none)(hL:it≠X.env.locals)
 (h1:it ∈ X.ex\/X.s₀.heap.objs.size<=it) (h2:∀x c,X.env.cells.lookup x=some c->c≠it) (h3:∀p ∈ X.pn++pins,p.1≠it):Inv X pins σ H {s with heap:=h',toks:=t'}:=by
 have nit:∀b u,H b=some u->b≠it:=λb u e z=>by rw[z,hn]at e;cases e
 refine I.step (g':=s.gens) (d':=s.drawn) (ch:=[it]) (λb hb=>?_) (λb o _ _ hc e _=>k b o (λz=>hc<|by simp[z]) e) (λb o _ _ hc e _=>⟨o.slots,k b o (λz=>hc<|by simp[z]) e⟩) (λ_ _ _ _ n=>n)
  (λb o hc e=>⟨o,k b o (λz=>hc<|by simp[z]) e⟩) (λ_ _ e=>e) (λ_ _ _ e=>e) (λb ps e=>⟨#[],by rw[e];simp⟩) (λm hm=>?_) (λb u e=>?_) I.bare
 . have e:b=it:=by simpa using hb
   subst e;exact⟨h1,hL,h2,h3⟩
 . obtain⟨o,es,ep,ho,r⟩:=hm;exact⟨o,es,ep,k _ o (Ne.symm hL) ho,r⟩
 . refine(I.hok b u e).stay (λc v hc q=>k c v ?_ q) (λ_ q=>q) λ_ _ q=>q
   rcases hc with z|z
   . rw[z];exact nit b u e
   . exact nit c _ z
def Inv.tok(I:Inv X pins σ H s)(t:Nat):Inv X pins σ H {s with toks:=t}:=I.un (h':=s.heap) (t':=t) Un.refl I.hok
theorem Inv.kept(I:Inv X pins σ H s)(k:∀b u,s.heap.get? b=some u->h'.get? b=some u):Inv X pins σ H {s with heap:=h',toks:=t'}:=I.un (Un.kept k)<|I.hok.kept k
theorem Inv.laid(I:Inv X pins σ H s)(k:∀b u,s.heap.get? b=some u->h'.get? b=some u)(hp:s.heap.objs.size<=a)(new:vH X.prog X.w (upd H a o) h' a o):
 Inv X pins σ (upd H a o) {s with heap:=h',toks:=t'}:=I.un (Un.laid k hp<|I.hok.fresh hp)<|I.hok.laid k hp new
theorem Inv.write(I:Inv X pins σ H s)(mu:fu (H x))(he:e=x\/H e=some (.own x))(k:∀b u,b≠e->s.heap.get? b=some u->h'.get? b=some u)(heo:∃u,h'.get? e=some u)
 (new:vH X.prog X.w (upd H x o) h' x o):Inv X pins σ (upd H x o) {s with heap:=h',toks:=t'}:=I.un (Un.write mu he k heo)<|I.hok.write mu he k heo new
def Inv.weak(I:Inv X pins σ H s)(hl:σ'.length=σ.length)(w:∀(i:Nat) v,σ'[i]? = some (some v)->σ[i]? = some (some v)):Inv X pins σ' H s:=
 ⟨I.ok,I.os,I.bare,I.base,let⟨m,hn,hl'⟩:=I.loc;⟨m,hn,λi x v e1 e2 e3=>hl' i x v e1 (w i v e2) e3⟩,I.cell,I.free,I.freeC,I.pin,I.hok,hl.trans I.len⟩
def Inv.pins_of(I:Inv X pins σ H s)(h:∀p ∈ pins',s.heap.get? p.1=some p.2/\H p.1=none/\p.1≠X.env.locals/\p.1 ∉ X.fs/\∀v,p.2.data ≠ .cell v):Inv X pins' σ H s:=
 ⟨I.ok,I.os,I.bare,I.base,I.loc,I.cell,I.free,I.freeC,λp hp=>(zzM.mp hp).elim (λz=>I.pin p<|zzP _ z)<|h p,I.hok,I.len⟩
def SZ{N:List Str}(hN:N.Nodup){i j:Nat}{x}(a:N[i]? = some x)(b:N[j]? = some x):i=j:=by
 obtain⟨h1,e1⟩:=zzG.mp a;obtain⟨h2,e2⟩:=zzG.mp b;exact(List.getElem_inj hN).mp<|e1.trans e2.symm
def EV{M A E}{i:Nat}{x v u Q}(I:Inv X pins σ H s)(hN:X.N.Nodup)(hi:X.N[i]? = some x)(hx:Loc X.env.scope x)(r:RelV v u)
 (h:∀s',Inv X pins (σ.set i<|some v) H s'->(∃a,Heap.SameBut a s.heap s'.heap/\(a=X.env.locals\/X.env.cells.lookup x=some a))->Q () s') (hf:X.fn x=true\/X.env.scope.names.lookup x=some .local:=by first|exact .inl rfl|exact .inr rfl|assumption):wpAny M A (storeName X.env x u) Q E s:=by
 obtain⟨m,hn,hl⟩:=id I.loc;have hcls:(X.env.scope.kind == .class||(X.env.scope.kind == .module&&X.env.locals != X.env.globals))=false:=by rw[I.ok.kind];rfl
 have hiσ:i<σ.length:=by rw[I.len];exact(zzG.mp hi).1
 have cne:=I.cne;have tracked:∀{a:Addr}{h':Heap},(∃o,s.heap.get? a=some o/\H a=none)->Heap.SameBut a s.heap h'->GB X.prog X.w H h':=λ{a h'} ha hs b ob e=>by
  obtain⟨_,_,hfree⟩:=ha;refine(I.hok b ob e).stay (λc w' hc q=>(hs.2 c ?_).trans q) (λ_ q=>q) λ_ _ q=>q
  rintro rfl
  rcases hc with rfl|hc
  . rw[hfree]at e;cases e
  . rw[hfree]at hc;cases hc
 rcases hx with hk|hk
 . refine wpAny_storeName_local hk hn (λh' hn' hs=>?_) hcls;obtain⟨oL,_,_,hoL,_⟩:=id hn;refine h _ ⟨I.ok,I.os,I.bare,⟨λb o e n hb hx=>?_,λb o e n hb hx=>?_,I.base.free,λb o e hx=>?_,I.base.tups,I.base.frzs,I.base.tbls⟩,⟨_,hn',λj y v' e1 e2 e3=>?_⟩,λy c e=>?_,I.free,I.freeC,λp hp=>?_,tracked ⟨oL,hoL,I.free⟩ hs,by simpa using I.len⟩ ⟨_,hs,.inl rfl⟩
   . exact(hs.2 b<|zzQ<|zzK (zxI e) I.ok.above).trans<|I.base.keep b o e n hb hx
   . obtain⟨sl,e1⟩:=I.base.slot b o e n hb hx;exact⟨sl,(hs.2 b<|zzQ<|zzK (zxI e) I.ok.above).trans e1⟩
   . obtain⟨o',e1⟩:=I.base.there b o e hx;exact⟨o',(hs.2 b<|zzQ<|zzK (zxI e) I.ok.above).trans e1⟩
   . by_cases hj:j=i
     . subst hj;rw[hi]at e1;cases e1;rw[zyK hiσ]at e2;cases e2;exact⟨u,r,.inl ⟨hk,by simp⟩⟩
     . rw[zzY<|Ne.symm hj]at e2;obtain⟨u',r',q⟩:=hl j y v' e1 e2 e3;refine⟨u',r', ?_⟩
       rcases q with⟨k,e⟩|⟨k,c,e,z⟩
       . refine .inl ⟨k, ?_⟩;have:y≠x:=λe=>hj<|SZ hN e1<|e ▸ hi;simp[this,e]
       . exact .inr ⟨k,c,e,z.sameBut hs<|cne y c e⟩
   . obtain⟨w',z⟩:=I.cell y c e;exact⟨w',z.sameBut hs<|cne y c e⟩
   . obtain⟨e,n,ne,nf,d⟩:=I.pin p hp;exact⟨(hs.2 p.1 ne).trans e,n,ne,nf,d⟩
 . have hfn:X.fn x=true:=by
    rcases hf with z|z
    . exact z
    . rw[z]at hk;cases hk
   obtain⟨c,hc⟩:=I.ok.has x<|.inl hk;obtain⟨w',z⟩:=I.cell x c hc;refine wpAny_storeName_cell I.ok.kind hk hc z λh' hc' hs=>?_;obtain⟨oc,hoc,hocd⟩:=id z;refine h {s with heap:=h'} ⟨I.ok,I.os,I.bare,⟨λb o e n hb hx=>?_,λb o e n hb hx=>?_,I.base.free,λb o e hx=>?_,I.base.tups,I.base.frzs,I.base.tbls⟩,⟨m,hn.sameBut hs<|Ne.symm<|cne x c hc,λj y v' e1 e2 e3=>?_⟩,λy c' e=>?_,I.free,I.freeC,λp hp=>?_,tracked ⟨oc,hoc,I.freeC x c hc⟩ hs,by simpa using I.len⟩ ⟨c,hs,.inr hc⟩
   . exact(hs.2 b<|zzQ<|zzK (zxI e)<|I.ok.cab x c hfn hc).trans<|I.base.keep b o e n hb hx
   . obtain⟨sl,e1⟩:=I.base.slot b o e n hb hx;exact⟨sl,(hs.2 b<|zzQ<|zzK (zxI e)<|I.ok.cab x c hfn hc).trans e1⟩
   . obtain⟨o',e1⟩:=I.base.there b o e hx;exact⟨o',(hs.2 b<|zzQ<|zzK (zxI e)<|I.ok.cab x c hfn hc).trans e1⟩
   . by_cases hj:j=i
     . subst hj;rw[hi]at e1;cases e1;rw[zyK hiσ]at e2;cases e2;exact⟨u,r,.inr ⟨.inl hk,c,hc,hc'⟩⟩
     . rw[zzY<|Ne.symm hj]at e2;obtain⟨u',r',q⟩:=hl j y v' e1 e2 e3;refine⟨u',r', ?_⟩
       rcases q with q|⟨k,c',e,z'⟩
       . exact .inl q
       . refine .inr ⟨k,c',e,z'.sameBut hs ?_⟩
         rintro rfl
         exact hj<|SZ hN e1<|I.ok.inj _ _ _ e hc ▸ hi
   . by_cases hcc:c'=c
     . subst hcc;exact⟨_,hc'⟩
     . obtain⟨w2,z2⟩:=I.cell y c' e;exact⟨w2,z2.sameBut hs hcc⟩
   . obtain⟨e,n,ne,nf,d⟩:=I.pin p hp;refine⟨(hs.2 p.1 ?_).trans e,n,ne,nf,d⟩;intro q;rw[q,hoc]at e;have q':oc=p.2:=zzZ e;exact d w' (by rw[<-q'];exact hocd)
def SW(I:Inv X pins σ H s)(hN:X.N.Nodup)(hi:X.N[i]? = some x)(hx:Loc X.env.scope x)(r:RelV v u)
 (h:∀s',Inv X pins (σ.set i<|some v) H s'->Q () s') (hf:X.fn x=true\/X.env.scope.names.lookup x=some .local:=by first|exact .inl rfl|exact .inr rfl|assumption):wpAny M A (storeName X.env x u) Q E s:=
 EV I hN hi hx r (λs' I' _=>h s' I') hf
def Inv.call'(I:Inv X pins σ H s)(ho:s'.os=s.os)(u:Un (J3 X.stack) ch H H' s.heap s'.heap)(hok:GB X.prog X.w H' s'.heap)(hg:AllBare s'.gens)
 (hch:∀b ∈ ch,(b ∈ X.ex\/X.s₀.heap.objs.size<=b)/\b≠X.env.locals/\(∀x c,X.env.cells.lookup x=some c->c≠b)/\∀p ∈ X.pn++pins,p.1≠b):Inv X pins σ H' s':=by
 obtain⟨h',g',d',t',o'⟩:=s';have e:=ho;subst e;exact I.call (g':=g') (t':=t') (d':=d') u hok hg hch
end
abbrev XK:=Value->Option Addr->Hp->Prop
abbrev St:=List<|Option V
abbrev VK:=V->Hp->Prop
abbrev TE:=St->Hp->VK->Prop
abbrev TT:=St->Hp->(Bool->Hp->Prop)->Prop
abbrev TA:=St->Hp->(List V->Hp->Prop)->Prop
structure Ends where
 nx:St->Hp->Prop
 rt:VK
 bk:St->Hp->Prop:=λ_ _=>False
 ct:St->Hp->Prop:=λ_ _=>False
abbrev TS:=Ends->St->Hp->Prop
def EP(X:Cx)(pins:List (Addr×Obj))(σ:St)(Q:VK)(u:Value)(s':Shared):Prop:=∃v H',Inv X pins σ H' s'/\RelV v u/\Q v H'
def TP(X:Cx)(pins:List (Addr×Obj))(σ:St)(Q:Bool->Hp->Prop)(b:Bool)(s':Shared):Prop:=∃H',Inv X pins σ H' s'/\Q b H'
def AP(X:Cx)(pins:List (Addr×Obj))(σ:St)(Q:List V->Hp->Prop)(us:List Value)(s':Shared):Prop:=∃vs H',Inv X pins σ H' s'/\zS vs us/\Q vs H'
def SP(X:Cx)(pins:List (Addr×Obj))(D:Ends)(f:Flow)(s':Shared):Prop:=
 match f with
 | .next=>∃σ' H',Inv X pins σ' H' s'/\D.nx σ' H'
 | .brk=>∃σ' H',Inv X pins σ' H' s'/\D.bk σ' H'
 | .cont=>∃σ' H',Inv X pins σ' H' s'/\D.ct σ' H'
 | .ret u=>∃v σ' H',Inv X pins σ' H' s'/\RelV v u/\D.rt v H'
def PE(X:Cx)(e:Expr)(t:TE):Prop:=
 ∀(pins:List (Addr×Obj)) (s:Shared) (σ:St) (H:Hp) (Q:VK),Inv X pins σ H s->t σ H Q->wpAny (model X.prog X.w) X.A (eval e X.env) (EP X pins σ Q) X.xe s
def PT(X:Cx)(e:Expr)(t:TT):Prop:=
 ∀(pins:List (Addr×Obj)) (s:Shared) (σ:St) (H:Hp) (Q:Bool->Hp->Prop),Inv X pins σ H s->t σ H Q->wpAny (model X.prog X.w) X.A (isTrue e X.env<|eval e X.env) (TP X pins σ Q) X.xe s
def PW(X:Cx)(e:Expr)(t:TT):Prop:=
 ∀(whole:Sem Value) (pins:List (Addr×Obj)) (s:Shared) (σ:St) (H:Hp) (Q:Bool->Hp->Prop),Inv X pins σ H s->t σ H Q->wpAny (model X.prog X.w) X.A (isTrue e X.env whole) (TP X pins σ Q) X.xe s
def PW.pt(h:PW X e t):PT X e t:=h _
def PA(X:Cx)(es:List Expr)(t:TA):Prop:=
 ∀(pos:Pos) (pins:List (Addr×Obj)) (s:Shared) (σ:St) (H:Hp) (Q:List V->Hp->Prop),Inv X pins σ H s->t σ H Q->wpAny (model X.prog X.w) X.A (spliced<|backTo pos<|starEach es X.env) (AP X pins σ Q) X.xe s
def PS(X:Cx)(st:Stmt)(t:TS):Prop:=
 ∀(pins:List (Addr×Obj)) (s:Shared) (σ:St) (H:Hp) (D:Ends),Inv X pins σ H s->t D σ H->wpAny (model X.prog X.w) X.A (exec st X.env) (SP X pins D) X.xe s
def FI(X:Cx)(st:List Stmt)(t:TS):Prop:=
 ∀(pins:List (Addr×Obj)) (s:Shared) (σ:St) (H:Hp) (D:Ends),Inv X pins σ H s->t D σ H->wpAny (model X.prog X.w) X.A (execs st X.env) (SP X pins D) X.xe s
def wo(h:wpAny M A t Q E s)(hQ:∀a s,Q a s->Q' a s):wpAny M A t Q' E s:=zxM h hQ λ_ _ x=>x
end L2
namespace L2
open PySem PySem.Spec PyProof.Rows
section
variable{X:Cx}
def Ry(i:Nat):TE:=λσ H Q=>∃v,σ[i]? = some (some v)/\Q v H
def tC(v:V):TE:=λ_ H Q=>Q v H
def AV(hN:X.N[i]? = some x)(hv:fH X.env.scope x)(hd:(x==("__debug__":Str))=false:=by decide)(hcd:(x==("__classdict__":Str))=false:=by decide):PE X (.Name x pos) (Ry i):=by
 intro pins s σ H Q I h;obtain⟨v,e,h⟩:=h;obtain⟨m,hn,hl⟩:=I.loc;obtain⟨u,r,l⟩:=hl i x v hN e hv;have fin:EP X pins σ Q u s:=⟨v,H,I,r,h⟩
 rcases l with⟨hk,hm⟩|⟨hk,c,hc,hcell⟩
 . exact wpAny_Name (wpAny_loadName_local I.ok.kind hk hn hm fin) hd
 . rcases hk with hk|hk
   . exact wpAny_Name (wpAny_loadName_cell I.ok.kind hk hc hcell fin) hd
   . exact wpAny_Name (wpAny_loadName_free I.ok.kind hk hc hcell fin hcd) hd
def nG:PE X (.Constant (.int i) j pos) (tC<|.int i):=λ_ _ _ H _ I h=>wpAny_Constant_int ⟨.int i,H,I.tok _,⟨_,rfl⟩,h⟩
def iA:PE X (.Constant (.bool b) j pos) (tC<|.bl b):=λ_ _ _ H _ I h=>Constant_bool ⟨.bl b,H,I,rfl,h⟩
def lZ:PE X (.Constant .none j pos) (tC .non):=λ_ _ _ H _ I h=>Constant_none ⟨.non,H,I,rfl,h⟩
def oV:PE X (.Constant (.str x) j pos) (tC<|.str x):=λ_ _ _ H _ I h=>Calls.Constant_str ⟨.str x,H,I.tok _,⟨_,rfl⟩,h⟩
def Gl(X:Cx)(x:Str):Prop:=X.env.kindOf x=some .globalImplicit
def Bz(I:Inv X pins σ H s)(hg:Gl X x)(hm:X.mg x=some u)(h:Q u s)
 (hd:(x==("__debug__":Str))=false:=by decide):wpAny (model X.prog X.w) X.A (eval (.Name x pos) X.env) Q E s:=
 Calls.Name_function_global I.ok.kind hg (Calls.loadGlobal_global (by rw[I.ok.glob];exact I.mod.glob.keeps I.bk) hm h) hd
def Va(I:Inv X pins σ H s)(hg:Gl X x)(hm:X.mg x=none)(hv:bootBuiltins x=some u)(h:Q u s)
 (hn:x≠"__name__":=by decide) (hd:(x==("__debug__":Str))=false:=by decide):wpAny (model X.prog X.w) X.A (eval (.Name x pos) X.env) Q E s:=by
 obtain⟨mb,h1,h2⟩:=I.mod.blt;exact Calls.Name_function_global I.ok.kind hg (Calls.loadGlobal_builtin (by rw[I.ok.glob];exact I.mod.glob.keeps I.bk) hm (by rw[I.ok.blt];exact h1.keeps I.bk) ((h2 x hn).trans hv) h) hd
def rO(hg:Gl X x)(hm:X.mg x=some u)(r:RelV v u)(hd:(x==("__debug__":Str))=false:=by decide):PE X (.Name x pos) (tC v):=
 λ_ _ _ H _ I h=>Bz I hg hm ⟨v,H,I,r,h⟩ hd
def qe(hg:Gl X x)(hm:X.mg x=none)(hv:bootBuiltins x=some u)(r:RelV v u)(hn:x≠"__name__":=by decide)(hd:(x==("__debug__":Str))=false:=by decide):PE X (.Name x pos) (tC v):=
 λ_ _ _ H _ I h=>Va I hg hm hv ⟨v,H,I,r,h⟩ hn hd
variable{a b:Expr}{ta tb:TE}{pos:Pos}
variable{tA tB':TT}{rest:List Expr}
def fO(t u:TT):TT:=λσ H Q=>t σ H λc H1=>if c=true then u σ H1 Q else Q false H1
def ae(t u:TT):TT:=λσ H Q=>t σ H λc H1=>if c=true then Q true H1 else u σ H1 Q
def dF(t:TT):TT:=λσ H Q=>t σ H λc H1=>Q (!c) H1
def rR(ha:PT X a tA):PW X (.BoolOp .And [a] pos) tA:=by
 intro wh pins s σ H Q I h;refine isTrue_and<|wo (ha pins s σ H Q I h) λc s1 e=>?_;cases c with
 |true=>exact isTrue_and_nil e
 |false=>exact e
def ou(ha:PT X a tA):PW X (.BoolOp .Or [a] pos) tA:=by
 intro wh pins s σ H Q I h;refine isTrue_or<|wo (ha pins s σ H Q I h) λc s1 e=>?_;cases c with
 |false=>exact isTrue_or_nil e
 |true=>exact e
def mM(ha:PT X a tA)(hb:PW X (.BoolOp .And (b::rest) pos) tB'):PW X (.BoolOp .And (a::b::rest) pos) (fO tA tB'):=by
 intro wh pins s σ H Q I h;refine isTrue_and<|wo (ha pins s σ H _ I h) λc s1 ⟨H1,I1,q1⟩=>?_;cases c with
 |true=>exact hb wh pins s1 σ H1 Q I1 q1
 |false=>exact⟨H1,I1,q1⟩
def gK(ha:PT X a tA)(hb:PW X (.BoolOp .Or (b::rest) pos) tB'):PW X (.BoolOp .Or (a::b::rest) pos) (ae tA tB'):=by
 intro wh pins s σ H Q I h;refine isTrue_or<|wo (ha pins s σ H _ I h) λc s1 ⟨H1,I1,q1⟩=>?_;cases c with
 |true=>exact⟨H1,I1,q1⟩
 |false=>exact hb wh pins s1 σ H1 Q I1 q1
def mS(ha:PT X a tA):PT X (.UnaryOp .Not a pos) (dF tA):=by
 intro pins s σ H Q I h;exact isTrue_not<|ha pins s σ H (λc H1=>Q (!c) H1) I h
def gu(ta tb:TE):TE:=λσ H Q=>ta σ H λx H1=>∃c,x = .bl c/\if c=true then tb σ H1 Q else Q (.bl false) H1
def gq(ta:TE):TE:=λσ H Q=>ta σ H λx H1=>∃c,x = .bl c/\Q (.bl<|!c) H1
def md(h:PE X a t):PE X (.BoolOp op [a] pos) t:=λpins s σ H Q I hw=>BoolOp_one<|h pins s σ H Q I hw
def oY(ha:PE X a ta)(hb:PE X (.BoolOp .And (b::rest) pos) tb):PE X (.BoolOp .And (a::b::rest) pos) (gu ta tb):=by
 intro pins s σ H Q I h;refine BoolOp_and<|wo (ha pins s σ H _ I h) λv s1 ⟨x,H1,I1,r1,q1⟩=>?_;obtain⟨c,rfl,q1⟩:=q1;cases r1;refine wpAny_truthy_bool ?_;cases c with
 |true=>exact hb pins s1 σ H1 Q I1 q1
 |false=>exact⟨.bl false,H1,I1,rfl,q1⟩
def m9(ha:PE X a ta):PE X (.UnaryOp .Not a pos) (gq ta):=by
 intro pins s σ H Q I h;refine UnaryOp_<|wo (ha pins s σ H _ I h) λv s1 ⟨x,H1,I1,r1,q1⟩=>?_;obtain⟨c,rfl,q1⟩:=q1;cases r1;exact not_of<|wpAny_truthy_bool ⟨.bl<|!c,H1,I1,rfl,q1⟩
def bu(t:TT)(ta tb:TE):TE:=λσ H Q=>t σ H λc H1=>if c=true then ta σ H1 Q else tb σ H1 Q
def Aa(hc:PT X c tA)(ha:PE X a ta)(hb:PE X b tb):PE X (.IfExp c a b pos) (bu tA ta tb):=by
 intro pins s σ H Q I h;refine wpAny_IfExp<|wo (hc pins s σ H _ I h) λd s1 ⟨H1,I1,q1⟩=>?_;cases d with
 |true=>exact ha pins s1 σ H1 Q I1 q1
 |false=>exact hb pins s1 σ H1 Q I1 q1
end
end L2
namespace L2
open PySem PySem.Spec PyProof.Rows
def VX(K:zzA)(H:Hp)(a:Addr)(xs:List V):Prop:=
 Rd H a (.lst xs) \/
  ∃(o:Obj) (its:Array Value) (n:Nat),K.lookup a=some o/\o.cls = .type "list"/\o.dict=none/\o.data = .seq its n/\its.size<=sizeLine/\zS xs its.toList
def uX(K:zzA)(H:Hp)(a:Addr)(xs:List V):Prop:=
 Rd H a (.lst xs)\/∃(its:Array Value) (n:Nat),K.lookup a=some {cls:=.type "list",data:=.seq its n}/\its.size<=sizeLine/\zS xs its.toList
def RF(K:zzA)(H:Hp)(a:Addr)(xs:List V):Prop:=
 Rd H a (.tup xs) \/
  ∃(o:Obj) (its:Array Value) (n:Nat),K.lookup a=some o/\o.cls = .type "tuple"/\o.data = .seq its n/\its.size<=sizeLine/\zS xs its.toList
noncomputable def dj:Value->Option V
 | .none=>some .non
 | .bool b=>some<|.bl b
 | .int i _=>some<|.int i
 | .str x _=>some<|.str x
 | .bytes b _=>some<|.byt b
 | .float b _=>some<|.flt b
 | .ref a=>some<|.ref a
 | .type n=>some (.ty n)
 |_=>none
def RelV.abs(r:RelV x u):dj u=some x:=by
 cases x with
 |non=>cases r;rfl
 |bl _=>cases r;rfl
 |int _=>obtain⟨t,rfl⟩:=r;rfl
 |str _=>obtain⟨t,rfl⟩:=r;rfl
 |byt _=>obtain⟨t,rfl⟩:=r;rfl
 |flt _=>obtain⟨t,rfl⟩:=r;rfl
 |ref _=>cases r;rfl
 |ty _=>cases r;rfl
def RelV.inj(r:RelV x u)(q:RelV y u):x=y:=zzZ<|r.abs.symm.trans q.abs
theorem zS.inj:∀{xs ys:List V}{us:List Value},zS xs us->zS ys us->xs=ys
 |_,_,_,.nil,.nil=>rfl
 |_,_,_,.cons r t,.cons r' t'=>by rw[r.inj r',zS.inj t t']
section
variable{X:Cx}{pins:List (Addr×Obj)}{σ:St}{H:Hp}{s:Shared}{a:Addr}{xs ys:List V}
def Inv.list(I:Inv X pins σ H s)(h:VX X.K H a xs):∃its:List Value,zS xs its/\PlainL s.heap a its.toArray/\xs.length<=sizeLine:=by
 rcases h with h|⟨o,its,n,hk,hc,hd,hs,hz,r⟩
 . obtain⟨z,its,n,r,e⟩:=h.ok I.hok;exact⟨its,r,⟨_,n,e,rfl,rfl,rfl⟩,z⟩
 . refine⟨its.toList,r,⟨o,n,I.kIn a o hk,hc,hd,by simpa using hs⟩, ?_⟩;have e:=r.length;simp only[zyT]at e;exact q2a e hz
def Inv.tuple(I:Inv X pins σ H s)(h:RF X.K H a xs):∃its:List Value,zS xs its/\IsTup s.heap a its.toArray/\xs.length<=sizeLine:=by
 rcases h with h|⟨o,its,n,hk,hc,hs,hz,r⟩
 . obtain⟨z,its,r,p⟩:=h.ok I.hok;exact⟨its,r,p,z⟩
 . refine⟨its.toList,r,⟨o,I.kIn a o hk,hc,n,by simpa using hs⟩, ?_⟩;have e:=r.length;simp only[zyT]at e;exact q2a e hz
def Inv.list_inj(I:Inv X pins σ H s)(h:VX X.K H a xs)(h':VX X.K H a ys):xs=ys:=by
 obtain⟨its,r,⟨o,n,e,_,_,d⟩,_⟩:=I.list h;obtain⟨its',r',⟨o',n',e',_,_,d'⟩,_⟩:=I.list h';rw[e]at e';cases e';rw[d]at d';injection d' with d1 _
 have:its=its':=by simpa using congrArg Array.toList d1
 subst this;exact r.inj r'
def Inv.tuple_inj(I:Inv X pins σ H s)(h:RF X.K H a xs)(h':RF X.K H a ys):xs=ys:=by
 obtain⟨its,r,⟨o,e,_,n,d⟩,_⟩:=I.tuple h;obtain⟨its',r',⟨o',e',_,n',d'⟩,_⟩:=I.tuple h';rw[e]at e';cases e';rw[d]at d';injection d' with d1 _
 have:its=its':=by simpa using congrArg Array.toList d1
 subst this;exact r.inj r'
end
noncomputable abbrev Cx.wish(X:Cx)(E:Value->Shared->Prop):Cx:={X with xe:=E}
noncomputable abbrev Cx.nox(X:Cx):Cx:=X.wish λ_ _=>False
theorem Cx.Ok.wish{X:Cx}(ok:X.Ok)(E):(X.wish E).Ok:=
 ⟨ok.mod,ok.kind,ok.glob,ok.blt,ok.above,ok.inj,ok.has,ok.cab,ok.hd,ok.frames,ok.stk,ok.exf,ok.bs,ok.bsz,ok.noex,ok.exfs,ok.funs,ok.frf⟩
def Cx.Ok.unwish{X:Cx}{E}(ok:(X.wish E).Ok):X.Ok:=
 ⟨ok.mod,ok.kind,ok.glob,ok.blt,ok.above,ok.inj,ok.has,ok.cab,ok.hd,ok.frames,ok.stk,ok.exf,ok.bs,ok.bsz,ok.noex,ok.exfs,ok.funs,ok.frf⟩
section
variable{X:Cx}{pins:List (Addr×Obj)}{σ:St}{H:Hp}{s:Shared}{E:Value->Shared->Prop}
theorem Inv.wish(I:Inv X pins σ H s)(E:Value->Shared->Prop):Inv (X.wish E) pins σ H s:=⟨I.ok.wish E,I.os,I.bare,I.base,I.loc,I.cell,I.free,I.freeC,I.pin,I.hok,I.len⟩
theorem Inv.unwish(I:Inv (X.wish E) pins σ H s):Inv X pins σ H s:=⟨I.ok.unwish,I.os,I.bare,I.base,I.loc,I.cell,I.free,I.freeC,I.pin,I.hok,I.len⟩
theorem SP.unwish(h:SP (X.wish E) pins D f s'):SP X pins D f s':=by
 cases f with
 |next=>obtain⟨σ',H',I,q⟩:=h;exact⟨σ',H',I.unwish,q⟩
 |brk=>obtain⟨σ',H',I,q⟩:=h;exact⟨σ',H',I.unwish,q⟩
 |cont=>obtain⟨σ',H',I,q⟩:=h;exact⟨σ',H',I.unwish,q⟩
 |ret u=>obtain⟨v,σ',H',I,r,q⟩:=h;exact⟨v,σ',H',I.unwish,r,q⟩
theorem FI.nox{st t}(h:FI X.nox st t):FI X st t:=λpins s σ H D I hw=>
 zxM (h pins s σ H D (I.wish _) hw) (λ_ _ q=>q.unwish) λ_ _ z=>False.elim z
end
section
variable{X:Cx}{st:Stmt}{rest:List Stmt}{t u:TS}{e:Expr}{te:TE}{pos:Pos}
def jd:TS:=λD σ H=>D.nx σ H
def eT(t u:TS):TS:=λD σ H=>t {D with nx:=u D} σ H
def BP:FI X [] jd:=λ_ _ σ H _ I h=>wpAny_execs_nil ⟨σ,H,I,h⟩
def Wi(h1:PS X st t)(h2:FI X rest u):FI X (st::rest) (eT t u):=by
 intro pins s σ H D I h;refine wpAny_execs_cons<|wo (h1 pins s σ H {D with nx:=u D} I h) λf s1 q=>?_;cases f with
 |next=>
  obtain⟨σ',H',I',q⟩:=q;exact h2 pins s1 σ' H' D I' q
 |ret v=>exact q
 |brk=>exact q
 |cont=>exact q
def PV(h1:PS X st t):FI X [st] t:=by
 intro pins s σ H D I h;refine wpAny_execs_cons<|wo (h1 pins s σ H D I h) λf s1 q=>?_;cases f with
 |next=>exact wpAny_execs_nil q
 |ret v=>exact q
 |brk=>exact q
 |cont=>exact q
def Inv.quiet(I:Inv X pins σ H s):interactive X.env=false:=by simp[interactive,I.ok.kind]
def gQ(te:TE):TS:=λD σ H=>te σ H λ_ H1=>D.nx σ H1
def P2(he:PE X e te)(hs:swapsWith e none pos.line X.env=pure false:=by rfl):PS X (.Expr e pos) (gQ te):=by
 intro pins s σ H D I h;exact wpAny_Expr_any (wo (he pins s σ H _ I h) λv s1 ⟨x,H1,I1,r1,q1⟩=>⟨σ,H1,I1,q1⟩) I.quiet hs
def dt(te:TE):TS:=λD σ H=>te σ H D.rt
def uj(he:PE X e te):PS X (.Return (some e) pos) (dt te):=by
 intro pins s σ H D I h;exact wpAny_Return_some<|wo (he pins s σ H _ I h) λv s1 ⟨x,H1,I1,r1,q1⟩=>⟨x,σ,H1,I1,r1,q1⟩
def iv:TS:=λD _ H=>D.rt .non H
def tK:PS X (.Return none pos) iv:=λ_ _ σ H _ I h=>wpAny_Return_none ⟨.non,σ,H,I,rfl,h⟩
def eV(c:TT)(t u:TS):TS:=λD σ H=>c σ H λb H1=>if b=true then t D σ H1 else u D σ H1
def AX(hc:PT X c tc)(ha:FI X a t)(hb:FI X b u):PS X (.If c a b pos) (eV tc t u):=by
 intro pins s σ H D I h;refine wpAny_If<|wo (hc pins s σ H _ I h) λd s1 ⟨H1,I1,q1⟩=>?_;cases d with
 |true=>exact ha pins s1 σ H1 D I1 q1
 |false=>exact hb pins s1 σ H1 D I1 q1
end
abbrev TG:=V->St->Hp->(St->Hp->Prop)->Prop
abbrev lW:=List V->St->Hp->(St->Hp->Prop)->Prop
def PG(X:Cx)(target:Expr)(t:TG):Prop:=
 ∀(pins:List (Addr×Obj)) (s:Shared) (σ:St) (H:Hp) (v:V) (u:Value) (Q:St->Hp->Prop),Inv X pins σ H s->RelV v u->t v σ H Q->
  wpAny (model X.prog X.w) X.A (assign target X.env u) (λ_ s'=>∃σ' H',Inv X pins σ' H' s'/\Q σ' H') X.xe s
def pQ(X:Cx)(ts:List Expr)(t:lW):Prop:=
 ∀(pins:List (Addr×Obj)) (s:Shared) (σ:St) (H:Hp) (vs:List V) (us:List Value) (Q:St->Hp->Prop),Inv X pins σ H s->zS vs us->t vs σ H Q->
  wpAny (model X.prog X.w) X.A (assignInOrder ((assignEach ts X.env).map (·.2)) us) (λ_ s'=>∃σ' H',Inv X pins σ' H' s'/\Q σ' H') X.xe s
section
variable{X:Cx}{pos:Pos}
def Iy(i:Nat):TG:=λv σ H Q=>Q (σ.set i<|some v) H
def rV(hN:X.N.Nodup)(hi:X.N[i]? = some x)(hx:Loc X.env.scope x)(hf:X.fn x=true\/X.env.scope.names.lookup x=some .local:=by first|exact .inl rfl|exact .inr rfl|assumption):PG X (.Name x pos) (Iy i):=by
 intro pins s σ H v u Q I r h;exact wpAny_assign_Name<|SW I hN hi hx r (λs' I'=>⟨_,H,I',h⟩) hf
def dG:lW:=λvs σ H Q=>vs=[]/\Q σ H
def jI(t:TG)(u:lW):lW:=λvs σ H Q=>∃v r,vs=v::r/\t v σ H λσ' H'=>u r σ' H' Q
def sS:pQ X [] dG:=by
 intro pins s σ H vs us Q I r h;obtain⟨e,h⟩:=h;subst e;cases r;exact assignInOrder_nil ⟨σ,H,I,h⟩
def uT(h1:PG X e t)(h2:pQ X es u)
 (hs:(assignEach (e::es) X.env).map (·.2)=assign e X.env::(assignEach es X.env).map (·.2):=by rfl):pQ X (e::es) (jI t u):=by
 intro pins s σ H vs us Q I r h;obtain⟨v,vr,e1,h⟩:=h;subst e1;cases r with
 |cons r rr=>
  rw[hs];refine assignInOrder_cons<|wo (h1 pins s σ H _ _ _ I r h) λ_ s1 ⟨σ1,H1,I1,q1⟩=>?_;exact h2 pins s1 σ1 H1 _ _ Q I1 rr q1
def dQ(K:zzA)(n:Nat)(t:lW):TG:=λv σ H Q=>∃a xs,v = .ref a/\RF K H a xs/\xs.length=n/\t xs σ H Q
def nA(hc:X.calm=true)(h:pQ X es t)
 (hn:(assignEach es X.env).length=n:=by rfl) (hst:(assignEach es X.env).findIdx? (·.1)=none:=by rfl):PG X (.Tuple es k pos) (dQ X.K n t):=by
 intro pins s σ H v u Q I r hw;obtain⟨a,xs,e1,hq,hl,hw⟩:=hw;subst e1;cases r;obtain⟨its,rv,ht,hz⟩:=I.tuple hq;refine assign_Tuple_tuple (I.ok.hd hc) ht (by simp[hn,<-hl,rv.length]) hst λh' hx=>?_;have I1:=I.kept (t':=s.toks) λb o e=>hx b o (zzQ<|zxI e) e;exact h pins _ σ H xs _ Q I1 (by simpa using rv) hw
def n5(te:TE)(g:TG):TS:=λD σ H=>te σ H λx H1=>g x σ H1 D.nx
def l9(he:PE X e te)(hg:PG X tg g)(hs:swapsWithSole [tg] e pos.line X.env=pure false:=by rfl)(hw:swappedStores [tg] e X.env=pure none:=by rfl)
 (h1:(assignEach [tg] X.env).map (·.2)=[assign tg X.env]:=by rfl):PS X (.Assign [tg] e pos) (n5 te g):=by
 intro pins s σ H D I h;refine wpAny_Assign_stores (wo (he pins s σ H _ I h) λv s1 ⟨x,H1,I1,r1,q1⟩=>?_) hs hw;rw[h1];exact wo (hg pins s1 σ H1 x v _ I1 r1 q1) λ_ s2 q=>q
def D_(hN:X.N.Nodup)(hi:X.N[i]? = some x)(hx:Loc X.env.scope x)(he:PE X e te)(hs:swapsWith e (some<|.Name x pos') pos.line X.env=pure false:=by rfl)(hf:X.fn x=true\/X.env.scope.names.lookup x=some .local:=by first|exact .inl rfl|exact .inr rfl|assumption):
 PS X (.Assign [.Name x pos'] e pos) (n5 te<|Iy i):=by
 intro pins s σ H D I h;refine wpAny_Assign_Name (wo (he pins s σ H _ I h) λv s1 ⟨y,H1,I1,r1,q1⟩=>?_) hs;exact SW I1 hN hi hx r1 (λs2 I2=>⟨_,H1,I2,q1⟩) hf
end
structure It where
 go:Nat->Hp->Prop
 yld:Nat->Hp->V->Hp->Prop
 stop:Nat->Hp->Prop
def KA(X:Cx)(pins:List (Addr×Obj))(H:Hp)(b:Addr):Prop:=
 H b=none/\b≠X.env.locals/\b ∉ X.fs/\(b ∈ X.ex\/X.s₀.heap.objs.size<=b)/\(∀x c,X.env.cells.lookup x=some c->c≠b)/\∀p ∈ X.pn++pins,p.1≠b
def Inv.fpOk(I:Inv X pins σ H s)(hb:s.heap.objs.size<=b)(hn:H' b=none):KA X pins H' b:=by
 refine⟨hn,Nat.ne_of_gt<|zzK I.lt hb,I.nofs hb,.inr<|zzO I.sz hb,λx c e z=>?_,λp hp z=>?_⟩
 . obtain⟨v,q⟩:=I.cell x c e;exact absurd (zzK q.lt<|by rw[z];exact hb)<|Nat.lt_irrefl _
 . exact absurd (zzK (zxI (I.pin p hp).1)<|by rw[z];exact hb)<|Nat.lt_irrefl _
structure Turn(P:Program)(w:World)(K:zzA)(tg:Expr)(J:It)(fp:List Addr)(it:Addr)(tn:Nat->Heap->Prop):Prop where
 mem:it ∈ fp
 obj:∀i h,tn i h->∀b ∈ fp,∃o,h.get? b=some o/\∀v,o.data ≠ .cell v
 keep:∀i h h',tn i h->(∀b ∈ fp,∀o,h.get? b=some o->h'.get? b=some o)->tn i h'
 item:∀(X:Cx),X.prog=P->X.w=w->X.K=K->X.calm=true->∀(i:Nat) (pins:List (Addr×Obj)) (s:Shared) (σ:St) (H:Hp) (E:Value->Shared->Prop),Inv X pins σ H s->(∀b ∈ fp,KA X pins H b)->tn i s.heap->J.go i H->
  wpAny (model P w) X.A (pyNext<|.ref it) (λr s1=>∃u,r=some u/\
   wpAny (model P w) X.A (letOwnedTupleGo tg (.ref it) u) (λ_ s2=>∃x H',Inv X pins σ H' s2/\RelV x u/\J.yld i H x H'/\tn (i+1) s2.heap/\∀b ∈ fp,H' b=none) E s1) E s
 done:∀(X:Cx),X.prog=P->X.w=w->X.K=K->X.calm=true->∀(i:Nat) (pins:List (Addr×Obj)) (s:Shared) (σ:St) (H:Hp) (E:Value->Shared->Prop),Inv X pins σ H s->(∀b ∈ fp,KA X pins H b)->tn i s.heap->J.stop i H->
  wpAny (model P w) X.A (pyNext<|.ref it) (λr s1=>r=none/\Inv X pins σ H s1) E s
 self:∀(A:Around) (i:Nat) (s:Shared) (Q:Value->Shared->Prop) (E:Value->Shared->Prop),tn i s.heap->Q (.ref it) s->wpAny (model P w) A (pyIter<|.ref it) Q E s
abbrev TI:=St->Hp->(It->Hp->Prop)->Prop
def cW(X:Cx)(pins:List (Addr×Obj))(σ:St)(tg:Expr)(R:It->Hp->Prop)(itv:Value)(s2:Shared):Prop:=
 ∃(it:Addr) (fp:List Addr) (tn:Nat->Heap->Prop) (J:It) (H':Hp),itv = .ref it/\Inv X pins σ H' s2/\Turn X.prog X.w X.K tg J fp it tn/\tn 0 s2.heap/\(∀b ∈ fp,KA X pins H' b)/\R J H'
def PI(X:Cx)(tg iter:Expr)(wi:TI):Prop:=
 ∀(pins:List (Addr×Obj)) (s:Shared) (σ:St) (H:Hp) (R:It->Hp->Prop),Inv X pins σ H s->wi σ H R->
  wpAny (model X.prog X.w) X.A (eval iter X.env) (λv s1=>wpAny (model X.prog X.w) X.A (pyIter v) (cW X pins σ tg R) X.xe s1) X.xe s
def AC(ho:s.heap.get? it=some o)(hc:o.cls = .type n)(hd:o.data = .fields vs)
 (hn : ["enumerate","zip","dict_itemiterator","dict_reverseitemiterator","odict_iterator","itertools.zip_longest","itertools.pairwise"].contains n=false) (hQ:Q () s):wpAny M A (letOwnedTupleGo tg (.ref it) u) Q E s:=by
 unfold letOwnedTupleGo;cases tg<;>first
  |exact zxG hQ
  |(cases u<;>first
   |exact zxG hQ
   | (refine zxF (wpAny_load ho ?_)
      rw[hc,hd];show wpAny M A (if _=true then _ else _) Q E s;rw[if_neg (by intro h;rw[hn,Bool.false_and]at h;cases h)];exact zxG hQ))
def fJ(K:zzA)(a:Addr):It:=
 ⟨λi H=>∃xs x,VX K H a xs/\xs[i]? = some x,λi H x H'=>H'=H/\∀xs,VX K H a xs->xs[i]? = some x,λi H=>∃xs,VX K H a xs/\xs.length<=i⟩
def g_(K:zzA)(a:Addr):It:=
 ⟨λi H=>∃xs x,RF K H a xs/\xs[i]? = some x,λi H x H'=>H'=H/\∀xs,RF K H a xs->xs[i]? = some x,λi H=>∃xs,RF K H a xs/\xs.length<=i⟩
def kj(lo:Int)(n:Nat):It:=⟨λi _=>i<n,λi H x H'=>H'=H/\x = .int (lo+i),λi _=>n<=i⟩
def Jq{P w K tg}(a it):Turn P w K tg (fJ K a) [it] it (λi h=>h.IsListIter it a i)where
 mem:=by simp
 obj:=λi h st b hb=>by
  have e:b=it:=by simpa using hb
  subst e;obtain⟨o,e,c,d⟩:=st;exact⟨o,e,λv z=>by rw[d]at z;cases z⟩
 keep:=λi h h' st k=>st.at λo e=>k it (by simp) o e
 item:=by
  intro X hP hw hK hc i pins s σ H E I hf st hg;subst hP hw hK;obtain⟨xs,x,hq,hx⟩:=hg;obtain⟨its,rv,p,hz⟩:=I.list hq;obtain⟨u,hu,ru⟩:=rv.get hx;obtain⟨f0,f1,f2,f3,f4,f5⟩:=hf it (by simp);refine wpAny_pyNext_list_item st p.isList (by simpa using hu) λh' st' sb=>?_;have I1:=I.turned (t':=s.toks) (λb o hb e=>(sb.2 b hb).trans e) f0 f1 f3 f4 f5;obtain⟨o,e,c,d⟩:=id st';exact⟨u,rfl,AC e c d (by decide) ⟨x,H,I1,ru,⟨rfl,λys hy=>by rw[I.list_inj hy hq];exact hx⟩,st',λb hb=>(hf b hb).1⟩⟩
 done:=by
  intro X hP hw hK hc i pins s σ H E I hf st hg;subst hP hw hK;obtain⟨xs,hq,hx⟩:=hg;obtain⟨its,rv,p,hz⟩:=I.list hq;obtain⟨f0,f1,f2,f3,f4,f5⟩:=hf it (by simp);have hl:=rv.length;exact wpAny_pyNext_list_end (I.ok.hd hc) st p.isList (by simp;exact q0r hl hx) λh' eb=>⟨rfl,I.turned (t':=s.toks) (λb o hb e=>eb b o hb e) f0 f1 f3 f4 f5⟩
 self:=λ_ _ _ _ _ st h=>wpAny_pyIter_listiter st h
def OW{P w K tg}(a it):Turn P w K tg (g_ K a) [it] it (λi h=>h.IsTupleIter it a i)where
 mem:=by simp
 obj:=λi h st b hb=>by
  have e:b=it:=by simpa using hb
  subst e;obtain⟨o,e,c,d⟩:=st;exact⟨o,e,λv z=>by rw[d]at z;cases z⟩
 keep:=λi h h' st k=>st.at λo e=>k it (by simp) o e
 item:=by
  intro X hP hw hK hc i pins s σ H E I hf st hg;subst hP hw hK;obtain⟨xs,x,hq,hx⟩:=hg;obtain⟨its,rv,p,hz⟩:=I.tuple hq;obtain⟨u,hu,ru⟩:=rv.get hx;obtain⟨f0,f1,f2,f3,f4,f5⟩:=hf it (by simp);refine wpAny_pyNext_tuple_item st (p) (x:=u) (by simpa using hu) λh' st' sb=>?_;have I1:=I.turned (t':=s.toks) (λb o hb e=>(sb.2 b hb).trans e) f0 f1 f3 f4 f5;obtain⟨o,e,c,d⟩:=id st';exact⟨u,rfl,AC e c d (by decide) ⟨x,H,I1,ru,⟨rfl,λys hy=>by rw[I.tuple_inj hy hq];exact hx⟩,st',λb hb=>(hf b hb).1⟩⟩
 done:=by
  intro X hP hw hK hc i pins s σ H E I hf st hg;subst hP hw hK;obtain⟨xs,hq,hx⟩:=hg;obtain⟨its,rv,p,hz⟩:=I.tuple hq;obtain⟨f0,f1,f2,f3,f4,f5⟩:=hf it (by simp);have hl:=rv.length;exact wpAny_pyNext_tuple_end (I.ok.hd hc) st (p) (by simp;exact q0r hl hx) λh' eb=>⟨rfl,I.turned (t':=s.toks) (λb o hb e=>eb b o hb e) f0 f1 f3 f4 f5⟩
 self:=λ_ _ _ _ _ st h=>wpAny_pyIter_tupleiter st h
def O4{P w K tg}(it)(lo)(n:Nat):Turn P w K tg (kj lo n) [it] it (λi h=>IsRangeIter h it (lo+(i:Nat)*1) ((n:Int)-(i:Nat)) 1)where
 mem:=by simp
 obj:=λi h st b hb=>by
  have e:b=it:=by simpa using hb
  subst e;exact⟨_,st,λv z=>by
   have z':Data.fields _=Data.cell v:=z;cases z'⟩
 keep:=λi h h' st k=>k it (by simp) _ st
 item:=by
  intro X hP hw hK hc i pins s σ H E I hf st hg;subst hP hw hK;obtain⟨f0,f1,f2,f3,f4,f5⟩:=hf it (by simp);have W:=Walks.range (prog:=X.prog) (w:=X.w) (I.ok.hd hc) it lo 1 n;refine W.item i s _ _ hg st λv h' tk hv st' kk=>?_;obtain⟨t,rfl⟩:=hv;have I1:Inv X pins σ H {s with heap:=h',toks:=tk}:=I.turned (λb o hb e=>kk b o (by simpa using hb) e) f0 f1 f3 f4 f5;refine⟨_,rfl,AC st' rfl rfl (by decide) ⟨.int<|lo+i,H,I1,⟨t, ?_⟩,⟨rfl,rfl⟩,st',λb hb=>(hf b hb).1⟩⟩;rw[Int.mul_one]
 done:=by
  intro X hP hw hK hc i pins s σ H E I hf st hg;subst hP hw hK;obtain⟨f0,f1,f2,f3,f4,f5⟩:=hf it (by simp);exact wpAny_pyNext_range_end (I.ok.hd hc) st (by have:n<=i:=hg;omega) λh' eb=>⟨rfl,I.turned (t':=s.toks) (λb o hb e=>eb b o hb e) f0 f1 f3 f4 f5⟩
 self:=λ_ _ _ _ _ st h=>wpAny_pyIter_rangeiter st h
end L2
namespace L2
open PySem PySem.Spec PyProof.Rows
section
variable{X:Cx}{tg:Expr}
def kB(K:zzA)(tl:TE):TI:=λσ H R=>tl σ H λx H1=>∃a,x = .ref a/\(∃xs,VX K H1 a xs)/\R (fJ K a) H1
def eS(K:zzA)(tl:TE):TI:=λσ H R=>tl σ H λx H1=>∃a,x = .ref a/\(∃xs,RF K H1 a xs)/\R (g_ K a) H1
def Fx{l tl}(hl:PE X l tl):PI X tg l (kB X.K tl):=by
 intro pins s σ H R I h;refine wo (hl pins s σ H _ I h) λv s1 ⟨x,H1,I1,r1,q1⟩=>?_;obtain⟨a,e,⟨xs,hq⟩,q⟩:=q1;subst e;cases r1;obtain⟨its,rv,p,hz⟩:=I1.list hq;refine wpAny_pyIter_list p.isList ?_;refine⟨s1.heap.objs.size,[s1.heap.objs.size],_,_,H1,rfl,I1.kept (t':=s1.toks) λb o e=>zxH _ e,Jq a _,⟨_,zxJ _ rfl,rfl,rfl⟩,λb hb=>?_,q⟩;have e:b=s1.heap.objs.size:=by simpa using hb
 subst e;exact I1.fpOk (zzN _)<|I1.hok.fresh<|zzN _
def Os{l tl}(hl:PE X l tl):PI X tg l (eS X.K tl):=by
 intro pins s σ H R I h;refine wo (hl pins s σ H _ I h) λv s1 ⟨x,H1,I1,r1,q1⟩=>?_;obtain⟨a,e,⟨xs,hq⟩,q⟩:=q1;subst e;cases r1;obtain⟨its,rv,p,hz⟩:=I1.tuple hq;refine wpAny_pyIter_tuple (p) ?_;refine⟨s1.heap.objs.size,[s1.heap.objs.size],_,_,H1,rfl,I1.kept (t':=s1.toks) λb o e=>zxH _ e,OW a _,⟨_,zxJ _ rfl,rfl,rfl⟩,λb hb=>?_,q⟩;have e:b=s1.heap.objs.size:=by simpa using hb
 subst e;exact I1.fpOk (zzN _)<|I1.hok.fresh<|zzN _
def HC{pins σ H s R E lo hi t u v}{tk:Nat}(I:Inv X pins σ H s)(h1 : -(2 ^ 62)<=lo)(h2:lo<2 ^ 62)(h3 : -(2 ^ 62)<=hi)(h4:hi<2 ^ 62)
 (q:R (kj lo (hi-lo).toNat) H):wpAny (model X.prog X.w) X.A (pyIter<|.ref s.heap.objs.size) (cW X pins σ tg R) E {s with heap:=s.heap.push {cls:=.type "range",data:=.fields #[.int lo t,.int hi u,.int 1 v]},toks:=tk}:=by
 refine wpAny_pyIter_range (IsRange.new ..) (small_one h1 h2 h3 h4) ?_;have I1:Inv X pins σ H {s with heap:=s.heap.push {cls:=.type "range",data:=.fields #[.int lo t,.int hi u,.int 1 v]},toks:=tk}:=I.kept λb o e=>zxH _ e;refine⟨(s.heap.push {cls:=.type "range",data:=.fields #[.int lo t,.int hi u,.int 1 v]}).objs.size,[(s.heap.push {cls:=.type "range",data:=.fields #[.int lo t,.int hi u,.int 1 v]}).objs.size],_,_,H,rfl,
  I1.kept (t':=tk) λb o e=>zxH _ e,O4 _ lo (hi-lo).toNat, ?_,λb hb=>?_,q⟩
 . have e1:lo+((0:Nat):Int)*1=lo:=by simp
   have e2:(((hi-lo).toNat:Nat):Int)-((0:Nat):Int)=Builtin.Range.rangeSize lo hi 1:=by rw[rangeSize_one];split<;>omega
   rw[e1,e2];exact zxJ _ rfl
 . have e:b=(s.heap.push {cls:=.type "range",data:=.fields #[.int lo t,.int hi u,.int 1 v]}).objs.size:=by simpa using hb
   subst e;exact I1.fpOk (zzN _)<|I1.hok.fresh<|zzN _
def hU(ta:TA):TI:=λσ H R=>ta σ H λvs H1=>∃j:Int,vs=[.int j] /\ -(2 ^ 62)<=j/\j<2 ^ 62/\R (kj 0 j.toNat) H1
def iu(ta:TA):TI:=λσ H R=>ta σ H λvs H1=>∃i j:Int,vs=[.int i,.int j]/\(-(2 ^ 62)<=i/\i<2 ^ 62 /\ -(2 ^ 62)<=j/\j<2 ^ 62)/\R (kj i (j-i).toNat) H1
def En{a ta p pos}(hg:Gl X "range")(hm:X.mg "range"=none)(ha:PA X [a] ta)(hs:starEach [a] X.env=[(false,eval a X.env)]:=by rfl):PI X tg (.Call (.Name "range" p) [a] [] pos) (hU ta):=by
 intro pins s σ H R I h;refine Call_<|Va I hg hm boot_range<|PyProof.Rows.callWith_type1 (wo (ha pos pins s σ H _ I h) λus s1 ⟨vs,H1,I1,r1,q1⟩=>?_) hs rfl;obtain⟨j,e,q1,q2,q⟩:=q1;subst e;cases r1 with
 |cons r rr=>
  cases rr;obtain⟨t,rfl⟩:=r;exact call_range_1 (HC I1 (by omega) (by omega) q1 q2<|by simpa using q)
def JJ(hg:Gl X "range")(hm:X.mg "range"=none)(ha:PA X [a,b] ta)(hs:starEach [a,b] X.env=[(false,eval a X.env),(false,eval b X.env)]:=by rfl)(hs2:starEach [b] X.env=[(false,eval b X.env)]:=by rfl):
 PI X tg (.Call (.Name "range" p) [a,b] [] pos) (iu ta):=by
 intro pins s σ H R I h;refine Call_ (Va I hg hm boot_range<|PyProof.Rows.callWith_type1 (wo (ha pos pins s σ H _ I h) λus s1 ⟨vs,H1,I1,r1,q1⟩=>?_) (by rw[hs,hs2])<|by rw[hs2];rfl);obtain⟨i,j,e,⟨q1,q2,q3,q4⟩,q⟩:=q1;subst e;cases r1 with
 |cons r rr=>
  cases rr with
  |cons r' rr=>
   cases rr;obtain⟨t,rfl⟩:=r;obtain⟨t',rfl⟩:=r';exact call_range_2<|HC I1 q1 q2 q3 q4 q
def fR(wi:TI)(g:TG)(tb:TS):TS:=λD σ H=>wi σ H λJ H1=>∃W:Nat->Nat->St->Hp->Prop,(∃m,W 0 m σ H1)/\∀i m σ H,W i m σ H->
 (J.stop i H/\D.nx σ H)\/(J.go i H/\∃N:St->Hp->Prop,(∀σ' H',N σ' H'->∃m',m'<m/\W (i+1) m' σ' H')/\∀x H',J.yld i H x H'->g x σ H' λσ2 H2=>tb {D with nx:=N,ct:=N,bk:=D.nx} σ2 H2)
def Cn(fp:List Addr)(h:Heap):List (Addr×Obj):=fp.filterMap λb=>(h.get? b).map λo=>(b,o)
def WN(hb:b ∈ fp)(e:h.get? b=some o):(b,o) ∈ Cn fp h:=List.mem_filterMap.mpr ⟨b,hb,by rw[e];rfl⟩
def Jz(hp:p ∈ Cn fp h):p.1 ∈ fp/\h.get? p.1=some p.2:=by
 obtain⟨b,hb,e⟩:=List.mem_filterMap.mp hp;cases q:h.get? b with
 |none=>rw[q]at e;cases e
 |some o=>
  rw[q]at e;have e':(b,o)=p:=zzZ e;subst e';exact⟨hb,q⟩
def Inv.pinned(I:Inv X pins σ H s)(hf:∀b ∈ fp,KA X pins H b)(ho:∀b ∈ fp,∃o,s.heap.get? b=some o/\∀v,o.data ≠ .cell v):Inv X (pins++Cn fp s.heap) σ H s:=
 I.pins_of λp hp=>(zzM.mp hp).elim (λz=>I.pin p<|zzL _ z) λz=>by
  obtain⟨hb,e⟩:=Jz z;obtain⟨f0,f1,f2,_⟩:=hf p.1 hb;obtain⟨o,e',d⟩:=ho p.1 hb;rw[e]at e';cases e';exact⟨e,f0,f1,f2,d⟩
def Inv.unpinned(I:Inv X (pins++pl) σ H s):Inv X pins σ H s:=I.pins_of λp hp=>I.pin p<|zzL _<|zzP _ hp
def D8(hp:PassesOwn (model X.prog X.w) X.A X.env X.xe)(hc:X.calm=true)(hi:PI X tg iter wi)(hg:PG X tg g)(hb:FI X body tb)
 (hs:∀x,foldedSetIterable iter X.env x=pure x:=by intro _;rfl):PS X (.For tg iter body [] pos) (fR wi g tb):=by
 intro pins s σ H D I h;refine wpAny_For (wo (hi pins s σ H _ I h) λv s1 h1=>wo h1 λitv s2 h2=>?_) hs;obtain⟨it,fp,tn,J,H2,e,I2,T,st2,f2,W,⟨m0,w0⟩,turn⟩:=h2;subst e;have stat:∀{H':Hp},(∀b ∈ fp,H' b=none)->∀b ∈ fp,KA X pins H' b:=λhn b hb=>⟨hn b hb,(f2 b hb).2⟩;refine codeAny_forLoop_any (λn s'=>∃i σ' H',Inv X pins σ' H' s'/\tn i s'.heap/\(∀b ∈ fp,H' b=none)/\W i n σ' H') ?_ m0 ⟨0,σ,H2,I2,st2,λb hb=>(f2 b hb).1,w0⟩
 rintro n s3 ⟨i,σ3,H3,I3,st3,fr3,w3⟩
 rcases turn i n σ3 H3 w3 with⟨stop,qn⟩|⟨go,N,hN,step⟩
 . refine wpAny_passesOwn hp<|wo (T.done X rfl rfl rfl hc i pins s3 σ3 H3 X.xe I3 (stat fr3) st3 stop) λr s4 ⟨hr,I4⟩=>?_;subst hr;exact wpAny_execs_nil ⟨σ3,H3,I4,qn⟩
 . refine wpAny_passesOwn hp<|wo (T.item X rfl rfl rfl hc i pins s3 σ3 H3 X.xe I3 (stat fr3) st3 go) λr s4 ⟨u,hr,h4⟩=>?_;subst hr;refine wpAny_passesOwn hp<|wo h4 λ_ s5 ⟨x,H5,I5,r5,y5,st5,fr5⟩=>?_;have I5':=I5.pinned (stat fr5)<|T.obj _ _ st5;refine wpAny_passesOwn hp<|wo (hg _ s5 σ3 H5 x u _ I5' r5<|step x H5 y5) λ_ s6 ⟨σ6,H6,I6,q6⟩=>?_;refine wpAny_passesOwn hp<|wo (hb _ s6 σ6 H6 _ I6 q6) λf s7 q7=>?_;have again:∀{σ7:St}{H7:Hp},Inv X _ σ7 H7 s7->N σ7 H7->∃m,m<n/\∃i σ' H',Inv X pins σ' H' s7/\tn i s7.heap/\(∀b ∈ fp,H' b=none)/\W i m σ' H':=λ{σ7 H7} I7 n7=>by
    obtain⟨m',hm,w7⟩:=hN σ7 H7 n7;refine⟨m',hm,i+1,σ7,H7,I7.unpinned,T.keep _ _ _ st5 λb hb o e=>(I7.pin (b,o)<|zzL _<|zzL _<|WN hb e).1,λb hb=>?_,w7⟩;obtain⟨o,e,d⟩:=T.obj _ _ st5 b hb;exact(I7.pin (b,o)<|zzL _<|zzL _<|WN hb e).2.1
   cases f with
   |next=>obtain⟨σ7,H7,I7,n7⟩:=q7;exact again I7 n7
   |cont=>obtain⟨σ7,H7,I7,n7⟩:=q7;exact again I7 n7
   |brk=>obtain⟨σ7,H7,I7,q7⟩:=q7;exact⟨σ7,H7,I7.unpinned,q7⟩
   |ret v=>obtain⟨x7,σ7,H7,I7,r7,q7⟩:=q7;exact⟨x7,σ7,H7,I7.unpinned,r7,q7⟩
end
end L2
namespace L2
open PySem PySem.Spec PyProof.Rows
abbrev R2:=V->V->Hp->VK->Prop
def Gf(X:Cx)(f:Value->Value->Sem Value)(r:R2):Prop:=
 ∀(pins:List (Addr×Obj)) (s:Shared) (σ:St) (H:Hp) (x y:V) (v u:Value) (Q:VK),Inv X pins σ H s->RelV x v->RelV y u->r x y H Q->
  wpAny (model X.prog X.w) X.A (f v u) (EP X pins σ Q) X.xe s
def fD(X:Cx)(f:Value->Sem Value)(r:V->Hp->VK->Prop):Prop:=
 ∀(pins:List (Addr×Obj)) (s:Shared) (σ:St) (H:Hp) (x:V) (v:Value) (Q:VK),Inv X pins σ H s->RelV x v->r x H Q->
  wpAny (model X.prog X.w) X.A (f v) (EP X pins σ Q) X.xe s
def Wh(X:Cx)(f:Value)(r:List V->Hp->VK->Prop):Prop:=
 ∀(pins:List (Addr×Obj)) (s:Shared) (σ:St) (H:Hp) (xs:List V) (us:List Value) (Q:VK),Inv X pins σ H s->zS xs us->r xs H Q->
  wpAny (model X.prog X.w) X.A (call f us) (EP X pins σ Q) X.xe s
def ej(X:Cx)(r:V->Hp->(Bool->Hp->Prop)->Prop):Prop:=
 ∀(pins:List (Addr×Obj)) (s:Shared) (σ:St) (H:Hp) (x:V) (v:Value) (Q:Bool->Hp->Prop),Inv X pins σ H s->RelV x v->r x H Q->
  wpAny (model X.prog X.w) X.A (truthy v) (TP X pins σ Q) X.xe s
def ic(r:R2)(ta tb:TE):TE:=λσ H Q=>ta σ H λx H1=>tb σ H1 λy H2=>r x y H2 Q
def bW(r:V->Hp->VK->Prop)(ta:TE):TE:=λσ H Q=>ta σ H λx H1=>r x H1 Q
def rI(C:Int->Int->Prop)(g:Int->Int->V):R2:=λx y H Q=>∃i j,x = .int i/\y = .int j/\C i j/\Q (g i j) H
def p7(g:Int->Int->V):R2:=λx y H Q=>∃i j,x = .int i/\y = .int j/\Q (g i j) H
def rU(g:Int->V):V->Hp->VK->Prop:=λx H Q=>∃i,x = .int i/\Q (g i) H
section
variable{X:Cx}{a b c:Expr}{ta tb tc:TE}{pos:Pos}
def nC(ha:PE X a ta)(hb:PE X b tb){pins s σ H}{R:V->V->Hp->Prop}(I:Inv X pins σ H s)
 (h:ta σ H λx H1=>tb σ H1 λy H2=>R x y H2) {Q:Value->Shared->Prop}{f:Value->Value->Sem Value}
 (hf:∀v u s2 x y H2,Inv X pins σ H2 s2->RelV x v->RelV y u->R x y H2->wpAny (model X.prog X.w) X.A (f v u) Q X.xe s2):
 wpAny (model X.prog X.w) X.A (eval a X.env) (λv s₁=>wpAny (model X.prog X.w) X.A (eval b X.env) (λu s₂=>wpAny (model X.prog X.w) X.A (f v u) Q X.xe s₂) X.xe s₁) X.xe s:=by
 refine wo (ha pins s σ H _ I h) λv s1 ⟨x,H1,I1,r1,q1⟩=>?_;refine wo (hb pins s1 σ H1 _ I1 q1) λu s2 ⟨y,H2,I2,r2,q2⟩=>?_;exact hf v u s2 x y H2 I2 r1 r2 q2
def gO{op}{r:R2}(ho:Gf X (binaryOp op) r)(ha:PE X a ta)(hb:PE X b tb):PE X (.BinOp a op b pos) (ic r ta tb):=by
 intro pins s σ H Q I h;exact wpAny_BinOp<|nC ha hb I h λv u s2 x y H2 I2 rx ry q=>ho pins s2 σ H2 x y v u Q I2 rx ry q
def gR(ho:fD X (unaryOp op) r)(ha:PE X a ta):PE X (.UnaryOp op a pos) (bW r ta):=by
 intro pins s σ H Q I h;exact UnaryOp_<|wo (ha pins s σ H _ I h) λv s1 ⟨x,H1,I1,r1,q1⟩=>ho pins s1 σ H1 x v Q I1 r1 q1
def cI{f C}{g:Int->Int->Int}
 (rule:∀(i j:Int) (t u:Tok) (s:Shared) (Q:Value->Shared->Prop) (E:Value->Shared->Prop),C i j->Q (.int (g i j) s.toks) {s with toks:=s.toks+1}->wpAny (model X.prog X.w) X.A (f (.int i t)<|.int j u) Q E s):
 Gf X f (rI C λi j=>.int<|g i j):=by
 intro pins s σ H x y v u Q I rx ry h;obtain⟨i,j,rfl,rfl,hc,q⟩:=h;obtain⟨t,rfl⟩:=rx;obtain⟨t',rfl⟩:=ry;exact rule i j t t' s _ _ hc ⟨.int<|g i j,H,I.tok _,⟨_,rfl⟩,q⟩
def gZ{f}{g:Int->Int->Int}
 (rule:∀(i j:Int) (t u:Tok) (s:Shared) (Q:Value->Shared->Prop) (E:Value->Shared->Prop),Q (.int (g i j) s.toks) {s with toks:=s.toks+1}->wpAny (model X.prog X.w) X.A (f (.int i t)<|.int j u) Q E s):
 Gf X f (p7 λi j=>.int<|g i j):=by
 intro pins s σ H x y v u Q I rx ry h;obtain⟨i,j,rfl,rfl,q⟩:=h;obtain⟨t,rfl⟩:=rx;obtain⟨t',rfl⟩:=ry;exact rule i j t t' s _ _ ⟨.int<|g i j,H,I.tok _,⟨_,rfl⟩,q⟩
def qB{f}{g:Int->Int->Bool}
 (rule:∀(i j:Int) (t u:Tok) (s:Shared) (Q:Value->Shared->Prop) (E:Value->Shared->Prop),Q (.bool<|g i j) s->wpAny (model X.prog X.w) X.A (f (.int i t)<|.int j u) Q E s):
 Gf X f (p7 λi j=>.bl<|g i j):=by
 intro pins s σ H x y v u Q I rx ry h;obtain⟨i,j,rfl,rfl,q⟩:=h;obtain⟨t,rfl⟩:=rx;obtain⟨t',rfl⟩:=ry;exact rule i j t t' s _ _ ⟨.bl<|g i j,H,I,rfl,q⟩
def fU(i j:Int):Prop:=0<j/\j<1073741824
def dR(i j:Int):Prop:=0<=j/\j<=1000000/\i.natAbs<2 ^ 64
def m_:Gf X (binaryOp .Add) (p7 λi j=>.int<|i+j):=gZ λ_ _ _ _ _ _ _ q=>add_int q
def lq:Gf X (binaryOp .Sub) (p7 λi j=>.int<|i-j):=gZ λ_ _ _ _ _ _ _ q=>sub_int q
def nR:Gf X (binaryOp .Mod) (rI (λ_ j=>0<j) λi j=>.int<|i%j):=cI λi j _ _ _ _ _ hc q=>by
 have h1:=hc;exact mod_int' (q1C hc) (by rw[Int.fmod_eq_emod_of_nonneg i<|by omega];exact q)
def nB:Gf X (binaryOp .Pow) (rI dR λi j=>.int<|i ^ j.toNat):=cI λ_ _ _ _ _ _ _ hc q=>pow_int_small hc.1 hc.2.1 hc.2.2 q
def aE{f}{g:Int->Int}
 (rule:∀(i:Int) (t:Tok) (s:Shared) (Q:Value->Shared->Prop) (E:Value->Shared->Prop),Q (.int (g i) s.toks) {s with toks:=s.toks+1}->wpAny (model X.prog X.w) X.A (f<|.int i t) Q E s):
 fD X f (rU λi=>.int<|g i):=by
 intro pins s σ H x v Q I rx h;obtain⟨i,rfl,q⟩:=h;obtain⟨t,rfl⟩:=rx;exact rule i t s _ _ ⟨.int<|g i,H,I.tok _,⟨_,rfl⟩,q⟩
def lG:fD X (unaryOp .USub) (rU λi=>.int (-i)):=aE λ_ _ _ _ _ q=>neg_int q
end
section
variable{X:Cx}{a b c:Expr}{ta tb tc:TE}{pos:Pos}
def wI(I:Inv X pins σ H s)(q:Q (.bl k) H)(e:k=k'):EP X pins σ Q (.bool k') s:=by
 subst e;exact⟨.bl k,H,I,rfl,q⟩
def kJ:Gf X (compareOp .Lt) (p7 λi j=>.bl<|decide (i<j)):=qB λ_ _ _ _ _ _ _ q=>lt_int q
def i8:Gf X (compareOp .LtE) (p7 λi j=>.bl<|decide (i<=j)):=qB λ_ _ _ _ _ _ _ q=>le_int q
def iD:Gf X (compareOp .Gt) (p7 λi j=>.bl<|decide (j<i)):=qB λ_ _ _ _ _ _ _ q=>gt_int q
def kW:Gf X (compareOp .GtE) (p7 λi j=>.bl<|decide (j<=i)):=qB λ_ _ _ _ _ _ _ q=>ge_int q
def Jw:Gf X (compareOp .In) (λx y H Q=>∃i j,x = .str i/\y = .str j/\Q (.bl<|!(Builtin.Str.occurrences j i 0 j.length 1).isEmpty) H):=by
 intro pins s σ H x y v u Q I rx ry h;obtain⟨i,j,rfl,rfl,q⟩:=h;obtain⟨t,rfl⟩:=rx;obtain⟨t',rfl⟩:=ry;exact in_str<|wI I q rfl
def ml:Gf X (compareOp .Is) (λx y H Q=>y = .non/\Q (.bl<|decide (x = .non)) H):=by
 intro pins s σ H x y v u Q I rx ry h;obtain⟨rfl,q⟩:=h;cases ry;refine is_none_gen<|wI I q ?_;cases x<;>first
  |(cases rx;rfl)
  |(obtain⟨t,rfl⟩:=rx;rfl)
def qA:Gf X (compareOp .IsNot) (λx y H Q=>y = .non/\Q (.bl<|!decide (x = .non)) H):=by
 intro pins s σ H x y v u Q I rx ry h;obtain⟨rfl,q⟩:=h;cases ry;refine isnot_none_gen<|wI I q ?_;cases x<;>first
  |(cases rx;rfl)
  |(obtain⟨t,rfl⟩:=rx;rfl)
def Bc:Gf X (compareOp .NotIn) (λx y H Q=>∃i j,x = .str i/\y = .str j/\Q (.bl<|!(!(Builtin.Str.occurrences j i 0 j.length 1).isEmpty)) H):=by
 intro pins s σ H x y v u Q I rx ry h;obtain⟨i,j,rfl,rfl,q⟩:=h;obtain⟨t,rfl⟩:=rx;obtain⟨t',rfl⟩:=ry;exact notIn_str<|wI I q rfl
def uo(b)(h:op ≠ .In:=by decide)(h2:op ≠ .NotIn:=by decide):behindInMarks op b=false:=by
 have e1:(op==CmpOp.In)=false:=by cases op<;>first|rfl|exact absurd rfl h
 have e2:(op==CmpOp.NotIn)=false:=by cases op<;>first|rfl|exact absurd rfl h2
 cases b<;>simp[behindInMarks,e1,e2]
def rk{op}{r:R2}(ho:Gf X (compareOp op) r)(ha:PE X a ta)(hb:PE X b tb)(hm:behindInMarks op b=false):PE X (.Compare a [op] [b] pos) (ic r ta tb):=by
 intro pins s σ H Q I h;exact wpAny_Compare1 (nC ha hb I h λv u s2 x y H2 I2 rx ry q=>ho pins s2 σ H2 x y v u Q I2 rx ry q) hm
def kN(t:TE):TT:=λσ H Q=>t σ H λx H'=>∃k,x = .bl k/\Q k H'
def qj(ho:Gf X (compareOp op) r)(ha:PE X a ta)(hb:PE X b tb)(hm:behindInMarks op b=false):PT X (.Compare a [op] [b] pos) (kN<|ic r ta tb):=by
 intro pins s σ H Q I h;refine wpAny_isTrue_Compare1 (wo (ha pins s σ H _ I h) λv s1 ⟨x,H1,I1,r1,q1⟩=>wo (hb pins s1 σ H1 _ I1 q1) λu s2 ⟨y,H2,I2,r2,q2⟩=>
  wo (ho pins s2 σ H2 x y v u _ I2 r1 r2 q2) λc s3 ⟨z,H3,I3,r3,k,e,q3⟩=>?_) hm
 subst e;cases r3;exact wpAny_truthy_bool ⟨H3,I3,q3⟩
def om(r r':R2)(ta tb tc:TE):TE:=λσ H Q=>ta σ H λx H1=>tb σ H1 λy H2=>r x y H2 λz H3=>∃k,z = .bl k/\
 (if k=true then tc σ H3 λw' H4=>r' y w' H4 Q else Q (.bl false) H3)
def uf(ho:Gf X (compareOp op) r)(ho':Gf X (compareOp op') r')(ha:PE X a ta)(hb:PE X b tb)(hc:PE X c tc)
 (hm:lastMarks [op,op'] [b,c]=false:=by with_unfolding_all rfl):PE X (.Compare a [op,op'] [b,c] pos) (om r r' ta tb tc):=by
 intro pins s σ H Q I h;refine Compare_chain (wo (ha pins s σ H _ I h) λv s1 ⟨x,H1,I1,r1,q1⟩=>chain_link<|wo (hb pins s1 σ H1 _ I1 q1) λu s2 ⟨y,H2,I2,r2,q2⟩=>
  wo (ho pins s2 σ H2 x y v u _ I2 r1 r2 q2) λd s3 ⟨z,H3,I3,r3,k,e,q3⟩=>?_) hm
 subst e;cases r3;refine wpAny_truthy_bool ?_;cases k with
 |false=>exact ite_ff ⟨.bl false,H3,I3,rfl,q3⟩
 |true=>exact ite_tt (chain_last<|wo (hc pins s3 σ H3 _ I3 q3) λw' s4 ⟨z',H4,I4,r4,q4⟩=>ho' pins s4 σ H4 y z' u w' Q I4 r2 r4 q4)
def lB(K:zzA)(x:V)(H:Hp)(k:Bool):Prop:=
 match x with
 | .non=>k=false
 | .bl b=>k=b
 | .int i=>k=(i != 0)
 | .str y=>y.length<=sizeLine/\k=((y.length:Int) != 0)
 | .byt y=>y.size<=sizeLine/\k=((y.size:Int) != 0)
 | .ref p=>(∃xs,VX K H p xs/\k = !xs.isEmpty)\/(∃xs,RF K H p xs/\k = !xs.isEmpty)\/∃kvs,H p=some (.dK kvs)/\k = !kvs.isEmpty
 |_=>False
def O1(r:KV kvs vs):(!vs.isEmpty) = !kvs.isEmpty:=by
 cases r<;>rfl
def LI(r:zS xs its):(!its.toArray.isEmpty) = !xs.isEmpty:=by
 cases r<;>simp
def Rq:(sizeLine:Nat)<2 ^ 63:=by rw[sizeLine_eq];decide
def mG:ej X (λx H Q=>∃k,lB X.K x H k/\Q k H):=by
 intro pins s σ H x v Q I rx h;obtain⟨k,e,q⟩:=h;have hl:=Rq;have hs:=sizeLine_eq;cases x with
 |non=>
  cases rx;have e':k=false:=e;subst e';exact truthy_none ⟨H,I,q⟩
 |bl b=>
  cases rx;have e':k=b:=e;subst e';exact wpAny_truthy_bool ⟨H,I,q⟩
 |int i=>
  obtain⟨t,rfl⟩:=rx;have e':k=(i != 0):=e;subst e';exact PySem.P.truthy_int ⟨H,I,q⟩
 |str y=>
  obtain⟨t,rfl⟩:=rx;obtain⟨hy,e'⟩:y.length<=sizeLine/\k=_:=e;subst e';exact PySem.P.truthy_str (by omega) ⟨H,I.tok _,q⟩
 |byt y=>
  obtain⟨t,rfl⟩:=rx;obtain⟨hy,e'⟩:y.size<=sizeLine/\k=_:=e;subst e';exact W.truthy_bytes (by omega) ⟨H,I.tok _,q⟩
 |ref p=>
  cases rx;have e':_\/_\/∃kvs,H p=some (.dK kvs)/\k = !kvs.isEmpty:=e
  rcases e' with⟨xs,hx,e'⟩|⟨xs,hx,e'⟩|⟨kvs,hx,e'⟩
  . subst e';obtain⟨its,r,pl,hz⟩:=I.list hx;have hlen:=r.length;exact wpAny_truthy_list pl.isList (by simp only[zzH];exact q0N hs hlen hz) ⟨H,I.tok _,by rw[LI r];exact q⟩
  . subst e';obtain⟨its,r,pl,hz⟩:=I.tuple hx;have hlen:=r.length;exact truthy_tuple pl (by simp only[zzH];exact q0N hs hlen hz) ⟨H,I.tok _,by rw[LI r];exact q⟩
  . subst e';obtain⟨hz,hS,vs,r,m⟩:kvs.length<=sizeLine/\_=false/\∃vs,KV kvs vs/\s.heap.DictOf _ p vs:=I.hok p _ hx;have hlen:=Paired.length r;exact wpAny_truthy_dict hS m (q0N hs hlen hz) ⟨H,I.tok _,by rw[O1 r];exact q⟩
 |_=>exact(e).elim
def DH(ha:PE X a ta)(he:∀whole,isTrue a X.env whole=(do let v <-whole;standAt a.pos;holding [v] (truthy v))):
 PT X a (λσ H Q=>ta σ H λx H'=>∃k,lB X.K x H' k/\Q k H'):=by
 intro pins s σ H Q I h;exact isTrue_plain (wo (ha pins s σ H _ I h) λv s1 ⟨x,H1,I1,r1,q1⟩=>mG pins s1 σ H1 x v Q I1 r1 q1)<|he _
def OC:Gf X (binaryOp .Add) (λx y H Q=>∃i j,x = .str i/\y = .str j/\i.length+j.length<=sizeLine/\Q (.str<|i++j) H):=by
 intro pins s σ H x y v u Q I rx ry h;obtain⟨i,j,rfl,rfl,hz,q⟩:=h;obtain⟨t,rfl⟩:=rx;obtain⟨t',rfl⟩:=ry;exact add_str (λt' tk=>⟨.str<|i++j,H,I.tok _,⟨_,rfl⟩,q⟩) hz
def vals1(r:zS [x] us):∃u,us=[u]/\RelV x u:=by
 cases r with
 |cons r1 r2=>cases r2;exact⟨_,rfl,r1⟩
def vals2(r:zS [x,y] us):∃u w',us=[u,w']/\RelV x u/\RelV y w':=by
 cases r with
 |cons r1 r2=>
  cases r2 with
  |cons r3 r4=>cases r4;exact⟨_,_,rfl,r1,r3⟩
def Jj(hc:X.calm=true):Wh X (.builtin "max") (λxs H Q=>∃i j,xs=[.int i,.int j]/\Q (.int (if j > i then j else i)) H):=by
 intro pins s σ H xs us Q I r h;obtain⟨i,j,rfl,q⟩:=h;obtain⟨u,w',rfl,⟨t,rfl⟩,⟨t',rfl⟩⟩:=vals2 r;refine max_two_ints (I.ok.hd hc) λh' tk k=>⟨_,H,I.kept k, ?_,q⟩
 by_cases hj:j > i
 . rw[if_pos hj,if_pos hj];exact⟨_,rfl⟩
 . rw[if_neg hj,if_neg hj];exact⟨_,rfl⟩
def Jn(hc:X.calm=true):Wh X (.builtin "min") (λxs H Q=>∃i j,xs=[.int i,.int j]/\Q (.int (if j<i then j else i)) H):=by
 intro pins s σ H xs us Q I r h;obtain⟨i,j,rfl,q⟩:=h;obtain⟨u,w',rfl,⟨t,rfl⟩,⟨t',rfl⟩⟩:=vals2 r;refine min_two_ints (I.ok.hd hc) λh' tk k=>⟨_,H,I.kept k, ?_,q⟩
 by_cases hj:j<i
 . rw[if_pos hj,if_pos hj];exact⟨_,rfl⟩
 . rw[if_neg hj,if_neg hj];exact⟨_,rfl⟩
def EZ:Wh X (.type "int") (λxs H Q=>(∃i,xs=[.int i]/\Q (.int i) H)\/∃k,xs=[.bl k]/\Q (.int (if k then 1 else 0)) H):=by
 intro pins s σ H xs us Q I r h
 rcases h with⟨i,rfl,q⟩|⟨k,rfl,q⟩
 . obtain⟨u,rfl,t,rfl⟩:=vals1 r;exact call_int_int ⟨.int i,H,I,⟨_,rfl⟩,q⟩
 . obtain⟨u,rfl,r1⟩:=vals1 r;cases r1;exact call_int_bool ⟨.int _,H,I.tok _,⟨_,rfl⟩,q⟩
def dw(K:zzA)(x:V)(H:Hp)(n:Nat):Prop:=
 match x with
 | .str y=>y.length<=sizeLine/\n=y.length
 | .byt y=>y.size<=sizeLine/\n=y.size
 | .ref p=>(∃xs,VX K H p xs/\n=xs.length)\/∃xs,RF K H p xs/\n=xs.length
 |_=>False
def ua:Wh X (.builtin "len") (λxs H Q=>∃x n,xs=[x]/\dw X.K x H n/\Q (.int n) H):=by
 intro pins s σ H xs us Q I r h;obtain⟨x,n,rfl,e,q⟩:=h;obtain⟨u,rfl,rx⟩:=vals1 r;have hl:=Rq;have hs:=sizeLine_eq;cases x with
 |str y=>
  obtain⟨t,rfl⟩:=rx;obtain⟨hy,e'⟩:y.length<=sizeLine/\n=y.length:=e;subst e';exact len_str (by omega) ⟨.int _,H,I.tok _,⟨_,rfl⟩,q⟩
 |byt y=>
  obtain⟨t,rfl⟩:=rx;obtain⟨hy,e'⟩:y.size<=sizeLine/\n=y.size:=e;subst e';exact W.len_bytes (by omega) ⟨.int _,H,I.tok _,⟨_,rfl⟩,q⟩
 |ref p=>
  cases rx;have e':_\/∃xs,RF X.K H p xs/\n=xs.length:=e
  rcases e' with⟨xs,hx,e'⟩|⟨xs,hx,e'⟩
  . subst e';obtain⟨its,r',pl,hz⟩:=I.list hx;have hlen:=r'.length;exact Calls.call_len_list pl.isList (by simp only[zzH];exact q0N hs hlen hz) ⟨.int xs.length,H,I.tok _,⟨_,by simp only[zzH];rw[hlen]⟩,q⟩
  . subst e';obtain⟨its,r',pl,hz⟩:=I.tuple hx;have hlen:=r'.length;exact len_tuple pl (by simp only[zzH];exact q0N hs hlen hz) ⟨.int xs.length,H,I.tok _,⟨_,by simp only[zzH];rw[hlen]⟩,q⟩
 |_=>exact(e).elim
def Ho:Wh X (.builtin "divmod") (λxs H Q=>∃i j,xs=[.int i,.int j]/\fU i j/\∀p,H p=none->Q (.ref p) (upd H p<|.tup [.int<|i/j,.int<|i%j])):=by
 intro pins s σ H xs us Q I r h;obtain⟨i,j,rfl,⟨h1,h2⟩,q⟩:=h;obtain⟨u,w',rfl,⟨t,rfl⟩,⟨t',rfl⟩⟩:=vals2 r;refine divmod_int (by omega) ?_ (.inl<|PyProof.noPylong_small<|by omega);rw[Int.fdiv_eq_ediv_of_nonneg i (by omega),Int.fmod_eq_emod_of_nonneg i<|by omega];have hn:=I.hok.fresh<|zzN _;refine⟨.ref s.heap.objs.size,_, ?_,rfl,q _ hn⟩;refine I.laid (λb o e=>zxH _ e) (zzN _) ⟨by simp only[zzT,List.length_nil];rw[sizeLine_eq];decide,[.int (i/j) s.toks,.int (i%j)<|s.toks+1],.cons ⟨_,rfl⟩<|.cons ⟨_,rfl⟩ .nil, ?_⟩;exact⟨_,zxJ s.heap rfl,rfl,0,rfl⟩
end
end L2
namespace L2
open PySem PySem.Spec PyProof.Rows
structure ObjM(h:Heap)(x dx C:Addr)(mA:Str->Option Value):Prop where
 obj:h.get? x=some (W.instObj C dx)
 ns:h.Ns1 dx mA
 ne:dx≠x
def JL{h:Heap}{dx mA}(n:h.Ns1 dx mA):∃od,h.get? dx=some od/\∀name,W.lookIn name od=some (mA name):=by
 obtain⟨o,es,ep,ho,hd,hk,_,hm⟩:=n;refine⟨o,ho,λname=>?_⟩;have e:=hm name;unfold nsFind findBy at e;rw[<-Array.find?_toList]at e;unfold W.lookIn;rw[hd];dsimp only
 split
 . rename_i y q;rw[q]at e;exact congrArg some e
 . rename_i q;rw[q]at e;have a:es.toList.any (·.refKey)=false:=by
    rw[List.any_eq_false];intro y hy;obtain⟨z,t,hkey⟩:=hk y<|Array.mem_toList_iff.mp hy;simp[DictEntry.refKey,hkey]
   have a':¬es.toList.any (·.refKey)=true:=by rw[a];exact zyV
   rw[if_neg a'];exact congrArg some e
def ObjM.look(I:ObjM h x dx C mA):∃od,PySem.W.InstAt h x (W.instObj C dx) C (some od)/\∀name,W.lookIn name od=some (mA name):=
 let⟨od,ho,hl⟩:=JL I.ns
 ⟨od,⟨I.obj,rfl,rfl,ho⟩,hl⟩
section
variable{prog:Program}{w:World}{A:Around}{E:Value->Shared->Prop}{s:Shared}{K:zzA}{x dx C f:Addr}{mA:Str->Option Value}{name:Str}{v:Value}
def sV(X:K.In s.heap)(I:ObjM s.heap x dx C mA)(hg:W.plainGet K C name=true)(hh:W.hasDictIn K C=true)
 (ha:W.findIn K (.ref C) name=some none) (hv:mA name=some v) (hv':W.handedIn v=true) (h:Q v {s with toks:=s.toks+1}):
 wpAny (model prog w) A (getAttr (.ref x) name expr) Q E s:=by
 obtain⟨od,J,hl⟩:=I.look;exact W.get_value X J (W.plainGet_of hg).1 (W.findObj_own hh ha rfl<|by rw[hl,hv]) hv' h
def DW(X:K.In s.heap)(I:ObjM s.heap x dx C mA)(hg:W.plainGet K C name=true)
 (hf:W.findIn K (.ref C) name=some (some<|.ref f)) (ht:W.isFn K (.ref f)=true) (hv:mA name=none) (h:Q (.ref f,[.ref x]) s):
 wpAny (model prog w) A (getMethod (.ref x) name pl) Q E s:=by
 obtain⟨od,J,hl⟩:=I.look;exact W.method_fn X J (W.plainGet_of hg).1 (W.plainGet_of hg).2 hf (beq_iff_eq.mp ht) (by show(W.lookIn name od).map _=some false;rw[hl,hv];rfl) h
def rD(X:K.In s.heap)(I:ObjM s.heap x dx C mA)
 (hs:W.findIn K (.ref C) "__setattr__"=some (some<|.builtin "object.__setattr__")) (hp:W.plainOver K C=true) (ht:W.takerIn K C name=some none) (hh:W.hasDictIn K C=true)
 (hw:PySem.Within mA ns) (hsz:ns.length<=sizeLine)
 (h:∀h',ObjM h' x dx C (λy=>if y=name then some v else mA y)->Heap.SameBut dx s.heap h'->Q () {s with heap:=h',toks:=s.toks+2}):
 wpAny (model prog w) A (setAttr (.ref x) name v) Q E s:=by
 obtain⟨od,J,hl⟩:=I.look;refine W.set_plain X J hs<|W.osa_open X J hp ht λb=>?_;obtain⟨cd,hc,hd'⟩:=W.any_some hh;have hx:=I.obj;refine zxF<|zxG<|zxF<|zxF<|wpAny_loadPart hx<|zxF<|PySem.W.Looks.here (W.looks_clsIn X hc) ?_;rw[hd'];refine zxG<|zxF<|zxG<|zxF ?_;refine wpAny_nsSet1 I.ns λh' hn2 hs2=>?_;obtain⟨oD,esD,epD,hoD,hdD,hcD⟩:=hn2.count<|PySem.Within.cons name v hw;refine zxF<|wpAny_lookBehind hoD (by rw[hdD];exact pastItsLine_dict<|zzO hcD<|by rw[zzT];omega) ?_;exact zxG<|h _ ⟨(hs2.2 _<|Ne.symm I.ne).trans I.obj,hn2,I.ne⟩ hs2
def DJ(X:K.In s.heap)(hm:W.makesIn K C=true)
 (hi:W.findIn K (.ref C) "__init__"=some (some<|.ref f)) (hf:W.typeIn K (.ref f)=some (.type "function"))
 (h:codeAny (model prog w) (A.under<|.builtin "type.__call__" ⟨.ref C::vs,kw⟩) (.call (.ref f) ⟨.ref (s.heap.objs.size+1)::vs,kw⟩) (PySem.W.InitBack (s.heap.objs.size+1) R)
  {s with heap:=(s.heap.push W.emptyDict).push (W.instObj C s.heap.objs.size)}):
 codeAny (model prog w) A (.call (.ref C) ⟨vs,kw⟩) R s:=by
 obtain⟨hh,g,d,t,os⟩:=s;exact W.make_core (W.makes_of X hm) (W.looks_findIn X hi) (λself=>W.bind_fn X self hf) (.inl rfl) h
end
noncomputable def QG(f:Str)(v:V):List (Str×V)->List (Str×V)
 | []=>[(f,v)]
 |(g,x)::r=>if g=f then(g,v)::r else(g,x)::QG f v r
theorem GL(f g)(v):∀fs:List (Str×V),(QG f v fs).lookup g=if g=f then some v else fs.lookup g
 | []=>by
  show List.lookup g [_]=_
  by_cases h:g=f
  . have hb:=beq_iff_eq.mpr h;simp only[List.lookup,hb,if_pos h]
  . have hb:=beq_eq_false_iff_ne.mpr h;simp only[List.lookup,hb,if_neg h]
 |(k,x)::r=>by
  have ih:=GL f g v r;rw[show QG f v _=(if k=f then(k,v)::r else(k,x)::QG f v r)from rfl]
  by_cases hk:k=f
  . rw[if_pos hk]
    by_cases h:g=k
    . have hb:=beq_iff_eq.mpr h;simp only[List.lookup,hb,if_pos<|h.trans hk]
    . have hb:=beq_eq_false_iff_ne.mpr h;simp only[List.lookup,hb,if_neg (λe:g=f=>h<|e.trans hk.symm)]
  . rw[if_neg hk]
    by_cases h:g=k
    . have hb:=beq_iff_eq.mpr h;simp only[List.lookup,hb,if_neg (λe:g=f=>hk<|h.symm.trans e)]
    . have hb:=beq_eq_false_iff_ne.mpr h;simp only[List.lookup,hb];exact ih
theorem TQ(f)(v):∀fs:List (Str×V),f ∈ (QG f v fs).map (·.1)/\∀g,g ∈ fs.map (·.1)->g ∈ (QG f v fs).map (·.1)
 | []=>⟨by simp[QG],λg h=>by simp at h⟩
 |(k,x)::r=>by
  obtain⟨i1,i2⟩:=TQ f v r;rw[show QG f v _=(if k=f then(k,v)::r else(k,x)::QG f v r)from rfl]
  by_cases hk:k=f
  . rw[if_pos hk];subst hk;exact⟨by simp,λg h=>by simpa using h⟩
  . rw[if_neg hk];refine⟨?_,λg h=>?_⟩
    . rw[zyS];exact zzD _ i1
    . rw[zyS]at h ⊢
      rcases zzC.mp h with e|e
      . exact zzC.mpr<|.inl e
      . exact zzD _<|i2 g e
theorem Gx(f)(v):∀fs:List (Str×V),(QG f v fs).length<=fs.length+1
 | []=>by simp[QG]
 |(k,x)::r=>by
  have ih:=Gx f v r;rw[show QG f v _=(if k=f then(k,v)::r else(k,x)::QG f v r)from rfl]
  by_cases hk:k=f
  . rw[if_pos hk,zzT,zzT];omega
  . rw[if_neg hk,zzT,zzT];omega
def RY.some_of(r:RY (some v) o):∃u,o=some u/\RelV v u:=by
 cases o with
 |none=>exact(r).elim
 |some u=>exact⟨u,rfl,r⟩
def RY.none_of(r:RY none o):o=none:=by
 cases o with
 |none=>rfl
 |some u=>exact(r).elim
def IY(r:RelV v u):W.handedIn u=true:=by
 cases v with
 |non=>cases(r);rfl
 |bl b=>cases(r);rfl
 |int i=>obtain⟨t,e⟩:=(r);cases e;rfl
 |str x=>obtain⟨t,e⟩:=(r);cases e;rfl
 |byt b=>obtain⟨t,e⟩:=(r);cases e;rfl
 |flt b=>obtain⟨t,e⟩:=(r);cases e;rfl
 |ref a=>cases(r);rfl
 |ty n=>cases(r);rfl
section
variable{P:Program}{w:World}{H H':Hp}{h h':Heap}{a C dx:Addr}{fs fs':List (Str×V)}
def Fv(hok:GB P w H h)(e:H a=some (.ins C dx fs)):∃mA,ObjM h a dx C mA/\(∀f,RY (fs.lookup f)<|mA f)/\PySem.Within mA (fs.map (·.1))/\fs.length<=1000/\H dx=some (.own a):=by
 obtain⟨d,z,ne,ob,mA,n,r,q⟩:=(hok a _ e);exact⟨mA,⟨ob,n,ne⟩,r,q,z,d⟩
end
structure Cls(K:zzA)(C:Addr):Prop where
 pg:W.plainGet K C Str.empty=true
 hd:W.hasDictIn K C=true
 po:W.plainOver K C=true
 sa:W.findIn K (.ref C) "__setattr__"=some (some<|.builtin "object.__setattr__")
def Cls.get{K C}(c:Cls K C)(f):W.plainGet K C f=true:=c.pg
def yN(K:zzA)(C:Addr)(f:Str):Prop:=W.findIn K (.ref C) f=some none
def yN.taker{K C f}(n:yN K C f):W.takerIn K C f=some none:=by
 unfold W.takerIn;rw[show W.findIn K (.ref C) f=some none from n];rfl
structure Con(K:zzA)(C:Addr)(f:Str)(v:V)(u:Value):Prop where
 at_:W.findIn K (.ref C) f=some (some u)
 rel:RelV v u
 get:W.specialIn K u "__get__"=some none
 cp:W.copiedNames.contains f=false
structure Meth(K:zzA)(C:Addr)(m:Str)(f:Addr):Prop where
 at_:W.findIn K (.ref C) m=some (some<|.ref f)
 fn:W.isFn K (.ref f)=true
 kp:W.keepIn K (.ref f)=true
section
variable{X:Cx}{pins:List (Addr×Obj)}{σ:St}{H:Hp}{s:Shared}{a C dx:Addr}{fs:List (Str×V)}{f:Str}{v:V}{A:Around}{E:Value->Shared->Prop}
def OL(I:Inv X pins σ H s)(e:H a=some (.ins C dx fs))(c:Cls X.K C)(n:yN X.K C f)(l:fs.lookup f=some v)
 (h:∀u s',Inv X pins σ H s'->RelV v u->Q u s'):wpAny (model X.prog X.w) A (getAttr (.ref a) f b) Q E s:=by
 obtain⟨mA,O,r,_,_,_⟩:=Fv I.hok e;obtain⟨u,hu,ru⟩:=RY.some_of (by rw[<-l];exact r f);exact sV I.kIn O (c.get f) c.hd n hu (IY ru)<|h u _ (I.tok _) ru
def Ma(I:Inv X pins σ H s)(e:H a=some (.ins C dx fs))(c:Cls X.K C)(k:Meth X.K C m g)(l:fs.lookup m=none)
 (h:Q (.ref g,[.ref a]) s):wpAny (model X.prog X.w) A (getMethod (.ref a) m pl) Q E s:=by
 obtain⟨mA,O,r,_,_,_⟩:=Fv I.hok e;have hn:=RY.none_of (by rw[<-l];exact r m);exact DW I.kIn O (c.get m) k.at_ k.fn hn h
def Oh(I:Inv X pins σ H s)(e:H a=some (.ins C dx fs))(c:Cls X.K C)(n:yN X.K C f)(hl:fs.length<1000)(ry:RelV y u)
 (h:∀s',Inv X pins σ (upd H a<|.ins C dx<|QG f y fs) s'->Q () s'):wpAny (model X.prog X.w) A (setAttr (.ref a) f u) Q E s:=by
 obtain⟨mA,O,r,wi,_,ho⟩:=Fv I.hok e;have hz:(fs.map (·.1)).length<=sizeLine:=by rw[zzB,sizeLine_eq];omega
 refine rD I.kIn O c.sa c.po n.taker c.hd wi hz λh' O' sb=>h _ ?_;have hd:∃o,h'.get? dx=some o:=let⟨o,_,_,e',_⟩:=O'.ns;⟨o,e'⟩;refine I.write (by rw[e];exact True.intro) (.inr ho) (λb q hb z=>(sb.2 b hb).trans z) hd ?_;refine⟨by rw[zG O.ne];exact ho, ?_,O.ne,O'.obj,_,O'.ns,λg=>?_,λg hg=>?_⟩
 . have:=Gx f y fs;omega
 . show RY _ _;rw[GL]
   by_cases q:g=f
   . rw[if_pos q,if_pos q];exact ry
   . rw[if_neg q,if_neg q];exact r g
 . by_cases q:g=f
   . rw[q];exact(TQ f y fs).1
   . refine(TQ f y fs).2 g<|wi g λz=>hg ?_;show(if g=f then some u else mA g)=_;rw[if_neg q];exact z
def Inv.made(I:Inv X pins σ H s):Inv X pins σ (upd (upd H s.heap.objs.size<|.own<|s.heap.objs.size+1) (s.heap.objs.size+1)<|.ins C s.heap.objs.size [])
 {s with heap:=(s.heap.push W.emptyDict).push (W.instObj C s.heap.objs.size)}:=by
 have e1:(s.heap.push W.emptyDict).get? s.heap.objs.size=some W.emptyDict:=zxJ s.heap rfl;have e2:((s.heap.push W.emptyDict).push<|W.instObj C s.heap.objs.size).get? (s.heap.objs.size+1)=some (W.instObj C s.heap.objs.size):=by
  have:=zxJ (s.heap.push W.emptyDict) (o:=W.instObj C s.heap.objs.size) rfl
  rwa [zxL]at this
 have e3:(s.heap.push W.emptyDict).Ns s.heap.objs.size (λ_=>none):=⟨W.emptyDict,#[],_,e1,rfl,(λe he=>absurd he<|by simp),λ_=>rfl⟩;have I1:=I.laid (o:=.own<|s.heap.objs.size+1) (h':=s.heap.push W.emptyDict) (t':=s.toks) (λb u q=>zxH _ q) (zzN _) ⟨_,e1⟩;refine I1.laid (t':=s.toks) (λb u q=>zxH _ q) (Nat.le_of_eq<|zxL _ _) ?_;have ne:s.heap.objs.size≠s.heap.objs.size+1:=zzQ<|Nat.lt_succ_self _;refine⟨by rw[zG ne,z_],Nat.zero_le _,ne,e2,λ_=>none,(Heap.Ns1.of_empty e3).at λo q=>zxH _ q,λ_=>True.intro,λy hy=>absurd rfl hy⟩
def qx(hb:attributeBase e f env (eval e env)=eval e env)
 (h:wpAny (model prog w) A (eval e env) (λo s₁=>wpAny (model prog w) A (getAttr o f true) Q E s₁) E s):wpAny (model prog w) A (eval (.Attribute e f pos) env) Q E s:=
 Attribute_any_ h (by rw[arm_eval_Attribute,hb])
end
def f_(K:zzA)(ta:TE)(f:Str):TE:=λσ H Q=>ta σ H λx H1=>∃a C dx fs v,x = .ref a/\H1 a=some (.ins C dx fs)/\Cls K C/\yN K C f/\fs.lookup f=some v/\Q v H1
def dH(K:zzA)(ta tv:TE)(f:Str):TS:=λD σ H=>tv σ H λy H1=>ta σ H1 λx H2=>∃a C dx fs,x = .ref a/\H2 a=some (.ins C dx fs)/\Cls K C/\yN K C f/\fs.length<1000/\
 D.nx σ (upd H2 a<|.ins C dx<|QG f y fs)
section
variable{X:Cx}{o e value:Expr}{f:Str}{pos pos' tpos:Pos}{ta tv:TE}
def Ft(he:PE X e ta)(hb:attributeBase e f X.env (eval e X.env)=eval e X.env):PE X (.Attribute e f pos) (f_ X.K ta f):=by
 intro pins s σ H Q I h;refine qx hb<|wo (he pins s σ H _ I h) λu s1 h=>?_;obtain⟨x,H1,I1,rx,a,C,dx,fs,v,ex,ea,c,n,l,q⟩:=h;subst ex;obtain rfl:u=Value.ref a:=rx;exact OL I1 ea c n l λu' s2 I2 ru=>⟨v,H1,I2,ru,q⟩
def D6(ha:PE X o ta)(hv:PE X value tv)(hs:swapsWith value (some<|.Attribute o f pos') pos.line X.env=pure false):PS X (.Assign [.Attribute o f pos'] value pos) (dH X.K ta tv f):=by
 intro pins s σ H D I h;refine plainObj_wpAny_Assign_Attribute (wo (hv pins s σ H _ I h) λu s1 ⟨y,H1,I1,ry,q⟩=>wo (ha pins s1 σ H1 _ I1 q) λov s2 h=>?_) hs;obtain⟨x,H2,I2,rx,a,C,dx,fs,ex,ea,c,n,l,q2⟩:=h;subst ex;obtain rfl:ov=Value.ref a:=rx;exact Oh I2 ea c n l ry λs3 I3=>⟨σ,_,I3,q2⟩
end
section
variable{X:Cx}{pins:List (Addr×Obj)}{σ:St}{H:Hp}{s:Shared}{A:Around}{E:Value->Shared->Prop}{Q:Value->Shared->Prop}{c:Value}{b:Bool}
inductive TyOf(K:zzA)(H:Hp):V->Value->Prop where
 |non:TyOf K H .non (.type "NoneType")
 |bl (x:Bool):TyOf K H (.bl x) (.type "bool")
 |int (i:Int):TyOf K H (.int i) (.type "int")
 |str (x:Str):TyOf K H (.str x) (.type "str")
 |flt (x:UInt64):TyOf K H (.flt x) (.type "float")
 |lst {a:Addr}{xs:List V}(e:H a=some (.lst xs)):TyOf K H (.ref a) (.type "list")
 |frz {a:Addr}{o:Obj}{xs:List V}(e:H a=some (.frz o (.lst xs))):TyOf K H (.ref a) (.type "list")
 |tup {a:Addr}{xs:List V}(e:H a=some (.tup xs)):TyOf K H (.ref a) (.type "tuple")
 |dK {a:Addr}{kvs:List (Key×V)}(e:H a=some (.dK kvs)):TyOf K H (.ref a) (.type "dict")
 |dT {a:Addr}{kvs:List (List Key×V)}(e:H a=some (.dT kvs)):TyOf K H (.ref a) (.type "dict")
 |ins {a C dx:Addr}{fs:List (Str×V)}(e:H a=some (.ins C dx fs)) (cl:Cls K C) (ha:W.findIn K (.ref C) "__class__"=some (some (.builtin "object.__class__")))
  (hn:W.specialIn K (.builtin "object.__class__") "__get__"=some (some<|.builtin "getset_descriptor.__get__")) (htk:W.takesIn K (.builtin "object.__class__")=some true)
  (hm:W.mroIn K C (.type "object")=some true):TyOf K H (.ref a) (.ref C)
end
end L2
namespace L2
open PySem PySem.Spec PyProof.Rows
structure Room(k:Nat)(A:Around):Prop where
 hd:A.handled=none
 dp:A.depth+3*k+5<recursionLimit
 un:A.units+16*k+200<cLine
 gd:A.guards=some []
def Room.mono(r:Room k A)(h:j<=k):Room j A:=⟨r.hd,by have:=r.dp;omega,by have:=r.un;omega,r.gd⟩
theorem Room.deeper(r:Room (k+1) A)(env):Room k (A.deeper env):=
 ⟨r.hd,by have:=r.dp;show A.depth+1+3*k+5<_;exact q1h this,by have:=r.un;show A.units+3+16*k+200<_;omega,r.gd⟩
def H_{A:Around}{C us kw}:(A.under<|.builtin "type.__call__" ⟨.ref C::us,kw⟩).depth=A.depth+1:=by
 first|rfl|simp[Around.under,Code.weight,Code.isCreation,Code.isGuard,Code.isCaller,Code.frames,Code.isFrame,guardIds]
def Cd{A:Around}{C us kw}:(A.under<|.builtin "type.__call__" ⟨.ref C::us,kw⟩).units=A.units+1:=by
 first|rfl|simp[Around.under,Code.cUnits,Code.frames,Code.isFrame]
def Hu{A:Around}{C us kw}:(A.under<|.builtin "type.__call__" ⟨.ref C::us,kw⟩).guards=A.guards:=by
 first|rfl|simp[Around.under,Code.guards,Code.isGuard,guardIds,PySem.pushGuards]
def Room.make{k:Nat}{A:Around}(r:Room (k+1) A)(C)(us)(kw):Room k (A.under<|.builtin "type.__call__" ⟨.ref C::us,kw⟩):=
 ⟨r.hd,by have:=r.dp;rw[H_];exact q1h this,by have:=r.un;rw[Cd];omega,by rw[Hu];exact r.gd⟩
theorem Room.depth(r:Room k A):A.depth<recursionLimit:=by have:=r.dp;omega
def oJ:TA:=λ_ H Q=>Q [] H
def qU(ta:TE)(tr:TA):TA:=λσ H Q=>ta σ H λx H1=>tr σ H1 λxs H2=>Q (x::xs) H2
section
variable{X:Cx}{e:Expr}{es:List Expr}{te:TE}{t:TA}{pos:Pos}
def Gg:PA X [] oJ:=λ_ _ _ _ H Q I h=>Calls.spliced_nil ⟨[],H,I,.nil,h⟩
def Vb(ha:PE X e te)(hr:PA X es t)(hs:starEach (e::es) X.env=(false,eval e X.env)::starEach es X.env:=by rfl):PA X (e::es) (qU te t):=by
 intro pos pins s σ H Q I h;rw[hs];refine Calls.spliced_cons<|wo (ha pins s σ H _ I h) λu s1 ⟨x,H1,I1,r1,q1⟩=>?_;exact wo (hr pos pins s1 σ H1 _ I1 q1) λus s2 ⟨xs,H2,I2,r2,q2⟩=>⟨x::xs,H2,I2,.cons r1 r2,q2⟩
def du(t:TA):TE:=λσ H Q=>t σ H λxs H1=>xs.length<=sizeLine/\∀p,H1 p=none->Q (.ref p) (upd H1 p<|.tup xs)
def eM(t:TA):TE:=λσ H Q=>t σ H λxs H1=>xs.length<=sizeLine/\∀p,H1 p=none->Q (.ref p) (upd H1 p<|.lst xs)
def lR(h:PA X es t):PE X (.Tuple es x1 pos) (du t):=by
 intro pins s σ H Q I hq;refine wpAny_Tuple_spliced<|wo (h pos pins s σ H _ I hq) λus s1 ⟨xs,H1,I1,r,z,q⟩=>⟨by rw[<-r.length];exact z, ?_⟩;have hf:=I1.hok.fresh<|zzN _;refine⟨.ref s1.heap.objs.size,upd H1 s1.heap.objs.size _,I1.laid (t':=s1.toks) (λb u e=>zxH _ e) (zzN _) ?_,rfl,q _ hf⟩;exact⟨z,us,r,⟨_,zxJ _ rfl,rfl,_,rfl⟩⟩
def l_(h:PA X es t):PE X (.List es pos) (eM t):=by
 intro pins s σ H Q I hq;refine wpAny_List_spliced<|wo (h pos pins s σ H _ I hq) λus s1 ⟨xs,H1,I1,r,z,q⟩=>⟨by rw[<-r.length];exact z, ?_⟩;have hf:=I1.hok.fresh<|zzN _;refine⟨.ref s1.heap.objs.size,upd H1 s1.heap.objs.size _,I1.laid (t':=s1.toks) (λb u e=>zxH _ e) (zzN _) ?_,rfl,q _ hf⟩;exact⟨z,us,0,r,zxJ _ rfl⟩
end
abbrev Sp:=List V->Hp->VK->XK->Prop
abbrev pE:=List Env->Hp->Shared->XK->Value->Shared->Prop
structure Env0(P:Program)(w:World)(K:zzA)(mg:Str->Option Value)(base:Heap)(A:Around)(outer:List Env)(s:Shared)(H:Hp):Prop where
 frames:A.frames=some outer
 mod:Mod K mg base
 bs:∀b o,base.get? b=some o->s.heap.get? b=some o/\H b=none
 bsz:base.objs.size<=s.heap.objs.size
 funs:s.heap.FunFrames base outer
 frf:∀b ∈ J3 outer,H b=none
 hok:GB P w H s.heap
 bare:AllBare s.gens
def CE(outer:List Env)(P:Program)(w:World)(H:Hp)(s:Shared)(Q:VK)(u:Value)(s':Shared):Prop:=
 ∃v H',s'.os=s.os/\AllBare s'.gens/\Un (J3 outer) [] H H' s.heap s'.heap/\GB P w H' s'.heap/\RelV v u/\Q v H'
def CR(CX:pE)(outer:List Env)(P:Program)(w:World)(H:Hp)(s:Shared)(Q:VK)(E:XK)(r:Result)(s':Shared):Prop:=
 match r with
 | .ok (.ret u)=>CE outer P w H s Q u s'
 | .ok _=>False
 | .error e=>CX outer H s E e s'
structure FnOk(P:Program)(w:World)(K:zzA)(mg:Str->Option Value)(base:Heap)(CX:pE)(k:Nat)(f:Addr)(fd:FuncData)(ps:List Str)(sp:Sp):Prop where
 len:∀vs H Q E,sp vs H Q E->vs.length=ps.length
 run:∀(A:Around) (outer:List Env) (s:Shared) (H:Hp) (args:Args) (us:List Value) (vs:List V) (Q:VK) (E:XK),Room k A->Env0 P w K mg base A outer s H->BindsTo s fd args (ps.zip us)->zS vs us->sp vs H Q E->
  codeAny (model P w) A (.call (.ref f) args) (CR CX outer P w H s Q E) s
def FnOk.imp{P w K mg base CX}{k:Nat}{f fd ps sp sp'}(F:FnOk P w K mg base CX k f fd ps sp)
 (h:∀vs H Q E,sp' vs H Q E->sp vs H Q E):FnOk P w K mg base CX k f fd ps sp':=
 ⟨λvs H Q E q=>F.len vs H Q E<|h _ _ _ _ q,λA outer s H args us vs Q E hr he hb hv hs=>F.run A outer s H args us vs Q E hr he hb hv<|h _ _ _ _ hs⟩
def Env0.make{P w K mg base A outer s H}(e:Env0 P w K mg base A outer s H)(C)(us)(kw):
 Env0 P w K mg base (A.under<|.builtin "type.__call__" ⟨.ref C::us,kw⟩) outer s H:=⟨by first|exact e.frames|(simpa[Around.under,Code.envs,Code.isFrame,pushEnvs]using e.frames),e.mod,e.bs,e.bsz,e.funs,e.frf,e.hok,e.bare⟩
section
variable{X:Cx}{pins:List (Addr×Obj)}{σ:St}{H:Hp}{s s':Shared}
def Inv.env0(I:Inv X pins σ H s):Env0 X.prog X.w X.K X.mg X.base X.A X.stack s H:=
 ⟨I.ok.frames,I.ok.mod,I.bs,zzO I.ok.bsz I.sz,I.stack,I.stkFree,I.hok,I.bare⟩
def Inv.after(I:Inv X pins σ H s)(h:CE X.stack X.prog X.w H s Q u s'):EP X pins σ Q u s':=by
 obtain⟨v,H',os,bare,un,hok,r,q⟩:=h;obtain⟨hh,g,d,t,os'⟩:=s';obtain rfl:os'=s.os:=os;exact⟨v,H',I.call (h':=hh) (g':=g) (d':=d) (t':=t) un hok bare (λb z=>absurd z<|by simp),r,q⟩
end
def oe(sp:Sp)(dvs:List V)(E:XK)(t:TA):TE:=λσ H Q=>t σ H λvs H1=>sp (vs++dvs) H1 Q E
def pe(C:Addr)(sp:Sp)(dvs:List V)(E:XK)(t:TA):TE:=λσ H Q=>t σ H λvs H1=>∀x dx,H1 x=none->H1 dx=none->dx≠x->
 sp (.ref x::(vs++dvs)) (upd (upd H1 dx<|.own x) x<|.ins C dx []) (λv H2=>v = .non/\Q (.ref x) H2) E
def Binds(K:zzA)(fd:FuncData)(ps:List Str)(ds:List Value):Prop:=
 ∀(s:Shared) (us:List Value),K.In s.heap->(us++ds).length=ps.length->BindsTo s fd ⟨us,[]⟩ (ps.zip<|us++ds)
def Binds.all{K fd ps}(h:∀us:List Value,us.length=ps.length->bindArgs fd ⟨us,[]⟩=pure (ps.zip us)):Binds K fd ps []:=λs us _ hl=>by
 rw[zyE]at hl ⊢;exact .of_eq<|h us hl
def vq(CX:pE)(X:Cx)(E:XK):Prop:=∀(pins:List (Addr×Obj)) (σ:St) (H:Hp) (s:Shared) (e:Value) (s':Shared),Inv X pins σ H s->CX X.stack H s E e s'->X.xe e s'
section
variable{X:Cx}{CX:pE}{k:Nat}{f C:Addr}{fd:FuncData}{ps:List Str}{sp:Sp}{dvs:List V}{ds:List Value}{E:XK}{x m:Str}{p pos apos:Pos}{e o:Expr}{es:List Expr}{ta:TE}{t:TA}
def OP(F:FnOk X.prog X.w X.K X.mg X.base CX k f fd ps sp)(hr:Room k X.A)(hb:Binds X.K fd ps ds)(hd:zS dvs ds)(hx:vq CX X E)
 (I:Inv X pins σ H s) (r:zS vs us) (h:sp (vs++dvs) H Q E):wpAny (model X.prog X.w) X.A (call (.ref f) us) (EP X pins σ Q) X.xe s:=by
 have r2:=r.append hd;have hl:(us++ds).length=ps.length:=by rw[<-r2.length];exact F.len _ _ _ _ h
 refine wpAny_call<|codeAny_mono (F.run X.A X.stack s H ⟨us,[]⟩ _ _ Q E hr I.env0 (hb s us I.kIn hl) r2 h) λr s' hq=>?_;cases r with
 |error e=>exact hx pins σ H s e s' I hq
 |ok fl=>
  cases fl with
  |ret u=>exact I.after hq
  |next=>exact False.elim hq
  |brk=>exact False.elim hq
  |cont=>exact False.elim hq
def Iz(F:FnOk X.prog X.w X.K X.mg X.base CX k f fd ps sp)(hr:Room k X.A)(hg:Gl X x)(hm:X.mg x=some (.ref f))(hk:W.keepIn X.K (.ref f)=true)(hb:Binds X.K fd ps ds)(hd:zS dvs ds)(hx:vq CX X E)
 (ha:PA X (e::es) t) (hdb:(x==("__debug__":Str))=false:=by decide) (he:starEach (e::es) X.env=(false,eval e X.env)::starEach es X.env:=by rfl) (hpl:(backTo pos<|starEach es X.env).any (·.1)=false:=by rfl):
 PE X (.Call (.Name x p) (e::es) [] pos) (oe sp dvs E t):=by
 intro pins s σ H Q I h;refine wpAny_Call_Name_kw<|Bz I hg hm ?_ hdb;refine W.callWith_K I.ok.mod.kin hk (wo (ha pos pins s σ H _ I h) λus s1 ⟨vs,H1,I1,r,q⟩=>⟨I1.kIn, ?_⟩) he hpl;exact OP F hr hb hd hx I1 r q
structure Mk(K:zzA)(C f:Addr):Prop where
 makes:W.makesIn K C=true
 init:W.findIn K (.ref C) "__init__"=some (some<|.ref f)
 fn:W.isFn K (.ref f)=true
 kp:W.keepIn K (.ref C)=true
def Ac(M:Mk X.K C f)(F:FnOk X.prog X.w X.K X.mg X.base CX k f fd ps sp)(hr:Room (k+1) X.A)(hb:Binds X.K fd ps ds)(hd:zS dvs ds)
 (hx:vq CX X E) (I:Inv X pins σ H s) (r:zS vs us)
 (h:∀x dx,H x=none->H dx=none->dx≠x->sp (.ref x::(vs++dvs)) (upd (upd H dx<|.own x) x<|.ins C dx []) (λv H2=>v = .non/\Q (.ref x) H2) E):
 wpAny (model X.prog X.w) X.A (call (.ref C) us) (EP X pins σ Q) X.xe s:=by
 have hq:=h _ s.heap.objs.size (I.hok.fresh<|zyW _) (I.hok.fresh<|zzN _)<|zzQ<|Nat.lt_succ_self _;have I2:=Inv.made (C:=C) I;have r2:zS (V.ref (s.heap.objs.size+1)::_) _:=.cons rfl<|r.append hd;have hl:(Value.ref (s.heap.objs.size+1)::us++ds).length=ps.length:=by
  have e:=r2.length;rw[F.len _ _ _ _ hq]at e;exact e.symm
 refine wpAny_call<|DJ I.kIn M.makes M.init (beq_iff_eq.mp M.fn)<|codeAny_mono (F.run _ X.stack _ _ ⟨Value.ref _::us,[]⟩ _ _ _ E (hr.make C us [])
  (I2.env0.make C us []) (hb _ _ I2.kIn hl) r2 hq) λr s' hq'=>?_
 cases r with
 |error e=>exact hx pins σ _ _ e s' I2 hq'
 |ok fl=>
  cases fl with
  |ret u=>
   obtain⟨v,H',I3,rv,ev,q3⟩:=I2.after hq';subst ev;exact⟨rv,⟨V.ref _,H',I3,rfl,q3⟩⟩
  |next=>exact False.elim hq'
  |brk=>exact False.elim hq'
  |cont=>exact False.elim hq'
def se(M:Mk X.K C f)(F:FnOk X.prog X.w X.K X.mg X.base CX k f fd ps sp)(hr:Room (k+1) X.A)(hg:Gl X x)(hm:X.mg x=some (.ref C))(hb:Binds X.K fd ps ds)(hd:zS dvs ds)(hx:vq CX X E)
 (ha:PA X (e::es) t) (hdb:(x==("__debug__":Str))=false:=by decide) (he:starEach (e::es) X.env=(false,eval e X.env)::starEach es X.env:=by rfl) (hpl:(backTo pos<|starEach es X.env).any (·.1)=false:=by rfl):
 PE X (.Call (.Name x p) (e::es) [] pos) (pe C sp dvs E t):=by
 intro pins s σ H Q I h;refine wpAny_Call_Name_kw<|Bz I hg hm ?_ hdb;refine W.callWith_K I.ok.mod.kin M.kp (wo (ha pos pins s σ H _ I h) λus s1 ⟨vs,H1,I1,r,q⟩=>⟨I1.kIn, ?_⟩) he hpl;exact Ac M F hr hb hd hx I1 r q
end
section
variable{X:Cx}{CX:pE}{k:Nat}{f C:Addr}{fd:FuncData}{ps ks:List Str}{sp:Sp}{E:XK}{x m:Str}{p pos apos kpos:Pos}{e o:Expr}{es:List Expr}{kws:List Keyword}{te ta:TE}{t tk:TA}{nm:Option Str}
structure KBinds(K:zzA)(fd:FuncData)(ps ks:List Str)(g:List Value->List Value->List Value)(gV:List V->List V->List V):Prop where
 to:∀(s:Shared) (us ws:List Value),K.In s.heap->(g us ws).length=ps.length->BindsTo s fd ⟨us,ks.zip ws⟩ (ps.zip<|g us ws)
 rel:∀{vs:List V}{us:List Value}{zs:List V}{ws:List Value},zS vs us->zS zs ws->zS (gV vs zs) (g us ws)
variable{g:List Value->List Value->List Value}{gV:List V->List V->List V}
end
structure FnScope(N P:List Str)(sc:Scope):Prop where
 kind:sc.kind = .function
 co:sc.isCoroutine=false
 gen:sc.isGenerator=false
 nd:N.Nodup
 pre:N.take P.length=P
 par:∀x ∈ P,sc.names.lookup x=some .local\/sc.names.lookup x=some .cell
 nofree:∀y ∈ sc.names,y.2 ≠ .free
theorem EY{kindOf x}:∀{binds:List (Str×Value)}{m:Str->Option Value},(∀v,(x,v) ∉ binds)->bindL kindOf binds m x=m x
 | [],_,_=>rfl
 |(n,v)::r,m,h=>by
  unfold bindL;rw[EY λw hw=>h w<|zzD _ hw]
  split
  . have:x≠n:=by rintro rfl;exact h v zzF
    simp[this]
  . rfl
theorem E4{kindOf x}:∀{binds:List (Str×Value)}{m:Str->Option Value},(∀v,(x,v) ∉ binds)->bindC kindOf binds m x=m x
 | [],_,_=>rfl
 |(n,v)::r,m,h=>by
  unfold bindC;rw[E4 λw hw=>h w<|zzD _ hw]
  split
  . rfl
  . have:x≠n:=by rintro rfl;exact h v zzF
    simp[this]
theorem EC{kindOf x v}:∀{P:List Str}{vs:List Value}{i:Nat}{m:Str->Option Value},P.Nodup->P[i]? = some x->vs[i]? = some v->kindOf x=some .local->
 bindL kindOf (P.zip vs) m x=some v
 | [],_,_,_,_,h,_,_=>by simp at h
 |_::_,[],_,_,_,_,h,_=>by simp at h
 |p::P,w::vs,0,m,nd,h1,h2,hk=>by
  simp at h1 h2;subst h1;subst h2;show bindL kindOf (_::P.zip vs) m p=_;unfold bindL;rw[EY λv hv=>(zzW.mp nd).1 (List.of_mem_zip hv).1,if_pos hk];simp
 |p::P,w::vs,i+1,m,nd,h1,h2,hk=>by
  unfold bindL;exact EC (zzW.mp nd).2 (by simpa using h1) (by simpa using h2) hk
theorem Fg{kindOf x v}:∀{P:List Str}{vs:List Value}{i:Nat}{m:Str->Option Value},P.Nodup->P[i]? = some x->vs[i]? = some v->kindOf x≠some .local->
 bindC kindOf (P.zip vs) m x=some v
 | [],_,_,_,_,h,_,_=>by simp at h
 |_::_,[],_,_,_,_,h,_=>by simp at h
 |p::P,w::vs,0,m,nd,h1,h2,hk=>by
  simp at h1 h2;subst h1;subst h2;show bindC kindOf (_::P.zip vs) m p=_;unfold bindC;rw[E4 λv hv=>(zzW.mp nd).1 (List.of_mem_zip hv).1,if_neg hk];simp
 |p::P,w::vs,i+1,m,nd,h1,h2,hk=>by
  unfold bindC;exact Fg (zzW.mp nd).2 (by simpa using h1) (by simpa using h2) hk
def start(N:List Str)(vs:List V):St:=vs.map some++List.replicate (N.length-vs.length) none
noncomputable def L5(CX:pE)(P:Program)(w:World)(K:zzA)(mg:Str->Option Value)(base:Heap)(N:List Str)(qual:Str)(scope:Scope)(f:Addr)(cd:Value)(A:Around)(outer:List Env)(s:Shared)(H:Hp)(E:XK):Cx where
 prog:=P
 w:=w
 K:=K
 mg:=mg
 base:=base
 A:=A.deeper (envOfC qual scope s.heap.objs.size f cd)
 N:=N
 s₀:=s
 H₀:=H
 env:=envOfC qual scope s.heap.objs.size f cd
 outer:=outer
 stack:=envOfC qual scope s.heap.objs.size f cd::outer
 ex:=[]
 calm:=true
 fn:=λ_=>true
 pn:=[]
 xe:=λe s'=>wpAny (model P w) (A.deeper<|envOfC qual scope s.heap.objs.size f cd) (leaving (envOfC qual scope s.heap.objs.size f cd) e) (λ_ s''=>CX outer H s E e s'') (λe' s''=>CX outer H s E e' s'') s'
def SR{sc:Scope}{n:Nat}{x}(h:sc.names.lookup x=some .cell):∃c,(cellsFrom n sc.names []).lookup x=some c:=by
 have q:=W.cellsFrom_some sc.names n []<|.inl h;exact Option.isSome_iff_exists.mp q
def JM{CX P w K mg base N ps qual scope f cd A outer s s1 H E us vs}
 (S:FnScope N ps scope) (hd:A.handled=none) (e0:Env0 P w K mg base A outer s H) (hl:vs.length=ps.length) (r:zS vs us)
 (x:InCallC s s.heap.objs.size (bindL (envOfC qual scope s.heap.objs.size f cd).kindOf (ps.zip us) λ_=>none) (cellsFrom (s.heap.objs.size+1) scope.names []) (bindC (envOfC qual scope s.heap.objs.size f cd).kindOf (ps.zip us) λ_=>none) s1):
 Inv (L5 CX P w K mg base N qual scope f cd A outer s H E) [] (start N vs) H s1:=by
 have hpl:ps.length<=N.length:=by have:=congrArg List.length S.pre;rw[zzS]at this;omega
 obtain⟨h1,tk,rfl,hk⟩:=x.done;have noA:∀b:Addr,b ∉ (L5 CX P w K mg base N qual scope f cd A outer s H E).ex:=λb z=>absurd (show b ∈ ([]:List Addr)from z) (by simp);refine⟨⟨e0.mod,S.kind,rfl,rfl,zzN _,λy z c h1 h2=>?_,λy hy=>?_,λy c _ h=>?_,λ_=>hd,Around.frames_deeper e0.frames,.inr ⟨rfl,rfl⟩,λb z=>absurd z<|noA b,e0.bs,e0.bsz,λb _ _=>noA b,λb z=>absurd z<|noA b,e0.funs,e0.frf⟩,
  rfl,e0.bare,Un.kept hk,⟨_,x.toInCall.ns,λi y v h1 h2 h3=>?_⟩,λy c h=>⟨_,x.cell y c h⟩,e0.hok.fresh<|zzN _,λy c h=>?_,λp hp=>absurd (show p ∈ ([]:List _)from hp) (by simp),e0.hok.kept hk, ?_⟩
 . exact name_of_addr x.apart (PySem.mem_of_lookup h1)<|PySem.mem_of_lookup h2
 . have hy:=hy
   rcases hy with hy|hy
   . exact SR hy
   . exact absurd rfl<|S.nofree _<|PySem.mem_of_lookup hy
 . exact Nat.le_of_lt<|x.above y c<|PySem.mem_of_lookup h
 . have hi:i<vs.length:=by
    unfold start at h2
    by_cases hi:i<vs.length
    . exact hi
    . rw[zyR<|by simpa using hi]at h2;rw[List.getElem?_replicate]at h2
      split at h2<;>cases h2
   have ha:vs[i]? = some v:=by
    unfold start at h2;rw[zyP (by simpa using hi),zzI]at h2;cases e:vs[i]? with
    |none=>rw[e]at h2;cases h2
    |some a=>rw[e]at h2;cases h2;rfl
   obtain⟨u,hu,rv⟩:=r.get ha;have hp:ps[i]? = some y:=by
    rw[<-S.pre,List.getElem?_take_of_lt<|by omega];exact h1
   have ndP:ps.Nodup:=by rw[<-S.pre];exact S.nd.sublist<|List.take_sublist _ _
   refine⟨u,rv, ?_⟩
   rcases S.par y (zyA hp)with k|k
   . exact .inl ⟨k,EC ndP hp hu k⟩
   . obtain⟨c,e⟩:=SR k;refine .inr ⟨.inl k,c,e, ?_⟩;have q:=x.cell y c e;rw[Fg ndP hp hu (by show scope.names.lookup y≠_;rw[k];decide)]at q;exact q
 . exact e0.hok.fresh<|Nat.le_of_lt<|x.above y c<|PySem.mem_of_lookup h
 . unfold start;show _=N.length;rw[zzJ,zzB,List.length_replicate];omega
def jv{CX P w K mg base}{k:Nat}{f name qual params body scope dV kV doc pm cdv ct oc an od}
 {osl N ps sp}(lk:K.lookup f=some ⟨oc,od,.func<|W.fnOf name qual params body scope dV kV doc pm an cdv ct,osl⟩) (hcd:W.codeIn K cdv qual=true) (S:FnScope N ps scope)
 (len:∀vs H Q E,sp vs H Q E->vs.length=ps.length)
 (hbody:∀(A:Around) (outer:List Env) (s:Shared) (H:Hp) (vs:List V) (Q:VK) (E:XK),Room k (A.deeper<|envOfC qual scope s.heap.objs.size f cdv)->sp vs H Q E->
  ∃t,FI (L5 CX P w K mg base N qual scope f cdv A outer s H E) body t/\t {nx:=λ_ H'=>Q .non H',rt:=Q} (start N vs) H):
 FnOk P w K mg base CX (k+1) f (W.fnOf name qual params body scope dV kV doc pm an cdv ct) ps sp:=by
 refine⟨len,λA outer s H args us vs Q E hr e0 hb r hsp=>?_⟩;have hl:=len _ _ _ _ hsp;have KX:=e0.mod.kin.keeps λb o e=>(e0.bs b o e).1;have lim:=e0.mod.nolimit.keeps λb o e=>(e0.bs b o e).1;have hkind:∀y ∈ ps.zip us,scope.names.lookup y.1=some .local\/(scope.names.lookup y.1=some .cell/\((cellsFrom (s.heap.objs.size+1) scope.names []).lookup y.1).isSome=true):=λ⟨n,v⟩ hy=>by
  rcases S.par n (List.of_mem_zip hy).1 with q|q
  . exact .inl q
  . exact .inr ⟨q,W.cellsFrom_some _ _ _<|.inl q⟩
 refine codeAny_call_function hr.depth (KX _ _ lk) rfl S.co S.gen rfl (W.codeRec_of KX hcd)<|hb _ _ _ _ ?_;refine wpAny_newFunctionEnv_cells S.kind hkind λenv he s1 x=>?_;subst he;refine⟨lim.keeps x.toInCall.keep,codeAny_func ?_⟩;obtain⟨t,ht,hq⟩:=hbody A outer s H vs Q E (hr.deeper _) hsp;have I:Inv (L5 CX P w K mg base N qual scope f cdv A outer s H E) [] _ H s1:=JM S hr.hd e0 hl r x;refine zxM (ht [] s1 _ H _ I hq) (λfl s' hs=>?_) λe s' hs=>hs;have fin:∀{σ':St}{H':Hp}{v:V}{u:Value},Inv (L5 CX P w K mg base N qual scope f cdv A outer s H E) [] σ' H' s'->RelV v u->Q v H'->CE outer P w H s Q u s':=
  λ{σ' H' v u} J rv q=>⟨v,H',J.os,J.bare,J.base,J.hok,rv,q⟩
 cases fl with
 |ret u=>
  obtain⟨v,σ',H',J,rv,q⟩:=hs;exact fin J rv q
 |next=>
  obtain⟨σ',H',J,q⟩:=hs;exact fin (v:=V.non) J rfl q
 |brk=>
  obtain⟨_,_,_,q⟩:=hs;exact False.elim q
 |cont=>
  obtain⟨_,_,_,q⟩:=hs;exact False.elim q
end L2
namespace L2
open PySem PySem.Spec PyProof.Rows
section
variable{X:Cx}{x:Str}{p pos:Pos}{e:Expr}{es:List Expr}{t:TA}{id T:String}{r:List V->Hp->VK->Prop}
def cR(r:List V->Hp->VK->Prop)(t:TA):TE:=λσ H Q=>t σ H λvs H1=>r vs H1 Q
def Nh(hc:Wh X (.builtin id) r)(hg:Gl X x)(hm:X.mg x=none)(hv:bootBuiltins x=some (.builtin id))(ha:PA X (e::es) t)(hn:x≠"__name__":=by decide)(hdb:(x==("__debug__":Str))=false:=by decide)
 (he:starEach (e::es) X.env=(false,eval e X.env)::starEach es X.env:=by rfl) (hpl:(backTo pos<|starEach es X.env).any (·.1)=false:=by rfl):PE X (.Call (.Name x p) (e::es) [] pos) (cR r t):=by
 intro pins s σ H Q I h;refine wpAny_Call_Name_kw<|Va I hg hm hv ?_ hn hdb;exact PyProof.Rows.callWith_builtin1 (wo (ha pos pins s σ H _ I h) λus s1 ⟨vs,H1,I1,r1,q1⟩=>hc pins s1 σ H1 vs us Q I1 r1 q1) he hpl
def Jm(hc:Wh X (.type T) r)(hg:Gl X x)(hm:X.mg x=none)(hv:bootBuiltins x=some (.type T))(ha:PA X (e::es) t)(hn:x≠"__name__":=by decide)(hdb:(x==("__debug__":Str))=false:=by decide)
 (he:starEach (e::es) X.env=(false,eval e X.env)::starEach es X.env:=by rfl) (hpl:(backTo pos<|starEach es X.env).any (·.1)=false:=by rfl):PE X (.Call (.Name x p) (e::es) [] pos) (cR r t):=by
 intro pins s σ H Q I h;refine wpAny_Call_Name_kw<|Va I hg hm hv ?_ hn hdb;exact PyProof.Rows.callWith_type1 (wo (ha pos pins s σ H _ I h) λus s1 ⟨vs,H1,I1,r1,q1⟩=>hc pins s1 σ H1 vs us Q I1 r1 q1) he hpl
end
end L2
namespace L2
open PySem PySem.Spec PyProof.Rows
section
variable{κ:Type}[DecidableEq κ]
noncomputable def T6(kvs:List (κ×V))(k:κ):Option V:=(kvs.find? λkv=>decide (kv.1=k)).map (·.2)
def A6{p r}{k:κ}(e:p.1=k):T6 (p::r) k=some p.2:=by simp[T6,List.find?_cons,e]
def Av{p r}{k:κ}(e:¬p.1=k):T6 (p::r) k=T6 r k:=by simp[T6,List.find?_cons,e]
def RY.isSome_eq(r:RY o u):o.isSome=u.isSome:=by
 cases o with
 |none=>cases u with
  |none=>rfl
  |some _=>exact(r).elim
 |some _=>cases u with
  |none=>exact(r).elim
  |some _=>rfl
def KV.val{kvs vs}(r:KV kvs vs)(k:κ):RY (T6 kvs k) (valueAt vs k):=by
 unfold KV at r
 induction r with
 |nil=>exact True.intro
 | @cons p q ps qs h t ih=>
  obtain⟨h1,h2⟩:=h
  by_cases e:p.1=k
  . have e':q.1=k:=h1.symm.trans e;have b:valueAt (q::qs) k=some q.2:=by simp[valueAt,List.find?_cons,e']
    rw[A6 e,b];exact h2
  . have e':¬q.1=k:=λz=>e<|h1.trans z;have b:valueAt (q::qs) k=valueAt qs k:=by simp[valueAt,List.find?_cons,e']
    rw[Av e,b];exact ih
theorem KV.length(r:KV kvs vs):kvs.length=vs.length:=Paired.length r
end
def C5(r:RelV (kV k) u):(wu P w).is k u=true:=by
 cases k with
 |inl i=>obtain⟨t,e⟩:=(r);subst e;exact Sf P w i t
 |inr x=>obtain⟨t,e⟩:=(r);subst e;exact QH P w x t
section
variable{P:Program}{w:World}{H:Hp}{h:Heap}{a:Addr}
def jO(ok:GB P w H h)(e:Rd H a u):vH P w H h a u:=e.ok ok
def gz(ok:GB P w H h)(e:Rd H a (.dK kvs)):kvs.length<=sizeLine/\(a==sysModules)=false/\∃vs,KV kvs vs/\h.DictOf (wu P w) a vs:=
 show vH P w H h a _ from jO ok e
end
section
variable{X:Cx}{pins:List (Addr×Obj)}{σ:St}{H:Hp}{s:Shared}{a:Addr}{y v:V}{u r:Value}{o:Option V}{A:Around}{E:Value->Shared->Prop}
def Inv.big(I:Inv X pins σ H s):sysModules<s.heap.objs.size:=by
 have h:=(I.mod.glob.keeps I.bk).lt;exact Nat.lt_trans (by decide) h
def Dx(z:kvs.length<=sizeLine)(hd:(a==sysModules)=false)(rel:KV kvs vs)(dd:h'.DictOf (wu P w) a vs):
 vH P w H' h' a (.dK kvs):=⟨z,hd,vs,rel,dd⟩
end
structure M1(X:Cx)(o:Expr)(m:Str)(apos:Pos)(e:Expr)(cpos:Pos):Prop where
 base:attributeBase o m X.env (eval o X.env)=eval o X.env
 few:((backTo cpos<|starEach [e] X.env).all (λx=>!x.1)&&(backToKw cpos<|keywordEach [] X.env).all (λx=>x.1.isSome)
  && decide (([e]:List Expr).length+([]:List Keyword).length+(if([]:List Keyword).isEmpty then 0 else 1)<30))=true
 line:(apos.endLine==cpos.line)=true
 trees:backTo cpos (starEach [e] X.env)=[(false,eval e X.env)]
structure M2(X:Cx)(o:Expr)(m:Str)(apos:Pos)(e f:Expr)(cpos:Pos):Prop where
 base:attributeBase o m X.env (eval o X.env)=eval o X.env
 few:((backTo cpos<|starEach [e,f] X.env).all (λx=>!x.1)&&(backToKw cpos<|keywordEach [] X.env).all (λx=>x.1.isSome)
  && decide (([e,f]:List Expr).length+([]:List Keyword).length+(if([]:List Keyword).isEmpty then 0 else 1)<30))=true
 line:(apos.endLine==cpos.line)=true
 trees:backTo cpos (starEach [e,f] X.env)=[(false,eval e X.env),(false,eval f X.env)]
end L2
namespace HT
open PySem PyProof.Rows
section
variable{prog:Program}{w:World}{A:Around}{E:Value->Shared->Prop}{s:Shared}
def sh(ht:IsTup s.heap t vs.toArray)(hb:IsTup s.heap b ws.toArray)(hv:vs≠[])
 (h1:ws=[]->Q (.ref t) s) (h2:ws≠[]->Q (.ref s.heap.objs.size) {s with heap:=s.heap.push {cls:=.type "tuple",data:=.seq (vs++ws).toArray}})
 (hsz:vs.length+ws.length<=sizeLine):wpAny (model prog w) A (binaryOp .Add (.ref t)<|.ref b) Q E s:=by
 obtain⟨⟨cls,dd,data,sl⟩,ho,hc,n,hd⟩:=id ht;obtain⟨⟨cls2,dd2,data2,sl2⟩,ho2,hc2,n2,hd2⟩:=id hb;simp only at hc hd hc2 hd2;subst hc hd hc2 hd2;have e:vs.toArray++ws.toArray=(vs++ws).toArray:=by simp
 by_cases hw:ws=[]
 . exact concat_meets ⟨_,ho,rfl⟩ ⟨_,ho2,rfl⟩ noFill_tuple_add seq_tuple_add PySem.F.slot_tuple_add PySem.F.entry_tuple_add (PySem.F.args_tuple_add_2 _ _)
    (tuple_addW1 t b vs.toArray ws.toArray n n2 dd dd2 sl sl2 (by simpa using hv)<|by simp[hw]) ⟨ho,ho2,h1 hw⟩
 . refine concat_meets ⟨_,ho,rfl⟩ ⟨_,ho2,rfl⟩ noFill_tuple_add seq_tuple_add PySem.F.slot_tuple_add PySem.F.entry_tuple_add (PySem.F.args_tuple_add_2 _ _)
    (tuple_addW2 t b vs.toArray ws.toArray n n2 dd dd2 sl sl2 (by simpa using hv) (by simpa using hw)<|by rw[zzH,zzH];exact hsz) ⟨ho,ho2, ?_⟩
   rw[e];exact h2 hw
noncomputable def sIx(n d:Nat):Option Int->Nat
 |none=>d
 |some v=>if v<0 then(v+(n:Int)).toNat else min v.toNat n
def NH(n d:Nat):sIx n d none=d:=rfl
def Wz(n d k:Nat):sIx n d (some (k:Int))=min k n:=by
 show(if(k:Int)<0 then((k:Int)+(n:Int)).toNat else min (k:Int).toNat n)=_;rw[if_neg (by omega),zyI]
def mT(n d:Nat)(hd:d<=n)(o):sIx n d o<=n:=by
 cases o with
 |none=>exact hd
 |some v=>
  show(if v<0 then(v+_).toNat else min v.toNat n)<=n
  by_cases hv:v<0
  . rw[if_pos hv];omega
  . rw[if_neg hv];exact Nat.min_le_right _ _
def Iw(v)(n d:Nat):(if v<0 then max (v+(n:Int)) 0 else min v (n:Int))=((sIx n d (some v):Nat):Int):=by
 show _=(((if v<0 then(v+_).toNat else min v.toNat n):Nat):Int)
 by_cases hv:v<0
 . simp only[if_pos hv];omega
 . simp only[if_neg hv];omega
def O8(lo hi)(n:Nat):Builtin.Slice.sliceAdjust lo hi 1 (n:Int)=(((sIx n 0 lo:Nat):Int),((sIx n n hi:Nat):Int)):=by
 have h1:¬((1:Int)<0):=by omega
 unfold Builtin.Slice.sliceAdjust;simp only[h1,if_false];refine Prod.ext ?_ ?_
 . cases lo with
   |none=>rfl
   |some v=>exact Iw v n 0
 . cases hi with
   |none=>rfl
   |some v=>exact Iw v n n
def O0(i j:Nat):Builtin.Slice.slicePlaces (i:Int) (j:Int) 1=j-i:=by
 unfold Builtin.Slice.slicePlaces;have h1:(1:Int) > 0:=by omega
 simp only[h1,if_true,Int.ediv_one]
 split<;>omega
def N1(p:IsPart v o)(h:Q o s):wpAny (model prog w) A (Builtin.Slice.slicePartIndex v) Q E s:=by
 cases p with
 |none=>exact slicePart_none h
 |int i t=>exact slicePart_int h
def Gh{sl vl vu lo hi}{n:Nat}{Q}(hs:s.heap.IsSliceOf sl vl vu .none)(pl:IsPart vl lo)(pu:IsPart vu hi)
 (h:Q (((sIx n 0 lo:Nat):Int),1,sIx n n hi-sIx n 0 lo) s):wpAny (model prog w) A (Builtin.Slice.sliceApplied (.ref sl)<|pure (n:Int)) Q E s:=by
 obtain⟨os,hos,hcs,hds⟩:=id hs;unfold Builtin.Slice.sliceApplied Builtin.Slice.sliceFields;refine zxF<|zxF<|wpAny_field hos hds rfl<|zxF<|wpAny_field hos hds rfl<|zxF<|wpAny_field hos hds rfl<|zxG ?_;refine zxF<|slicePart_none ?_;rw[if_neg<|by decide];refine zxF<|N1 pl<|zxF<|N1 pu<|zxF<|zxG ?_;show wpAny _ _ (match Builtin.Slice.sliceAdjust lo hi 1 _ with|(lo,hi)=>pure (lo,_,Builtin.Slice.slicePlaces lo hi 1)) _ _ s;rw[O8 lo hi n];show wpAny _ _ (pure _) _ _ s;rw[O0];exact zxG h
def uw(xs:Array Value)(i k:Nat):((List.range k).filterMap λ(m:Nat)=>xs[((i:Int)+(m:Int)*1).toNat]?).toArray=((xs.toList.drop i).take k).toArray:=by
 have e:(λ(m:Nat)=>xs[((i:Int)+(m:Int)*1).toNat]?)=λm=>xs[i+m]? := by
  funext m;have:(i+(m:Int)*1).toNat=i+m:=by omega
  rw[this]
 rw[e];have:=pick_run xs i k;rw[List.filterMap_map]at this;have e2:((λx=>xs[x]?)∘λx=>i+x)=λm=>xs[i+m]? := rfl;rw[e2]at this;rw[this]
def PU{t sl items vl vu lo hi Q}(ht:IsTup s.heap t items)(hs:s.heap.IsSliceOf sl vl vu .none)(pl:IsPart vl lo)(pu:IsPart vu hi)
 (hw:¬(sIx items.size 0 lo=0/\sIx items.size items.size hi=items.size))
 (h:Q (.ref s.heap.objs.size) {s with heap:=s.heap.push {cls:=.type "tuple",data:=.seq ((items.toList.drop<|sIx items.size 0 lo).take<|sIx items.size items.size hi-sIx items.size 0 lo).toArray}})
 (hsz:items.size<=sizeLine):wpAny (model prog w) A (getItem (.ref t)<|.ref sl) Q E s:=by
 have htake:sizeOk (.seq ((items.toList.drop<|sIx items.size 0 lo).take<|sIx items.size items.size hi-sIx items.size 0 lo).toArray):=by
  show((items.toList.drop _).take _).toArray.size<=sizeLine;rw[zzH,zzS,List.length_drop,zyT];omega
 have hj:sIx items.size items.size hi<=items.size:=mT _ _ (zzN _) hi;obtain⟨os,hos,hcs,hds⟩:=id hs;have hTs:s.TypeIs (.ref sl) "slice":=⟨os,hos,hcs⟩;unfold getItem
 try with_reducible refine zxK ?_
 first|refine zxF (zxG ?_)|skip
 refine zxF<|wpAny_sequenceKey ht.typeIs (by decide) ?_;refine zxF<|wpAny_callSpecial?_slot ht.typeIs PyProof.Rows.slot_tuple_getitem
  (zxN PyProof.Rows.slot_tuple_getitem ht.typeIs entry_tuple_getitem ?_<|args_tuple_getitem _ _)
 show wpAny _ _ (Builtin.Tuple.tupleItemsOf (.ref t) >>= _) _ _ s;refine zxF<|tupleItemsOf_ ht ?_;refine zxF<|wpAny_typeOf hTs ?_;rw[if_pos<|by decide];refine zxF<|Gh hs pl pu ?_;have hno:¬((((sIx items.size 0 lo:Nat):Int)==0&&(1:Int)==1&&(sIx items.size items.size hi-sIx items.size 0 lo)==items.size)=true):=by
  intro q;rw[zyC,zyC]at q;have q1:=eq_of_beq q.1.1;have q2:=eq_of_beq q.2;exact hw ⟨by omega,by omega⟩
 show wpAny _ _ (if _=true then _ else _) _ _ s;rw[if_neg hno,uw]
 first
  |exact zxF (wpAny_newObj_type (zxG ⟨_,rfl,zxG h⟩) htake)
  |exact zxF _
  |exact zxF _
  |exact zxF _
end
end HT
namespace L2
open PySem PySem.Spec PyProof.Rows
abbrev TO:=St->Hp->(Option Int->Hp->Prop)->Prop
def PO(X:Cx)(e:Option Expr)(t:TO):Prop:=
 ∀(pins:List (Addr×Obj)) (s:Shared) (σ:St) (H:Hp) (Q:Option Int->Hp->Prop),Inv X pins σ H s->t σ H Q->
  wpAny (model X.prog X.w) X.A (evalPart e X.env) (λu s'=>∃o H',Inv X pins σ H' s'/\IsPart u o/\Q o H') X.xe s
def CB:TO:=λ_ H Q=>Q none H
def ie(t:TE):TO:=λσ H Q=>t σ H λx H1=>∃i,x = .int i/\Q (some i) H1
def intsAre_of:∀{us:List Value},zS (ns.map V.int) us->IntsAre us ns:=by
 induction ns with
 |nil=>intro us r;rw[List.map_nil]at r;cases r;exact .nil
 |cons n ns ih=>
  intro us r;rw[zyS]at r;cases r with
  |cons r1 r2=>
   obtain⟨t,e⟩:=r1;subst e;exact .cons n t<|ih r2
section
variable{X:Cx}{e:Expr}{te:TE}{lo hi:Option Expr}{tl th:TO}{pos p2:Pos}
def rC:PO X none CB:=by
 intro pins s σ H Q I h;rw[evalPart_none];exact zxG ⟨none,H,I,.none,h⟩
def sy(h:PE X e te):PO X (some e) (ie te):=by
 intro pins s σ H Q I hw;rw[evalPart_some];refine wo (h pins s σ H _ I hw) λu s1 ⟨x,H1,I1,r1,q1⟩=>?_;obtain⟨i,rfl,q⟩:=q1;obtain⟨t,rfl⟩:=r1;exact⟨some i,H1,I1,.int i t,q⟩
def fM(X:Cx)(r:V->Option Int->Option Int->Hp->VK->Prop):Prop:=
 ∀(pins:List (Addr×Obj)) (s:Shared) (σ:St) (H:Hp) (x:V) (v vl vu:Value) (lo hi:Option Int) (sl:Addr) (Q:VK),Inv X pins σ H s->RelV x v->s.heap.IsSliceOf sl vl vu .none->IsPart vl lo->IsPart vu hi->r x lo hi H Q->
  ∃T id,typeLookup (.type T) "__getitem__"=pure (some<|.builtin id)/\s.TypeIs v T/\wpAny (model X.prog X.w) X.A (getItem v<|.ref sl) (EP X pins σ Q) X.xe s
def cP(r:V->Option Int->Option Int->Hp->VK->Prop)(te:TE)(tl th:TO):TE:=λσ H Q=>te σ H λx H1=>tl σ H1 λl H2=>th σ H2 λu H3=>r x l u H3 Q
def ux(hr:fM X r)(he:PE X e te)(hl:PO X lo tl)(hu:PO X hi th):PE X (.Subscript e (.Slice lo hi none p2) pos) (cP r te tl th):=by
 intro pins s σ H Q I h;refine Subscript_<|wo (he pins s σ H _ I h) λv s1 ⟨x,H1,I1,r1,q1⟩=>?_;refine wpAny_Slice<|wo (hl pins s1 σ H1 _ I1 q1) λvl s2 ⟨l,H2,I2,pl,q2⟩=>wo (hu pins s2 σ H2 _ I2 q2) λvu s3 ⟨u,H3,I3,pu,q3⟩=>?_;rw[evalPart_none];refine zxG ?_;have I4:Inv X pins σ H3 {s3 with heap:=s3.heap.push {cls:=.type "slice",data:=.fields #[vl,vu,.none]}}:=I3.kept (t':=s3.toks) λb ob q=>zxH _ q;obtain⟨T,id,hT,ht,hg⟩:=hr pins {s3 with heap:=s3.heap.push {cls:=.type "slice",data:=.fields #[vl,vu,.none]}} σ H3 x v vl vu l u s3.heap.objs.size Q I4 r1 (Heap.IsSliceOf.new ..) pl pu q3;exact tail_any ht hT hg (by with_unfolding_all rfl)
def Jy(xs:List V)(lo hi:Option Int):List V:=(xs.drop<|HT.sIx xs.length 0 lo).take<|HT.sIx xs.length xs.length hi-HT.sIx xs.length 0 lo
def Gq(xs)(lo hi):(Jy xs lo hi).length<=xs.length:=by
 unfold Jy;rw[zzS,List.length_drop];omega
def ei(K:zzA):V->Option Int->Option Int->Hp->VK->Prop:=λx lo hi H Q=>∃a xs,x = .ref a/\RF K H a xs/\
 ¬(HT.sIx xs.length 0 lo=0/\HT.sIx xs.length xs.length hi=xs.length)/\∀p,H p=none->Q (.ref p) (upd H p<|.tup<|Jy xs lo hi)
def oQ:fM X (ei X.K):=by
 intro pins s σ H x v vl vu lo hi sl Q I rx hs pl pu h;obtain⟨a,xs,rfl,hx,hw,q⟩:=h;cases rx;obtain⟨its,r,ht,hz⟩:=I.tuple hx;have hlen:its.toArray.size=xs.length:=by rw[zzH];exact r.length.symm
 refine⟨"tuple",_,PyProof.Rows.slot_tuple_getitem.lookup,ht.typeIs, ?_⟩;refine HT.PU ht hs pl pu (by rw[hlen];exact hw) ?_ (by rw[hlen];exact hz);rw[hlen];refine⟨.ref s.heap.objs.size,_,I.laid (t':=s.toks) (λb ob q=>zxH _ q) (zzN _) ?_,rfl,q _<|I.hok.fresh<|zzN _⟩;exact⟨zzO (Gq xs lo hi) hz,_,(r.drop _).take _,IsTup.new _ _⟩
def iH(K:zzA):R2:=λx y H Q=>∃a b xs ys,x = .ref a/\y = .ref b/\RF K H a xs/\RF K H b ys/\xs≠[]/\xs.length+ys.length<=sizeLine/\
 (ys=[]->Q (.ref a) H)/\(ys≠[]->∀p,H p=none->Q (.ref p) (upd H p<|.tup<|xs++ys))
def zS.nil_iff(r:zS xs us):us=[] ↔ xs=[]:=by
 cases r with
 |nil=>simp
 |cons _ _=>simp
def su:Gf X (binaryOp .Add) (iH X.K):=by
 intro pins s σ H x y v u Q I rx ry h;obtain⟨a,b,xs,ys,rfl,rfl,ha,hb,hx,hz,q1,q2⟩:=h;cases rx;cases ry;obtain⟨its,r1,p1,_⟩:=I.tuple ha;obtain⟨its2,r2,p2,_⟩:=I.tuple hb;refine HT.sh p1 p2 (λz=>hx<|r1.nil_iff.mp z) (λz=>⟨.ref a,H,I,rfl,q1<|r2.nil_iff.mp z⟩) (λz=>?_) (by rw[<-r1.length,<-r2.length];exact hz);refine⟨.ref s.heap.objs.size,_,I.laid (t':=s.toks) (λb ob q=>zxH _ q) (zzN _) ?_,rfl,q2 (λw=>z<|r2.nil_iff.mpr w) _<|I.hok.fresh<|zzN _⟩;exact⟨by rw[zzJ];exact hz,_,r1.append r2,IsTup.new _ _⟩
end
end L2
namespace L2
open PySem PySem.Spec PyProof.Rows
noncomputable def kq(n:Nat)(i:Int):Option Nat:=if 0<=i then(if i<n then some i.toNat else none)else if -(n:Int)<=i then some (i+n).toNat else none
def CW{α:Type}(xs:List α)(i:Int):Option α:=(kq xs.length i).bind λj=>xs[j]?
def rQ(h:kq n i=some j):seqIndex? i n=some j/\j<n /\ -(n:Int)<=i/\i<n:=by
 unfold kq at h
 by_cases h0:0<=i
 . rw[if_pos h0]at h
   by_cases h1:i<n
   . rw[if_pos h1]at h;have e:=zzZ h;exact⟨by rw[seqIndex_of h0 h1,e],by omega,by omega,h1⟩
   . rw[if_neg h1]at h;cases h
 . rw[if_neg h0]at h
   by_cases h1 : -n<=i
   . rw[if_pos h1]at h;have e:=zzZ h;exact⟨by rw[seqIndex_neg (q1g h0) h1,e],by omega,h1,by omega⟩
   . rw[if_neg h1]at h;cases h
def BK(h:CW xs i=some v):∃j,seqIndex? i xs.length=some j/\xs[j]? = some v/\j<xs.length /\ -(xs.length:Int)<=i/\i<xs.length:=by
 unfold CW at h;cases e:kq xs.length i with
 |none=>rw[e]at h;cases h
 |some j=>
  rw[e]at h;obtain⟨h1,h2,h3,h4⟩:=rQ e;exact⟨j,h1,h,h2,h3,h4⟩
def Pj{α:Type}{xs}{j:Nat}{v:α}(h:xs[j]? = some v):CW xs (j:Int)=some v:=by
 have hj:=(zzG.mp h).1;have e:kq xs.length (j:Int)=some j:=by
  unfold kq;rw[if_pos<|q0a,if_pos<|q0h hj];simp
 unfold CW;rw[e];exact h
def FY(b:Expr):Prop:=∀o i,subscripted b false o i=operate [o,i] (getItem o i)
def iM(X:Cx)(r:R2):Prop:=
 ∀(value slice:Expr) (pins:List (Addr×Obj)) (s:Shared) (σ:St) (H:Hp) (x y:V) (v u:Value) (Q:VK),Inv X pins σ H s->RelV x v->RelV y u->r x y H Q->
  subscripted slice false v u=operate [v,u] (getItem v u)->wpAny (model X.prog X.w) X.A (subscriptTail value slice v u) (EP X pins σ Q) X.xe s
def fX(X:Cx)(id:String)(r:V->List V->Hp->VK->Prop):Prop:=
 ∀(pins:List (Addr×Obj)) (s:Shared) (σ:St) (H:Hp) (x:V) (xs:List V) (v:Value) (us:List Value) (Q:VK),Inv X pins σ H s->RelV x v->zS xs us->r x xs H Q->
  wpAny (model X.prog X.w) X.A (call (.builtin id) (v::us)) (EP X pins σ Q) X.xe s
section
variable{X:Cx}{a b:Expr}{ta tb:TE}{pos:Pos}
def gS(hr:iM X r)(ha:PE X a ta)(hb:PE X b tb)(hs:FY b):PE X (.Subscript a b pos) (ic r ta tb):=by
 intro pins s σ H Q I h;exact Subscript_<|nC ha hb I h λv u s2 x y H2 I2 rx ry q=>hr a b pins s2 σ H2 x y v u Q I2 rx ry q<|hs _ _
def eB(K:zzA):R2:=λx y H Q=>∃p xs i v,x = .ref p/\y = .int i/\VX K H p xs/\CW xs i=some v/\Q v H
def fS(K:zzA):R2:=λx y H Q=>∃p xs i v,x = .ref p/\y = .int i/\RF K H p xs/\CW xs i=some v/\Q v H
def fZ:R2:=λx y H Q=>∃z i c,x = .str z/\y = .int i/\z.length<=sizeLine/\CW z.cps.toList i=some c/\Q (.str ⟨#[c]⟩) H
def tQ:iM X (eB X.K):=by
 intro value slice pins s σ H x y v u Q I rx ry h hs;obtain⟨p,xs,i,z,rfl,rfl,hq,he,q⟩:=h;cases rx;obtain⟨t,rfl⟩:=ry;obtain⟨its,r,pl,hz⟩:=I.list hq;obtain⟨j,h1,h2,h3,h4,h5⟩:=BK he;obtain⟨w,ew,rw'⟩:=r.get h2;have hl:=r.length;have hn:=Rq;have fin:EP X pins σ Q w s:=⟨z,H,I,rw',q⟩
 by_cases h0:0<=i
 . have hj:i.toNat=j:=by
    rw[seqIndex_of h0 h5]at h1;exact zzZ h1
   exact item_listR pl.isList h0 (by omega) (by rw[hj];simpa using ew) fin hs
 . have hj:(i+(its.toArray.size:Int)).toNat=j:=by
    rw[seqIndex_neg (q1g h0) h4]at h1;rw[zzH,<-hl];exact zzZ h1
   exact subscriptTail_builtinR pl.isList.typeIs slot_list_getitem.lookup
    (wpAny_getItem_list_neg pl.isList (q1g h0) (by rw[zzH]<;>omega) (by omega) (by rw[hj];simpa using ew) ⟨rfl,fin⟩) hs
def lS:iM X (fS X.K):=by
 intro value slice pins s σ H x y v u Q I rx ry h hs;obtain⟨p,xs,i,z,rfl,rfl,hq,he,q⟩:=h;cases rx;obtain⟨t,rfl⟩:=ry;obtain⟨its,r,pl,hz⟩:=I.tuple hq;obtain⟨j,h1,h2,h3,h4,h5⟩:=BK he;obtain⟨w,ew,rw'⟩:=r.get h2;have hl:=r.length;have hn:=Rq;have fin:EP X pins σ Q w s:=⟨z,H,I,rw',q⟩;exact subscriptTail_builtinR pl.typeIs slot_tuple_getitem.lookup
  (getItem_tuple pl (by omega) (by omega) (by rw[zzH,<-hl];exact h1) (by simpa using ew) ⟨rfl,fin⟩) hs
def mW:iM X fZ:=by
 intro value slice pins s σ H x y v u Q I rx ry h hs;obtain⟨z,i,c,rfl,rfl,hz,he,q⟩:=h;obtain⟨t,rfl⟩:=rx;obtain⟨t',rfl⟩:=ry;obtain⟨j,h1,h2,h3,h4,h5⟩:=BK he;have hl:z.cps.toList.length=z.length:=by simp[Str.length]
 rw[hl]at h1 h4 h5;have hn:=Rq;exact tail_any (typeIs_str s z t) slot_str_getitem.lookup (getItem_str (by
  have e1:decide (i < -(2 ^ 63:Int))=false:=zyG (by omega);have e2:decide (i ≥ 2 ^ 63)=false:=zyG (by omega);rw[e1,e2,Bool.or_false]) (by rw[h1];simpa using h2) ⟨.str ⟨#[c]⟩,H,I.tok _,⟨_,rfl⟩,q⟩) hs
def FW(lo hi)(n:Nat):(sliceBounds lo hi none n).1=((HT.sIx n 0 lo:Nat):Int)/\(sliceBounds lo hi none n).2.1=((HT.sIx n n hi:Nat):Int)/\(sliceBounds lo hi none n).2.2=1:=by
 refine⟨?_, ?_,rfl⟩
 . cases lo with
   |none=>simp[sliceBounds,HT.sIx]
   |some i=>
    simp only[sliceBounds,HT.sIx,Option.getD_none,show 1 > 0 by decide,if_true]
    by_cases h:i<0
    . simp only[h,if_true]<;>omega
    . simp only[h,if_false]<;>omega
 . cases hi with
   |none=>simp[sliceBounds,HT.sIx]
   |some i=>
    simp only[sliceBounds,HT.sIx,Option.getD_none,show 1 > 0 by decide,if_true]
    by_cases h:i<0
    . simp only[h,if_true]<;>omega
    . simp only[h,if_false]<;>omega
def Eb(its:List Value)(lo hi):slicePick its.toArray lo hi none=((its.drop<|HT.sIx its.length 0 lo).take<|HT.sIx its.length its.length hi-HT.sIx its.length 0 lo).toArray:=by
 obtain⟨h1,h2,h3⟩:=FW lo hi its.toArray.size;unfold slicePick;rw[h1,h2,h3];simp only[sliceRange_one,pick_run,zzH]<;>rfl
def dP(K:zzA):V->Option Int->Option Int->Hp->VK->Prop:=λx lo hi H Q=>∃a xs,x = .ref a/\VX K H a xs/\∀p,H p=none->Q (.ref p) (upd H p<|.lst<|Jy xs lo hi)
def tq:fM X (dP X.K):=by
 intro pins s σ H x v vl vu lo hi sl Q I rx hs pl pu h;obtain⟨a,xs,rfl,hx,q⟩:=h;cases rx;obtain⟨its,r,ht,hz⟩:=I.list hx;have hlen:=r.length;refine⟨"list",_,slot_list_getitem.lookup,ht.isList.typeIs, ?_⟩;refine wpAny_getItem_list_slice ht.isList hs pl pu .none (by simp) ?_ (by rw[zzH]<;>omega);rw[Eb,<-hlen];refine⟨.ref s.heap.objs.size,_,I.laid (t':=s.toks) (λb ob q=>zxH _ q) (zzN _) ?_,rfl,q _<|I.hok.fresh<|zzN _⟩;exact⟨zzO (Gq xs lo hi) hz,_,0,(r.drop _).take _,zxJ _ rfl⟩
def PH:Wh X (.builtin "len") (λxs H Q=>∃p ys,xs=[.ref p]/\(VX X.K H p ys\/RF X.K H p ys)/\Q (.int ys.length) H):=by
 intro pins s σ H xs us Q I r h;obtain⟨p,ys,rfl,hq,q⟩:=h;obtain⟨u,rfl,rx⟩:=vals1 r;cases rx;have hn:=Rq
 rcases hq with hq|hq
 . obtain⟨its,r',pl,hz⟩:=I.list hq;have hlen:=r'.length;exact Calls.call_len_list pl.isList (by simp only[zzH]<;>omega) ⟨.int ys.length,H,I.tok _,⟨s.toks+1,by rw[zzH,hlen]⟩,q⟩
 . obtain⟨its,r',pl,hz⟩:=I.tuple hq;have hlen:=r'.length;exact len_tuple pl (by simp only[zzH]<;>omega) ⟨.int ys.length,H,I.tok _,⟨s.toks+1,by rw[zzH,hlen]⟩,q⟩
def BC:Wh X (.builtin "len") (λxs H Q=>∃z,xs=[.str z]/\z.length<=sizeLine/\Q (.int z.length) H):=by
 intro pins s σ H xs us Q I r h;obtain⟨z,rfl,hz,q⟩:=h;obtain⟨u,rfl,t,rfl⟩:=vals1 r;have hn:=Rq;exact len_str (by omega) ⟨.int z.length,H,I.tok _,⟨_,rfl⟩,q⟩
def Pl:Wh X (.type "list") (λxs H Q=>∃p ys,xs=[.ref p]/\(VX X.K H p ys\/RF X.K H p ys)/\∀l,H l=none->Q (.ref l) (upd H l<|.lst ys)):=by
 intro pins s σ H xs us Q I r h;obtain⟨p,ys,rfl,hq,q⟩:=h;obtain⟨u,rfl,rx⟩:=vals1 r;cases rx;have fin:∀its,zS ys its->ys.length<=sizeLine->∀h' c',_->
  h'.get? s.heap.objs.size=some {cls:=.type "list",dict:=none,data:=.seq its.toArray c',slots:=#[]}->EP X pins σ Q _ {s with heap:=h'}:=λits r' hz h' c' kp e=>
  ⟨.ref s.heap.objs.size,_,I.laid (t':=s.toks) kp (zzN _) (show vH X.prog X.w _ h' _ (.lst ys)from⟨hz,its,c',r',e⟩),rfl,q _<|I.hok.fresh<|zzN _⟩
 rcases hq with hq|hq
 . obtain⟨its,r',pl,hz⟩:=I.list hq;have hlen:=r'.length;obtain⟨o,ho,hc,n,hd⟩:=pl.isList;exact call_list_seq p (.inl rfl) ho hc hd (λh' c' kp e=>fin its r' hz h' c' kp e) (by simp only[zzH]<;>omega)
 . obtain⟨its,r',pl,hz⟩:=I.tuple hq;have hlen:=r'.length;obtain⟨o,ho,hc,n,hd⟩:=pl;exact call_list_seq p (.inr rfl) ho hc hd (λh' c' kp e=>fin its r' hz h' c' kp e) (by simp only[zzH]<;>omega)
def UE:Wh X (.type "tuple") (λxs H Q=>∃p ys,xs=[.ref p]/\((VX X.K H p ys/\∀l,H l=none->Q (.ref l) (upd H l<|.tup ys))\/(RF X.K H p ys/\Q (.ref p) H))):=by
 intro pins s σ H xs us Q I r h;obtain⟨p,ys,rfl,h⟩:=h;obtain⟨u,rfl,rx⟩:=vals1 r;cases rx
 rcases h with⟨hq,q⟩|⟨hq,q⟩
 . obtain⟨its,r',pl,hz⟩:=I.list hq;have hlen:=r'.length;refine call_tuple_list pl.isList (λh' kp=>?_) (by simp only[zzH]<;>omega);have I1:=I.kept (t':=s.toks) kp;have I2:=
    I1.laid (t':=s.toks) (λb o e=>zxH _ e) (zzN _) (show vH X.prog X.w _ _ _ (.tup ys)from⟨hz,its,r',IsTup.new _ _⟩)
   exact⟨.ref h'.objs.size,_,I2,rfl,q _<|I1.hok.fresh<|zzN _⟩
 . obtain⟨its,r',pl,hz⟩:=I.tuple hq;exact call_tuple_same pl ⟨.ref p,H,I,rfl,q⟩
def cy(K:zzA)(T:String)(x:V)(H:Hp):Prop:=match x with
 | .str _=>T="str"
 | .int _=>T="int"
 | .ref p=>(T="list"/\∃xs,VX K H p xs)\/(T="tuple"/\∃o,K.lookup p=some o/\o.cls = .type "tuple"/\o.dict=none) \/
  (T="dict"/\((∃kvs,H p=some (.dK kvs))\/∃kvs,H p=some (.dT kvs)))\/(T="set"/\∃S n,H p=some (.set S n))
 |_=>False
def lP(I:Inv X pins σ H s)(r:RelV x v)(ty:cy X.K T x H):
 s.TypeIs v T/\∀a,v = .ref a->∃ob,s.heap.get? a=some ob/\ob.dict=none:=by
 cases x with
 |str z=>
  obtain⟨t,rfl⟩:=r;cases(ty);exact⟨typeIs_str s z t,λ_ e=>nomatch e⟩
 |int i=>
  obtain⟨t,rfl⟩:=r;cases(ty);exact⟨typeIs_int s i t,λ_ e=>nomatch e⟩
 |ref p=>
  cases r
  rcases ty with⟨rfl,xs,hq⟩|⟨rfl,o,hk,hc,hd⟩|⟨rfl,hk⟩|⟨rfl,S,n,hk⟩
  . obtain⟨its,_,pl,_⟩:=I.list hq;refine⟨pl.isList.typeIs,λa e=>?_⟩;cases e;obtain⟨o,n,e,c,hd,_⟩:=pl;exact⟨o,e,hd⟩
  . refine⟨⟨o,I.kIn p o hk,hc⟩,λa e=>?_⟩;cases e;exact⟨o,I.kIn _ o hk,hd⟩
  . have z:∃o,s.heap.get? p=some o/\o.ExactDict:=by
     rcases hk with⟨kvs,hk⟩|⟨kvs,hk⟩
     . obtain⟨_,_,_,_,o,_,_,e,ex,_⟩:=I.hok p _ hk;exact⟨o,e,ex⟩
     . obtain⟨_,_,_,_,o,_,_,e,ex,_⟩:=I.hok p _ hk;exact⟨o,e,ex⟩
    obtain⟨o,e,ex⟩:=z;refine⟨⟨o,e,ex.1⟩,λa e2=>?_⟩;cases e2;exact⟨o,e,ex.2.1⟩
  . obtain⟨o,_,_,_,e,ex,_⟩:=I.hok p _ hk;refine⟨⟨o,e,ex.1⟩,λa e2=>?_⟩;cases e2;exact⟨o,e,ex.2.1⟩
 |_=>exact False.elim ty
def cj(K:zzA)(T:String)(r:V->List V->Hp->VK->Prop)(to:TE)(t:TA):TE:=λσ H Q=>to σ H λx H1=>cy K T x H1/\t σ H1 λxs H2=>r x xs H2 Q
variable{o e:Expr}{es:List Expr}{to:TE}{t:TA}{name:Str}{apos cpos:Pos}{T id:String}{r:V->List V->Hp->VK->Prop}
def q_(pa:PlainAttrs T)(slot:Slot T name id)(hty:typeOf (.builtin id)=pure (.type "method_descriptor"))(hm:fX X id r)(ho:PE X o to)(ha:PA X (e::es) t)
 (hbase:attributeBase o name X.env (eval o X.env)=eval o X.env:=by rfl)
 (hfew:((backTo cpos<|starEach (e::es) X.env).all (λx=>!x.1)&&(backToKw cpos<|keywordEach [] X.env).all (λx=>x.1.isSome)
  && decide ((e::es).length+([]:List Keyword).length+(if([]:List Keyword).isEmpty then 0 else 1)<30))=true:=by rfl)
 (hline:(apos.endLine==cpos.line)=true:=by rfl) (hs:starEach (e::es) X.env=(false,eval e X.env)::starEach es X.env:=by rfl) (hplain:(backTo cpos<|starEach es X.env).any (·.1)=false:=by rfl):
 PE X (.Call (.Attribute o name apos) (e::es) [] cpos) (cj X.K T r to t):=by
 intro pins s σ H Q I h;refine wpAny_Call_method_late hbase hfew hline rfl<|wo (ho pins s σ H _ I h) λv s1 ⟨x,H1,I1,r1,ty,q1⟩=>?_;obtain⟨h1,h2⟩:=lP I1 r1 ty;refine⟨T,id,pa,slot,hty,h1,h2, ?_⟩;have hA:=ha cpos pins s1 σ H1 _ I1 q1;rw[hs]at hA ⊢;refine Calls.callWith_builtin (by show(false||(backTo cpos _).any (·.1))=false;rw[hplain]<;>rfl)<|Calls.evalArgs_plain ?_;exact wo hA λus s2 ⟨vs,H2,I2,r2,q2⟩=>hm pins s2 σ H2 x vs v us Q I2 r1 r2 q2
end
end L2
namespace L2
open PySem PySem.Spec PyProof.Rows
def ed(X:Cx)(id:String)(r:V->List V->Hp->VK->Prop):Prop:=
 ∀(pins:List (Addr×Obj)) (s:Shared) (σ:St) (H:Hp) (x:V) (xs:List V) (v:Value) (us:List Value) (Q:VK),Inv X pins σ H s->RelV x v->zS xs us->r x xs H Q->
  wpAny (model X.prog X.w) X.A (call (.builtin id) (v::us)) (EP X pins σ Q) X.xe s
def zS.one{x us}(h:zS [x] us):∃u,us=[u]/\RelV x u:=by cases h with|cons r t=>cases t;exact⟨_,rfl,r⟩
def zS.two{x y us}(h:zS [x,y] us):∃u v,us=[u,v]/\RelV x u/\RelV y v:=by cases h with|cons r t=>cases t with|cons q s=>cases s;exact⟨_,_,rfl,r,q⟩
theorem zS.reverse(h:zS xs us):zS xs.reverse us.reverse:=by
 induction h with
 |nil=>exact .nil
 |cons r t ih=>rw[List.reverse_cons,List.reverse_cons];exact zS.append ih<|.cons r .nil
theorem zS.rep(h:zS xs us):∀k:Nat,zS (List.replicate k xs).flatten (List.replicate k us).flatten
 |0=>.nil
 |k+1=>by
  rw[List.replicate_succ,List.replicate_succ,List.flatten_cons,List.flatten_cons];exact zS.append h<|zS.rep h k
theorem foldl_rep(its):∀(k:Nat) (acc:List Value),
 List.foldl (λx1 x2=>x1++x2) acc.toArray (List.replicate k its.toArray)=(acc++(List.replicate k its).flatten).toArray
 |0,acc=>by simp
 |k+1,acc=>by
  have e:acc.toArray++its.toArray=(acc++its).toArray:=by simp
  have e2:(acc++its)++(List.replicate k its).flatten=acc++(List.replicate (k+1) its).flatten:=by
   rw[List.replicate_succ,List.flatten_cons,zxC]
  rw[<-e2,<-foldl_rep its k _,<-e,List.replicate_succ,List.foldl_cons]
section
variable{X:Cx}{pins:List (Addr×Obj)}{σ:St}{H:Hp}{s:Shared}{l b:Addr}{xs ys zs:List V}
def Inv.lset{its its':List Value}{n:Nat}{f}{t':Nat}(I:Inv X pins σ H s)(hH:H l=some (.lst xs))
 (e:s.heap.get? l=some {cls:=.type "list",data:=.seq its.toArray n}) (hf:f its.toArray=its'.toArray) (hv:zS ys its') (hz:ys.length<=sizeLine):
 Inv X pins σ (upd H l<|.lst ys) {s with heap:=s.heap.update l<|Obj.mapSeq f,toks:=t'}:=by
 have q:=PySem.IsL.update e f;rw[hf]at q;refine I.write (by rw[hH];exact trivial) (.inl rfl) (λb' u hb hu=>(Heap.get?_update_other s.heap _<|Ne.symm hb).trans hu) ⟨_,q⟩ ?_;exact⟨hz,its',_,hv,q⟩
def Inv.lnew(I:Inv X pins σ H s)(hv:zS ys its)(hz:ys.length<=sizeLine):
 Inv X pins σ (upd H s.heap.objs.size<|.lst ys) {s with heap:=s.heap.push {cls:=.type "list",data:=.seq its.toArray},toks:=t'}:=
 I.laid (λ_ _ q=>zxH _ q) (zzN _) ⟨hz,its,0,hv,zxJ _ rfl⟩
theorem Inv.fresh(I:Inv X pins σ H s):H s.heap.objs.size=none:=I.hok.fresh<|zzN _
def Inv.lstM(I:Inv X pins σ H s)(hH:H l=some (.lst xs)):xs.length<=sizeLine/\∃(its:List Value) (n:Nat),zS xs its/\xs.length=its.length/\s.heap.get? l=some {cls:=.type "list",data:=.seq its.toArray n}:=by
 obtain⟨z,its,n,r,e⟩:=I.hok l _ hH;exact⟨z,its,n,r,r.length,e⟩
def uU(h:n<=sizeLine):Builtin.List.listTooLong n=false:=by
 unfold Builtin.List.listTooLong;exact zyG (by omega)
end
section
variable{X:Cx}
def CO:V->List V->Hp->VK->Prop:=λx vs H Q=>∃l xs y,x = .ref l/\vs=[y]/\H l=some (.lst xs)/\xs.length<sizeLine/\Q .non (upd H l<|.lst<|xs++[y])
def Tr:ed X "list.append" CO:=by
 intro pins s σ H x vs v us Q I rx rv h;obtain⟨l,xs,y,rfl,rfl,hH,hz,q⟩:=h;cases rx;obtain⟨u,rfl,ru⟩:=rv.one;obtain⟨z,its,n,r,hl,e⟩:=I.lstM hH;refine call_meets F.slot_list_append ⟨_,e,rfl⟩ F.entry_list_append (F.args_list_append_2 _ _) (PySem.list_append l its.toArray n u<|by rw[zzH];exact q0T hz hl) ⟨e, ?_⟩;refine⟨.non,_,I.lset (its':=its++[u]) hH e (by simp) (r.append<|.cons ru .nil) ?_,rfl,q⟩;rw[zzJ,List.length_singleton];omega
def len_rep(xs:List α)(k:Nat):(List.replicate k xs).flatten.length=k*xs.length:=by
 induction k with
 |zero=>simp
 |succ k ih=>rw[List.replicate_succ,List.flatten_cons,zzJ,ih,Nat.succ_mul,Nat.add_comm]
end
end L2
namespace Att
open PySem PySem.W PySem.Calls PyProof.Rows
def Kv:∀(ns:List Int) (vs:List Value),WellAll P h vs (ns.map WData.int)->IntsAre vs ns:=by
 intro ns
 induction ns with
 |nil=>
  intro vs w;rw[List.map_nil]at w;cases w;exact .nil
 |cons n ns ih=>
  intro vs w;rw[zyS]at w;cases w with
  |cons a b=>
   cases a;exact .cons _ _<|ih _ b
def IT{l:OpenLaw}{n:Nat}(hn:l.most=some n){P h args vals}
 (hpre:l.row.toRowW.claim.pre args=true) (hwl:WellAll P h vals args):
 ∃a vs ns,vals=[Value.ref a]/\args=[WData.list<|ns.map WData.int]/\h.get? a=some {cls:=.type "list",data:=.seq vs.toArray}/\IntsAre vs ns/\ns.length<=n:=by
 have hsh:=(pre_splitW hpre).1;have hc:l.pre.holds [] {args:=args}=true:=(pre_splitW hpre).2;obtain⟨d,r,rfl,h1,h2⟩:=hasAllW_cons hsh;obtain rfl:=hasAllW_nil h2;obtain⟨xs,rfl,h3⟩:=hasW_list h1;obtain⟨ns,rfl⟩:=items_int h3;have hlen:ns.length<=n:=by
  unfold OpenLaw.pre at hc;have h4:(WTm.not<|.lt (.lit<|.int (n:Int))<|.len<|.arg 0).holds [] {args:=[.list<|ns.map .int]}=true:=by
   have h4:=(holds_andW hc).1;rw[hn]at h4;exact h4
  have h5:=condW_of h4<|w_not<|w_lt w_lit<|w_len_list<|w_arg rfl;rw[zzB]at h5;refine Nat.le_of_not_lt λq=>?_;have q':n<(ns.length:Int):=q0h q
  first
   |(rw[zyO q']at h5;exact absurd h5 (by decide))
   |(simp at h5;omega)
 cases hwl with
 |cons w1 w2=>
  cases w2;cases w1 with
  |list ho hall=>exact⟨_,_,ns,rfl,rfl,ho,Kv ns _ hall,hlen⟩
def IM(l:OpenLaw)(args):l.row.toRowW.claim.post args (.bool true) args=true:=
 postW_of
  (show WShape.has [] _ .bool=true by first|rfl|decide|simp[WShape.has,WShape.arms,WShape.armsAll])
  (w_eq_bool (w_res rfl) w_lit) rfl
def So{l:OpenLaw}{n:Nat}{q loose XP YP d}
 (hn:l.most=some n) (hdf:d.params.defaults=[])
 (call:∀(w:World) (s₀ s₁:Shared) (mg mb:Str->Option Value) (fa:Addr) (o:Obj) (pm cd doc:Value) (a:Addr) (vs:List Value) (ns:List Int),
  Ground q loose [] XP w s₀ mg mb s₁.heap->YP w s₁.heap->
  s₁.heap.get? fa=some o->o.data = .func (docDef d.name d.params d.body d.scope pm cd doc)->s₁.heap.CodeRec cd d.name->mg d.name=some (.ref fa)->
  s₁.heap.get? a=some {cls:=.type "list",data:=.seq vs.toArray}->IntsAre vs ns->ns.length<=n->s₁.gens = #[]->
  codeAny (model l.prog w) callerA (.call (.ref fa) ⟨[.ref a],[]⟩) (λr s'=>r = .ok (.ret<|.bool true)/\OldK s₁.heap s'.heap/\s'.os=s₁.os/\AllBare s'.gens) s₁):
 WalkO q loose XP YP l.row.toRowW d [] (λf vs=>PySem.call f vs):=by
 intro w s₀ s₁ mg mb G Y fa o pm cd doc dV kV ho hd hcd hD hmg hg args vals as hpre hlay hrd hwl hlo;obtain rfl:dV = .none:=Dflts.none hD hdf;obtain rfl:kV = .none:=Dflts.noKw hD;obtain⟨a,vs,ns,rfl,rfl,hobj,hints,hlen⟩:=IT hn hpre hwl;refine enter_call<|codeAny_mono (call w s₀ s₁ mg mb fa o pm cd doc a vs ns G Y ho (fd_plain hd) hcd hmg hobj hints hlen hg) λr s' hq=>?_;obtain⟨rfl,h2,h3,h4⟩:=hq;exact⟨.inl ⟨.bool true,.bool true,[],rfl,λ_=>rfl,.bool true,IM l _,λ_=>⟨List.Pairwise.nil,λ_ hm=>(nomatch hm)⟩⟩,h2,h3,h4⟩
end Att
namespace L2
open PySem PySem.Spec PyProof.Rows
theorem EN:∀{vs:List Value}{ns:List Int},IntsAre vs ns->zS (ns.map V.int) vs
 |_,_,.nil=>.nil
 |_,_,.cons n t h=>.cons ⟨t,rfl⟩<|EN h
def nr(H:Hp):Prop:=∀b,H b=none\/∃o xs,H b=some (.frz o<|.lst xs)
def Dz{P w K mg mb CX}{k:Nat}{fa a fd x sp s₁ vs ns}
 (KX:K.In s₁.heap) (hns:s₁.heap.Ns mainGlobals mg) (hb:s₁.heap.Ns builtinsNs mb) (hbb:∀x:Str,x≠"__name__"->mb x=bootBuiltins x) (hlim:s₁.heap.NoLimit) (hg:s₁.gens = #[])
 (ha:s₁.heap.get? a=some {cls:=.type "list",data:=.seq vs.toArray}) (hi:IntsAre vs ns) (hl:ns.length<=sizeLine) (hr:Room k callerA)
 (F:∀base:Heap,K.In base->base.Ns mainGlobals mg->FnOk P w K mg base CX k fa fd [x] sp) (hbind:∀(s:Shared) (u:Value),BindsTo s fd ⟨[u],[]⟩ [(x,u)])
 (hsp:∀H:Hp,nr H->uX K H a (ns.map V.int)->sp [.ref a] H (λv _=>v = .bl true) λ_ _ _=>False)
 (hCX:∀H e s',CX [] H s₁ (λ_ _ _=>False) e s'->False):
 codeAny (model P w) callerA (.call (.ref fa) ⟨[.ref a],[]⟩) (λr s'=>r = .ok (.ret<|.bool true)/\OldK s₁.heap s'.heap/\s'.os=s₁.os/\AllBare s'.gens) s₁:=by
 have rv:=EN hi;have lenV:=hi.length;have core:∀H:Hp,nr H->uX K H a (ns.map V.int)->GB P w H s₁.heap->(∀b,H b≠none->b=a)->(H a≠none->K.lookup a=none)->
  codeAny (model P w) callerA (.call (.ref fa) ⟨[.ref a],[]⟩) (λr s'=>r = .ok (.ret<|.bool true)/\OldK s₁.heap s'.heap/\s'.os=s₁.os/\AllBare s'.gens) s₁:=by
  intro H hO hS hok hA hK;have base_of:∀{b:Addr}{o:Obj},s₁.heap.get? b=some o->H b=none->(JW s₁.heap H).get? b=some o:=λe n=>DS e n;have noA:∀{b:Addr}{o:Obj}{es:Array DictEntry}{ep:Nat},s₁.heap.get? b=some o->o.data = .dict es ep->H b=none:=λ{b o es ep} e d=>by
   cases q:H b with
   |none=>rfl
   |some u=>
    have e':b=a:=hA b (by rw[q];simp);subst e';rw[ha]at e;cases e;have d':Data.seq vs.toArray _=Data.dict es ep:=d;cases d'
  have nsK:∀{b:Addr}{m:Str->Option Value},s₁.heap.Ns b m->(JW s₁.heap H).Ns b m:=λ{b m} ⟨o,es,ep,e,d,r⟩=>⟨o,es,ep,base_of e<|noA e d,d,r⟩;have hKb:=λb o e=>base_of (KX b o e) (by
   cases q:H b with
   |none=>rfl
   |some u=>
    have e':b=a:=hA b (by rw[q];simp);subst e';rw[hK<|by rw[q];simp]at e;cases e)
  have hM:Mod K mg _:=⟨hKb,nsK hns,⟨mb,nsK hb,hbb⟩,let⟨mc,h1,h2⟩:=hlim;⟨mc,nsK h1,h2⟩⟩;have e0:Env0 P w K mg _ callerA [] s₁ H:=⟨rfl,hM,λb o e=>sO e,Nat.le_of_eq<|Ja _ _,trivial,λb hb=>absurd (show b ∈ ([]:List Addr)from hb) (by simp),hok,.of_eq hg⟩;refine codeAny_mono ((F _ hKb<|nsK hns).run callerA [] s₁ H ⟨_,[]⟩ [.ref a] [.ref a] _ _ hr e0 (hbind s₁<|.ref a) (.cons rfl .nil)<|hsp H hO hS) λr s' h=>?_;cases r with
  |error e=>exact(hCX H e s' h).elim
  |ok fl=>
   cases fl with
   |next=>exact False.elim h
   |brk=>exact False.elim h
   |cont=>exact False.elim h
   |ret u=>
    obtain⟨v,H',os,bare,un,hok',r',q⟩:=h;have q':v = .bl true:=q;subst q';obtain rfl:u=Value.bool true:=r';refine⟨rfl,OldK.of_keep λb o e=>?_,os,bare⟩;cases q:H b with
    |none=>exact un.keep b o e q (by intro z;exact absurd (show b ∈ ([]:List Addr)from z)<|by simp) (by simp)
    |some u=>
     rcases hO b with z|⟨ob,xs,z⟩
     . rw[q]at z;cases z
     . have z2:=un.frzs b ob _ z;obtain⟨e1,_⟩:=hok b _ z;obtain⟨e2,_⟩:=hok' b _ z2;rw[e]at e1;cases e1;exact e2
 cases hk:K.lookup a with
 |some o=>
  have e:=KX a o hk;rw[ha]at e;cases e;refine core (λ_=>none) (λ_=>.inl rfl) (.inr ⟨vs.toArray,_,hk,by rw[zzH,lenV];exact hl,by simpa using rv⟩) (λb u z=>by have z':none=some u:=z;cases z') (λb z=>absurd rfl z) λz=>absurd rfl z
 |none=>
  refine core (λb=>if b=a then some _ else none) (λb=>?_) (.inl<|.inr ⟨{cls:=.type "list",data:=.seq vs.toArray},if_pos rfl⟩) (λb u z=>?_) (λb z=>?_) λ_=>hk
  . by_cases hb:b=a
    . exact .inr ⟨_,_,if_pos hb⟩
    . exact .inl<|if_neg hb
  . by_cases hb:b=a
    . have z':=(if_pos hb).symm.trans z;cases z';subst hb;exact⟨ha,by rw[zzB];exact hl,vs,_,rv,ha⟩
    . have z':=(if_neg hb).symm.trans z;cases z'
  . by_cases hb:b=a
    . exact hb
    . exact absurd (if_neg hb) z
end L2
namespace L2
open PySem PySem.Spec PyProof.Rows
def walk_of{l:PySem.W.OpenLaw}{n k:Nat}{q loose XP YP d}{K:Params->zzA}{CX:World->pE}{sp:World->Sp}{x}
 (hn:l.most=some n) (hn2:n<=sizeLine) (hdf:d.params.defaults=[]) (hr:Room k callerA)
 (hY:∀(w:World) (h:Heap),YP w h->(K w.params).In h)
 (F:∀(w:World) (mg:Str->Option Value) (fa:Addr) (h:Heap),(K w.params).In h->h.Ns mainGlobals mg->mg d.name=some (.ref fa)->
  ∃fd:FuncData,(∀(s:Shared) (u:Value),BindsTo s fd ⟨[u],[]⟩ [(x,u)])/\
   ∀base:Heap,(K w.params).In base->base.Ns mainGlobals mg->FnOk l.prog w (K w.params) mg base (CX w) k fa fd [x] (sp w))
 (hsp:∀(w:World) (H:Hp) (a:Addr) (ns:List Int),ns.length<=n->nr H->uX (K w.params) H a (ns.map V.int)->sp w [.ref a] H (λv _=>v = .bl true) λ_ _ _=>False)
 (hCX:∀(w:World) (H:Hp) (s:Shared) (e:Value) (s':Shared),CX w [] H s (λ_ _ _=>False) e s'->False):
 PySem.W.WalkO q loose XP YP l.row.toRowW d [] (λf vs=>PySem.call f vs):=by
 refine Att.So hn hdf λw s₀ s₁ mg mb fa o pm cd doc a vs ns G Y ho hd hcd hmg hobj hints hlen hg=>?_;have KX:=hY w _ Y;obtain⟨fd,hb,hF⟩:=F w mg fa _ KX G.T.g hmg;exact Dz KX G.T.g G.T.b G.T.builtins G.T.nolimit hg hobj hints (zzO hlen hn2) hr hF hb (λH hO hS=>hsp w H a ns hlen hO hS) λH e s'=>hCX w H s₁ e s'
end L2
namespace L2
open PySem PySem.Spec PyProof.Rows
def inClass(s:Stmt)(j:Nat):Stmt:=match s with
 | .ClassDef _ _ _ body _ _ _ _ _ _ _=>body.getD j (.Pass ⟨0,0,0,0⟩)
 |_=>.Pass ⟨0,0,0,0⟩
def K_(s:Stmt):Arguments:=match s with
 | .FunctionDef _ a _ _ _ _ _ _ _ _=>a
 |_=>{posonlyargs:=[],args:=[],vararg:=none,kwonlyargs:=[],kw_defaults:=[],kwarg:=none,defaults:=[]}
def ZL(s:Stmt):List Stmt:=match s with
 | .FunctionDef _ _ b _ _ _ _ _ _ _=>b
 |_=>[]
def zd(s:Stmt):Scope:=match s with
 | .FunctionDef _ _ _ _ _ _ sc _ _ _=>sc
 |_=>{kind:=.function,names:=[],isGenerator:=false,isCoroutine:=false}
abbrev wV:pE:=λ_ _ _ _ _ _=>False
abbrev E0:XK:=λ_ _ _=>False
def ZP:vq wV X E0:=λ_ _ _ _ _ _ _ h=>h.elim
structure Fun(K:zzA)(x qual:Str)(st:Stmt)(f:Addr)(fd:FuncData):Prop where
 ex:∃(oc:Value) (od:Option Addr) (kV doc pm:Value) (an:Option Addr) (cdv ct:Value) (osl:Array (Option Value)),
  fd=W.fnOf x qual (K_ st) (ZL st) (zd st) .none kV doc pm an cdv ct/\K.lookup f=some ⟨oc,od,.func fd,osl⟩/\W.codeIn K cdv qual=true
 kp:W.keepIn K (.ref f)=true
section
variable{P:Program}{w:World}{K:zzA}{mg:Str->Option Value}{base:Heap}
def Fun.ok{x qual st f fd N ps}{k:Nat}{sp}(F:Fun K x qual st f fd)(S:FnScope N ps (zd st))(len:∀vs H Q E,sp vs H Q E->vs.length=ps.length)
 (hbody:∀(cdv:Value) (A:Around) (outer:List Env) (s:Shared) (H:Hp) (vs:List V) (Q:VK) (E:XK),Room k (A.deeper<|envOfC qual (zd st) s.heap.objs.size f cdv)->sp vs H Q E->
  ∃t,FI (L5 wV P w K mg base N qual (zd st) f cdv A outer s H E).nox (ZL st) t/\t {nx:=λ_ H'=>Q .non H',rt:=Q} (start N vs) H):FnOk P w K mg base wV (k+1) f fd ps sp:=by
 obtain⟨oc,od,kV,doc,pm,an,cdv,ct,osl,rfl,lk,hcd⟩:=F.ex;refine jv lk hcd S len λA outer s H vs Q E hr hsp=>?_;obtain⟨t,h,q⟩:=hbody cdv A outer s H vs Q E hr hsp;exact⟨t,h.nox,q⟩
def Fun.binds{x qual st f fd ps}(F:Fun K x qual st f fd)
 (h:∀(kV doc pm:Value) (an:Option Addr) (cdv ct:Value) (us:List Value),us.length=ps.length->bindArgs (W.fnOf x qual (K_ st) (ZL st) (zd st) .none kV doc pm an cdv ct) ⟨us,[]⟩=pure (ps.zip us)):Binds K fd ps []:=by
 obtain⟨oc,od,kV,doc,pm,an,cdv,ct,osl,rfl,lk,hcd⟩:=F.ex;exact .all<|h kV doc pm an cdv ct
end
def Tx(h:n<=1000):n<sizeLine:=Nat.lt_of_le_of_lt h (by decide)
section
variable{X:Cx}
def pv(i:Nat)(hN:X.N[i]? = some x:=by rfl)(hv:fH X.env.scope x:=by first|exact Or.inl rfl|exact Or.inr (Or.inl rfl)|exact Or.inr (Or.inr rfl))(hd:(x==("__debug__":Str))=false:=by decide)
 (hcd:(x==("__classdict__":Str))=false:=by decide):PE X (.Name x pos) (Ry i):=AV hN hv hd hcd
end
end L2
end
section
namespace G44
open PySem PySem.W PyProof.Rows L2
noncomputable def top(i:Nat):Stmt:=PySem.Challenge.pw_stretchdeeds_k44_first_places.main.body.getD i<|.Pass ⟨0,0,0,0⟩
abbrev W5:Stmt:=top 11
abbrev Xo:Stmt:=top 13
abbrev vo:Stmt:=top 14
abbrev vg:Stmt:=top 15
abbrev ZK:Stmt:=top 16
abbrev Yx:Stmt:=top 17
abbrev YB:Stmt:=top 18
abbrev v7:Stmt:=top 19
abbrev va:Stmt:=inClass (top 21) 0
abbrev Uh:Stmt:=top 22
abbrev XD:Stmt:=inClass (top 44) 5
abbrev Ui:Stmt:=top 23
abbrev Uc:Stmt:=top 24
abbrev Q5:Stmt:=top 25
abbrev ZF:Stmt:=inClass (top 44) 9
abbrev Yp:Stmt:=top 26
abbrev Xr:Stmt:=inClass (top 44) 10
abbrev WQ:Stmt:=top 27
abbrev Ys:Stmt:=top 28
abbrev WM:Stmt:=top 29
abbrev P9:Stmt:=top 30
abbrev Pn:Stmt:=top 31
abbrev ZE:Stmt:=top 32
abbrev vT:Stmt:=top 33
abbrev Pe:Stmt:=top 34
abbrev Ze:Stmt:=top 35
abbrev Xz:Stmt:=top 36
abbrev ZG:Stmt:=top 39
abbrev Yw:Stmt:=top 40
abbrev FT:Stmt:=top 43
abbrev WI:Stmt:=top 46
abbrev YC:Stmt:=top 47
abbrev Xs:Stmt:=top 48
abbrev wX:Stmt:=top 49
abbrev vk:Stmt:=top 50
abbrev Xq:Stmt:=top 51
abbrev XE:Stmt:=top 52
abbrev Vc:Stmt:=top 53
abbrev Xv:Stmt:=top 54
abbrev ZD:Stmt:=top 55
abbrev vc:Stmt:=top 56
abbrev WR:Stmt:=top 58
abbrev ZC:Stmt:=top 57
abbrev Ue:Stmt:=top 59
abbrev W9:Stmt:=top 60
abbrev W0:Stmt:=top 61
abbrev Q8:Stmt:=top 62
abbrev ZJ:Stmt:=top 63
abbrev wY:Stmt:=top 64
abbrev Yu:Stmt:=top 65
abbrev Xu:Stmt:=top 66
abbrev WU:Stmt:=top 67
abbrev wq:Stmt:=inClass (top 41) 0
abbrev YA:Stmt:=inClass (top 41) 1
abbrev vi:Stmt:=inClass (top 44) 1
abbrev xh:Stmt:=inClass (top 41) 3
abbrev Yy:Stmt:=inClass (top 41) 6
abbrev vd:Stmt:=inClass (top 41) 2
abbrev xg:Stmt:=inClass (top 41) 4
abbrev vV:Stmt:=inClass (top 44) 2
abbrev vL:Stmt:=inClass (top 44) 8
abbrev yI:Stmt:=inClass (top 41) 5
abbrev Yr:Stmt:=inClass (top 41) 7
abbrev Zg:Stmt:=inClass (top 41) 8
abbrev yU:Stmt:=inClass (top 44) 0
abbrev vP:Stmt:=inClass (top 41) 13
abbrev Zi:Stmt:=inClass (top 44) 4
abbrev vS:Stmt:=inClass (top 44) 3
abbrev wZ:Stmt:=inClass (top 44) 6
abbrev ZI:Stmt:=inClass (top 41) 16
abbrev C8:Stmt:=top 68
noncomputable abbrev hpg:=PySem.Challenge.pw_stretchdeeds_k44_first_places
abbrev hva:Value:=.str "__main__" 164
abbrev hvb:Value:=.str "stretchdeeds.errors" 194
abbrev hvc:Value:=.str "stretchdeeds.terms" 335
abbrev hvd:Value:=.str "stretchdeeds.algebras" 344
abbrev hve:Value:=.str "stretchdeeds.trees" 420
abbrev hvf:Value:=.str "stretchdeeds.makes" 610
abbrev hvg:Value:=.str "stretchdeeds.ways" 817
abbrev hvh:Value:=.str "law_stretchdeeds_k44_first_places" 937
abbrev hem:List Value:=[(.type "ValueError"), (.type "Exception"), (.type "BaseException"), (.type "object")]
abbrev kF(n q:Str)(s:Stmt)(pm hcd:Value):Obj:=⟨.type "function",none,.func<|fnOf n q (K_ s) (ZL s) (zd s) .none .none .none pm none hcd .none,#[]⟩
abbrev kD(es:List DictEntry)(n:Nat):Obj:=⟨.type "dict",none,.dict es.toArray n,#[]⟩
abbrev kE(P:Params)(x:Str)(t:Nat)(v:Value):DictEntry:=⟨PyData.keyHash P x,.str x t,v⟩
abbrev kR(P:Params)(x:Str)(t:Nat)(a:Addr):DictEntry:=kE P x t<|.ref a
noncomputable abbrev hfl(c:Value)(l:List Value):Obj:=⟨c,none,.fields l.toArray,#[]⟩
abbrev hco(n q:Str)(t u:Nat)(l k g:Int)(b:Bool)(a:Nat)(r s v:Value):Obj:=hfl (.type "code") [.str n t,.str q<|t+1,.str "/claim/cut.py" (t+2),.int l 0,.int k 0,.int 0 0,.int 0 0,.int g 0,.ref a,.bool b,.int 181 0,.ref<|a+1,.none,r,s,v,.int u 0,.int l 0,.str "/claim/cut.py" (u+1)]
abbrev hc7(n q:Str)(t u:Nat)(l k:Int)(a:Nat):=hco n q t u l k 3 true a (.ref<|a+2) (.ref<|a+3)<|.ref<|a+4
abbrev hc5(n q:Str)(t:Nat)(l k:Int)(a:Nat):=hco n q t (t+3) l k 3 true a .none .none<|.ref<|a+2
noncomputable abbrev hen(P:Params):List DictEntry:=[kE P "__doc__" 166 .none,kE P "__package__" 167 .none,kE P "__loader__" 168<|.builtin "__main__.__loader__#opaque",kE P "__spec__" 169 .none,kR P "__annotations__" 170 6,kR P "__builtins__" 171 4,kE P "__file__" 173<|.str "/claim/cut.py" 172,kE P "__cached__" 174 .none,kR P "_wall" 193 21,kR P "StretchError" 213 31,kR P "NotLetBy" 238 51,kR P "NoMake" 254 63,kR P "NoStretch" 270 75,kR P "NoValue" 286 87,kR P "NoDeed" 302 99,kR P "NoSign" 318 111,kR P "TooGreat" 334 123,kR P "is_whole" 343 132,kR P "is_within" 354 139,kR P "nothing_fails" 364 146,kR P "parting_fails" 376 153,kR P "doing_fails" 392 160,kR P "deeds_fail" 403 167,kR P "what_fails" 411 174,kR P "check_let_by" 419 181,kR P "Knot" 462 198,kR P "leaf_of" 469 209,kR P "knot_of" 478 216,kR P "tree_of" 487 223,kR P "size_of" 494 230,kR P "both_waits" 503 237,kR P "done_all" 514 244,kR P "turned_all" 522 251,kR P "parts_of" 532 258,kR P "gather" 547 265,kR P "row_of" 556 272,kR P "leaned_left" 567 279,kR P "leaned_right" 578 286,kR P "evened" 587 293,kR P "put_together" 597 300,kR P "parted_at" 609 307,kE P "MOST_IN_ROW" 613<|.int (300) 612,kR P "check_place" 622 314,kR P "check_size" 629 321,kR P "Makes" 816 450,kR P "firm" 824 459,kR P "Ways" 936 542,kR P "_law_draw" 950 553,kR P "_law_digits" 960 560,kR P "_law_names" 977 567,kR P "_law_part_join" 988 574,kR P "_law_part_done" 994 579,kR P "_law_parts" 1002 586,kR P "_law_split" 1013 593,kR P "_law_laid" 1024 600,kR P "_law_order" 1034 607,kR P "_law_algebra" 1040 612,kR P "_law_by_digits" 1046 617,kR P "_law_is_good" 1052 622,kR P "_law_does" 1067 629,kR P "_law_any" 1075 636,kR P "_law_copy" 1081 641,kR P "_law_deed" 1087 646,kR P "_law_row" 1097 653,kR P "_law_is_list" 1103 658,kR P "_law_is_number" 1111 665,kR P "_law_places" 1122 672,kR P "_law_first" 1134 679,kR P "_law_told" 1142 686,kR P "law" 1148 691]
def K(P:Params):Frag:=
 (nat_lit 3,kD (kE P "__name__" 165 hvh::hen P) 71)::
 (nat_lit 131,hc7 "is_whole" "is_whole" 337 341 25 1 126)::
 (nat_lit 132,kF "is_whole" "is_whole" W5 hvc<|.ref 131)::
 (nat_lit 138,hc7 "is_within" "is_within" 346 352 28 3 133)::
 (nat_lit 139,kF "is_within" "is_within" Xo hvd<|.ref 138)::
 (nat_lit 145,hc7 "nothing_fails" "nothing_fails" 355 362 30 1 140)::
 (nat_lit 146,kF "nothing_fails" "nothing_fails" vo hvd<|.ref 145)::
 (nat_lit 152,hc7 "parting_fails" "parting_fails" 365 374 37 1 147)::
 (nat_lit 153,kF "parting_fails" "parting_fails" vg hvd<|.ref 152)::
 (nat_lit 159,hc7 "doing_fails" "doing_fails" 377 390 46 3 154)::
 (nat_lit 160,kF "doing_fails" "doing_fails" ZK hvd<|.ref 159)::
 (nat_lit 166,hc7 "deeds_fail" "deeds_fail" 393 401 57 1 161)::
 (nat_lit 167,kF "deeds_fail" "deeds_fail" Yx hvd<|.ref 166)::
 (nat_lit 173,hc7 "what_fails" "what_fails" 404 409 66 1 168)::
 (nat_lit 174,kF "what_fails" "what_fails" YB hvd<|.ref 173)::
 (nat_lit 180,hc7 "check_let_by" "check_let_by" 412 417 73 1 175)::
 (nat_lit 181,kF "check_let_by" "check_let_by" v7 hvd<|.ref 180)::
 (nat_lit 194,hc7 "__init__" "Knot.__init__" 434 444 80 7 189)::
 (nat_lit 195,kF "__init__" "Knot.__init__" va hve<|.ref 194)::
 (nat_lit 197,kD [kE P "__module__" 429 hve,kE P "__firstlineno__" 433<|.int (78) 432,kR P "__init__" 446 195,kR P "__static_attributes__" 455 196,kR P "__dict__" 457 199,kR P "__weakref__" 459 200,kE P "__doc__" 460 .none] 4)::
 (nat_lit 198,⟨(.type "type"),none,.cls {name:="Knot",bases:=[(.type "object")],mro:=[(.ref 198),(.type "object")],ns:=197,qualname:="Knot",hasDict:=true,slotNames:=[],subclasses:=[],abstract:=false,collection:=none,hasDel:=false},#[none,none,some<|.str "Knot" 422,some<|.str "Knot" 430,some<|.builtin "object.__new__",some<|.bool true]⟩)::
 (nat_lit 208,hc7 "leaf_of" "leaf_of" 463 467 89 1 203)::
 (nat_lit 209,kF "leaf_of" "leaf_of" Uh hve<|.ref 208)::
 (nat_lit 215,hc7 "knot_of" "knot_of" 470 476 91 3 210)::
 (nat_lit 216,kF "knot_of" "knot_of" Ui hve<|.ref 215)::
 (nat_lit 222,hc7 "tree_of" "tree_of" 479 485 93 2 217)::
 (nat_lit 223,kF "tree_of" "tree_of" Uc hve<|.ref 222)::
 (nat_lit 229,hc7 "size_of" "size_of" 488 492 100 1 224)::
 (nat_lit 230,kF "size_of" "size_of" Q5 hve<|.ref 229)::
 (nat_lit 236,hc7 "both_waits" "both_waits" 495 501 102 3 231)::
 (nat_lit 237,kF "both_waits" "both_waits" Yp hve<|.ref 236)::
 (nat_lit 243,hc7 "done_all" "done_all" 504 512 108 3 238)::
 (nat_lit 244,kF "done_all" "done_all" WQ hve<|.ref 243)::
 (nat_lit 250,hc7 "turned_all" "turned_all" 515 520 116 2 245)::
 (nat_lit 251,kF "turned_all" "turned_all" Ys hve<|.ref 250)::
 (nat_lit 257,hc7 "parts_of" "parts_of" 523 530 120 2 252)::
 (nat_lit 258,kF "parts_of" "parts_of" WM hve<|.ref 257)::
 (nat_lit 264,hc7 "gather" "gather" 533 545 129 5 259)::
 (nat_lit 265,kF "gather" "gather" P9 hve<|.ref 264)::
 (nat_lit 271,hc7 "row_of" "row_of" 548 554 138 2 266)::
 (nat_lit 272,kF "row_of" "row_of" Pn hve<|.ref 271)::
 (nat_lit 278,hc7 "leaned_left" "leaned_left" 557 565 143 3 273)::
 (nat_lit 279,kF "leaned_left" "leaned_left" ZE hve<|.ref 278)::
 (nat_lit 285,hc7 "leaned_right" "leaned_right" 568 576 149 3 280)::
 (nat_lit 286,kF "leaned_right" "leaned_right" vT hve<|.ref 285)::
 (nat_lit 292,hc7 "evened" "evened" 579 585 155 3 287)::
 (nat_lit 293,kF "evened" "evened" Pe hve<|.ref 292)::
 (nat_lit 299,hc7 "put_together" "put_together" 588 595 161 3 294)::
 (nat_lit 300,kF "put_together" "put_together" Ze hve<|.ref 299)::
 (nat_lit 306,hc7 "parted_at" "parted_at" 598 607 173 3 301)::
 (nat_lit 307,kF "parted_at" "parted_at" Xz hve<|.ref 306)::
 (nat_lit 313,hc7 "check_place" "check_place" 614 620 187 3 308)::
 (nat_lit 314,kF "check_place" "check_place" ZG hvf<|.ref 313)::
 (nat_lit 320,hc7 "check_size" "check_size" 623 627 190 1 315)::
 (nat_lit 321,kF "check_size" "check_size" Yw hvf<|.ref 320)::
 (nat_lit 334,hc7 "__init__" "Makes.__init__" 642 647 195 2 329)::
 (nat_lit 335,kF "__init__" "Makes.__init__" wq hvf<|.ref 334)::
 (nat_lit 341,hc7 "keep" "Makes.keep" 650 655 199 2 336)::
 (nat_lit 342,kF "keep" "Makes.keep" YA hvf<|.ref 341)::
 (nat_lit 348,hc7 "tree_at" "Makes.tree_at" 658 663 203 2 343)::
 (nat_lit 349,kF "tree_at" "Makes.tree_at" vd hvf<|.ref 348)::
 (nat_lit 355,hc7 "check_value" "Makes.check_value" 666 671 208 2 350)::
 (nat_lit 356,kF "check_value" "Makes.check_value" xh hvf<|.ref 355)::
 (nat_lit 362,hc7 "three_parts" "Makes.three_parts" 674 684 212 4 357)::
 (nat_lit 363,kF "three_parts" "Makes.three_parts" xg hvf<|.ref 362)::
 (nat_lit 369,hc7 "three_together" "Makes.three_together" 687 694 220 4 364)::
 (nat_lit 370,kF "three_together" "Makes.three_together" yI hvf<|.ref 369)::
 (nat_lit 376,hc7 "made" "Makes.made" 697 703 223 2 371)::
 (nat_lit 377,kF "made" "Makes.made" Yy hvf<|.ref 376)::
 (nat_lit 383,hc7 "done" "Makes.done" 706 716 231 5 378)::
 (nat_lit 384,kF "done" "Makes.done" Yr hvf<|.ref 383)::
 (nat_lit 390,hc7 "turned" "Makes.turned" 719 727 238 4 385)::
 (nat_lit 391,kF "turned" "Makes.turned" Zg hvf<|.ref 390)::
 (nat_lit 425,hc7 "listed" "Makes.listed" 768 773 254 2 420)::
 (nat_lit 426,kF "listed" "Makes.listed" vP hvf<|.ref 425)::
 (nat_lit 446,hc7 "first" "Makes.first" 794 804 263 4 441)::
 (nat_lit 447,kF "first" "Makes.first" ZI hvf<|.ref 446)::
 (nat_lit 449,kD [kE P "__module__" 637 hvf,kE P "__firstlineno__" 641<|.int (193) 640,kR P "__init__" 649 335,kR P "keep" 657 342,kR P "tree_at" 665 349,kR P "check_value" 673 356,kR P "three_parts" 686 363,kR P "three_together" 696 370,kR P "made" 705 377,kR P "done" 718 384,kR P "turned" 729 391,kR P "changed" 739 398,kR P "put_in" 749 405,kR P "cut" 759 412,kR P "many" 767 419,kR P "listed" 775 426,kR P "asked" 785 433,kR P "walk" 793 440,kR P "first" 806 447,kR P "__static_attributes__" 809 448,kR P "__dict__" 811 451,kR P "__weakref__" 813 452,kE P "__doc__" 814 .none] 4)::
 (nat_lit 450,⟨(.type "type"),none,.cls {name:="Makes",bases:=[(.type "object")],mro:=[(.ref 450),(.type "object")],ns:=449,qualname:="Makes",hasDict:=true,slotNames:=[],subclasses:=[],abstract:=false,collection:=none,hasDel:=false},#[none,none,some<|.str "Makes" 630,some<|.str "Makes" 638,some<|.builtin "object.__new__",some<|.bool true]⟩)::
 (nat_lit 458,hc5 "firm" "firm" 819 275 1 455)::
 (nat_lit 459,kF "firm" "firm" FT hvg<|.ref 458)::
 (nat_lit 470,hc5 "__init__" "Ways.__init__" 837 279 2 467)::
 (nat_lit 471,kF "__init__" "Ways.__init__" yU hvg<|.ref 470)::
 (nat_lit 477,hc7 "is_value" "Ways.is_value" 843 848 288 2 472)::
 (nat_lit 478,kF "is_value" "Ways.is_value" vi hvg<|.ref 477)::
 (nat_lit 484,hc7 "is_deed" "Ways.is_deed" 851 856 291 2 479)::
 (nat_lit 485,kF "is_deed" "Ways.is_deed" vV hvg<|.ref 484)::
 (nat_lit 491,hc7 "is_sign" "Ways.is_sign" 859 864 294 2 486)::
 (nat_lit 492,kF "is_sign" "Ways.is_sign" vS hvg<|.ref 491)::
 (nat_lit 498,hc7 "nothing" "Ways.nothing" 867 871 297 1 493)::
 (nat_lit 499,kF "nothing" "Ways.nothing" Zi hvg<|.ref 498)::
 (nat_lit 505,hc7 "join" "Ways.join" 874 880 300 3 500)::
 (nat_lit 506,kF "join" "Ways.join" XD hvg<|.ref 505)::
 (nat_lit 512,hc7 "has_sign" "Ways.has_sign" 883 889 303 3 507)::
 (nat_lit 513,kF "has_sign" "Ways.has_sign" wZ hvg<|.ref 512)::
 (nat_lit 526,hc7 "wait_of" "Ways.wait_of" 899 904 309 2 521)::
 (nat_lit 527,kF "wait_of" "Ways.wait_of" vL hvg<|.ref 526)::
 (nat_lit 531,hc5 "behind" "Ways.behind" 907 312 3 528)::
 (nat_lit 532,kF "behind" "Ways.behind" ZF hvg<|.ref 531)::
 (nat_lit 538,hc7 "made" "Ways.made" 913 920 315 4 533)::
 (nat_lit 539,kF "made" "Ways.made" Xr hvg<|.ref 538)::
 (nat_lit 541,kD [kE P "__module__" 832 hvg,kE P "__firstlineno__" 836<|.int (277) 835,kR P "__init__" 842 471,kR P "is_value" 850 478,kR P "is_deed" 858 485,kR P "is_sign" 866 492,kR P "nothing" 873 499,kR P "join" 882 506,kR P "has_sign" 891 513,kR P "idle" 898 520,kR P "wait_of" 906 527,kR P "behind" 912 532,kR P "made" 922 539,kR P "__static_attributes__" 929 540,kR P "__dict__" 931 543,kR P "__weakref__" 933 544,kE P "__doc__" 934 .none] 4)::
 (nat_lit 542,⟨(.type "type"),none,.cls {name:="Ways",bases:=[(.type "object")],mro:=[(.ref 542),(.type "object")],ns:=541,qualname:="Ways",hasDict:=true,slotNames:=[],subclasses:=[],abstract:=false,collection:=none,hasDel:=false},#[none,none,some<|.str "Ways" 825,some<|.str "Ways" 833,some<|.builtin "object.__new__",some<|.bool true]⟩)::
 (nat_lit 552,hc7 "_law_draw" "_law_draw" 939 948 318 2 547)::
 (nat_lit 553,kF "_law_draw" "_law_draw" WI hvh<|.ref 552)::
 (nat_lit 559,hc7 "_law_digits" "_law_digits" 951 958 330 2 554)::
 (nat_lit 560,kF "_law_digits" "_law_digits" YC hvh<|.ref 559)::
 (nat_lit 566,hc7 "_law_names" "_law_names" 961 975 336 2 561)::
 (nat_lit 567,kF "_law_names" "_law_names" Xs hvh<|.ref 566)::
 (nat_lit 573,hc7 "_law_part_join" "_law_part_join" 978 986 351 3 568)::
 (nat_lit 574,kF "_law_part_join" "_law_part_join" wX hvh<|.ref 573)::
 (nat_lit 578,hc5 "_law_part_done" "_law_part_done" 989 360 4 575)::
 (nat_lit 579,kF "_law_part_done" "_law_part_done" vk hvh<|.ref 578)::
 (nat_lit 585,hc7 "_law_parts" "_law_parts" 995 1000 371 1 580)::
 (nat_lit 586,kF "_law_parts" "_law_parts" Xq hvh<|.ref 585)::
 (nat_lit 592,hc7 "_law_split" "_law_split" 1003 1011 376 2 587)::
 (nat_lit 593,kF "_law_split" "_law_split" XE hvh<|.ref 592)::
 (nat_lit 599,hc7 "_law_laid" "_law_laid" 1014 1022 382 2 594)::
 (nat_lit 600,kF "_law_laid" "_law_laid" Vc hvh<|.ref 599)::
 (nat_lit 606,hc7 "_law_order" "_law_order" 1025 1032 387 2 601)::
 (nat_lit 607,kF "_law_order" "_law_order" Xv hvh<|.ref 606)::
 (nat_lit 611,hc5 "_law_algebra" "_law_algebra" 1035 393 2 608)::
 (nat_lit 612,kF "_law_algebra" "_law_algebra" ZD hvh<|.ref 611)::
 (nat_lit 616,hc5 "_law_by_digits" "_law_by_digits" 1041 419 1 613)::
 (nat_lit 617,kF "_law_by_digits" "_law_by_digits" vc hvh<|.ref 616)::
 (nat_lit 621,hc5 "_law_is_good" "_law_is_good" 1047 436 1 618)::
 (nat_lit 622,kF "_law_is_good" "_law_is_good" ZC hvh<|.ref 621)::
 (nat_lit 628,hc7 "_law_does" "_law_does" 1053 1065 449 5 623)::
 (nat_lit 629,kF "_law_does" "_law_does" WR hvh<|.ref 628)::
 (nat_lit 635,hc7 "_law_any" "_law_any" 1068 1073 457 1 630)::
 (nat_lit 636,kF "_law_any" "_law_any" Ue hvh<|.ref 635)::
 (nat_lit 640,hc5 "_law_copy" "_law_copy" 1076 463 1 637)::
 (nat_lit 641,kF "_law_copy" "_law_copy" W9 hvh<|.ref 640)::
 (nat_lit 645,hc5 "_law_deed" "_law_deed" 1082 467 3 642)::
 (nat_lit 646,kF "_law_deed" "_law_deed" W0 hvh<|.ref 645)::
 (nat_lit 652,hc7 "_law_row" "_law_row" 1088 1095 470 3 647)::
 (nat_lit 653,kF "_law_row" "_law_row" Q8 hvh<|.ref 652)::
 (nat_lit 657,hc5 "_law_is_list" "_law_is_list" 1098 475 2 654)::
 (nat_lit 658,kF "_law_is_list" "_law_is_list" ZJ hvh<|.ref 657)::
 (nat_lit 664,hc7 "_law_is_number" "_law_is_number" 1104 1109 479 2 659)::
 (nat_lit 665,kF "_law_is_number" "_law_is_number" wY hvh<|.ref 664)::
 (nat_lit 671,hc7 "_law_places" "_law_places" 1112 1120 481 2 666)::
 (nat_lit 672,kF "_law_places" "_law_places" Yu hvh<|.ref 671)::
 (nat_lit 678,hc7 "_law_first" "_law_first" 1123 1132 490 4 673)::
 (nat_lit 679,kF "_law_first" "_law_first" Xu hvh<|.ref 678)::
 (nat_lit 685,hc7 "_law_told" "_law_told" 1135 1140 497 2 680)::
 (nat_lit 686,kF "_law_told" "_law_told" WU hvh<|.ref 685)::
 (nat_lit 690,hc5 "law" "law" 1143 501 1 687)::
 (nat_lit 691,kF "law" "law" C8 hvh<|.ref 690)::
 []
noncomputable def kA:List Addr:=[3,131,132,138,139,145,146,152,153,159,160,166,167,173,174,180,181,194,195,197,198,208,209,215,216,222,223,229,230,236,237,243,244,250,251,257,258,264,265,271,272,278,279,285,286,292,293,299,300,306,307,313,314,320,321,334,335,341,342,348,349,355,356,362,363,369,370,376,377,383,384,390,391,425,426,446,447,449,450,458,459,470,471,477,478,484,485,491,492,498,499,505,506,512,513,526,527,531,532,538,539,541,542,552,553,559,560,566,567,573,574,578,579,585,586,592,593,599,600,606,607,611,612,616,617,621,622,628,629,635,636,640,641,645,646,652,653,657,658,664,665,671,672,678,679,685,686,690,691]
def qv:Program:={hpg with main:={hpg.main with body:=[0,2,3,4,5,6,7,8,9,11,13,14,15,16,17,18,19,21,22,23,24,25,26,27,28,29,30,31,32,33,34,35,36,38,39,40,41,43,44,46,47,48,49,50,51,52,53,54,55,56,57,58,59,60,61,62,63,64,65,66,67,68].map top}}
theorem kAe(P:Params):kA=(K P).map (·.1):=by kernel_rfl
set_option maxRecDepth 100000
theorem ws:PySem.Challenge.rw_stretchdeeds_k44_first_places.wellSaid=true:=by kernel_rfl
abbrev Xt(s:Shared):Bool:=xlAt qv [] s&&recOk (RowW.records<|OpenRow.toRowW PySem.Challenge.rw_stretchdeeds_k44_first_places.row) s
abbrev hk:Hook:=kHook K kA kAe
def htp(l:List Value):Obj:=⟨.type "tuple",none,.seq l.toArray 0,#[]⟩
def htx:Nat->List Str->List Value
 |_,[]=>[]
 |t,x::l=>.str x t::htx (t+1) l
noncomputable def hfO(a t:Nat)(r:Str)(v:Value)(s:Stmt):List Obj:=match s with
 | .FunctionDef n p b _ _ _ c _ _ o=>
  let q:=r++n;let S:Obj:=⟨.none,none,.func {name:=n,qualname:=q,params:=p,body:=.stmts b,scope:=c,globals:=0,closure:=[],defaults:=.none,kwdefaults:=.none},#[]⟩
  match localNames p c (.stmts b) with
  |some (x,_)=>[htp [],hfl .none [],htp<|htx (t+3) x,htp [],S,hc7 n q t (t+3+x.length) o.line p.args.length a,kF n q s v<|.ref<|a+5]
  |none=>[htp [],hfl .none [],S,hc5 n q t o.line p.args.length a,kF n q s v<|.ref<|a+3]
 |_=>[]
noncomputable def htk(s:Stmt):Nat:=match s with
 | .FunctionDef _ p b _ _ _ c _ _ _=>match localNames p c (.stmts b) with
  |some (x,_)=>6+x.length
  |none=>6
 |_=>0
noncomputable def hms(P:Params)(c:Str)(v:Value):Nat->Nat->List Stmt->List Obj×List DictEntry×List Value×Nat
 |_,t,[]=>([],[],[],t)
 |a,t,s::r=>match s with
  | .FunctionDef n _ _ _ _ _ _ _ _ o=>let f:=hfO a t (c++".") v s;let l:=a+f.length;let u:=t+htk s;let z:=hms P c v l u r;(f++z.1,kR P n (u-1) (l-1)::z.2.1,.int o.line 0:: .int 4 0:: .ref (l-2)::z.2.2.1,z.2.2.2)
  |_=>hms P c v a t r
noncomputable def hfm(a b:Addr)(v:Value):Obj:=⟨.type "frame",none,.plain,#[some<|.ref a,some<|.ref 3,some<|.ref b,none,some v,none,some<|.ref 0]⟩
def hbf(x:String)(v:Value):Obj:=hfl (.type "builtin_function_or_method") [.builtin x,v]
def hgd(x:Str)(t:Nat)(c:Addr)(g s:Value):Obj:=hfl (.type "getset_descriptor") [.str x t,.ref c,g,s]
noncomputable def hcO(P:Params)(a t:Nat)(v:Value)(bv mr sb:List Value)(nw:String)(d:Nat)(s:Stmt):List Obj:=match s with
 | .ClassDef n _ _ b _ _ _ _ _ sa o=>
  let m:=hms P n v (a+7) (t+12) b;let e:=a+7+m.1.length;let k:=m.2.2.2+sa.length;let z:=k+1;let C:=e+2
  let x:=kE P "__module__" (t+7) v;let f:=kE P "__firstlineno__" (t+11)<|.int o.line<|t+10;let y:=kR P "__static_attributes__" k e
  let W:=λt:Nat=>hgd "__weakref__" t C (.builtin "ExceptionGroup.__weakref__") .none
  let D:List DictEntry×List Obj:=match d with
   |0=>([],[])
   |1=>([kR P "__weakref__" (z+1)<|C+1],[W z])
   |_=>([kR P "__dict__" (z+1)<|C+1,kR P "__weakref__" (z+3)<|C+2],[hgd "__dict__" z C (.builtin "function.__dict__")<|.builtin "function.__dict__#set",W<|z+2])
  [htp bv,hbf "type.__prepare__" (.type "type"),kD (x::kE P "__qualname__" (t+9) (.str n<|t+8)::f::m.2.1++[y])<|4+m.2.1.length,htp [],hfl .none m.2.2.1,hco n n (t+2) (t+5) o.line 0 0 false (a+3) .none .none .none,hfm (a+5) (a+2) v]++m.1++[htp<|htx m.2.2.2 sa,kD (x::f::m.2.1++y::D.1++[kE P "__doc__" (z+2*d) .none])<|2+d,⟨.type "type",none,.cls {name:=n,bases:=if bv.isEmpty then [.type "object"] else bv,mro:=.ref C::mr,ns:=e+1,qualname:=n,hasDict:=true,slotNames:=[],subclasses:=sb},#[if bv.isEmpty then none else some<|.ref a,none,some<|.str n t,some<|.str n<|t+8,some<|.builtin nw,some<|.bool true]⟩]++D.2++[hfl (.type "super") [.ref C,.ref C,.ref C],hbf "object.__init_subclass__" (.ref C)]
 |_=>[]
noncomputable def hcs:List (Int×Addr):=[(1,20),(5,27),(7,40),(12,59),(14,71),(16,83),(18,95),(20,107),(22,119),(25,131),(28,138),(30,145),(37,152),(46,159),(57,166),(66,173),(73,180),(78,187),(89,208),(91,215),(93,222),(100,229),(102,236),(108,243),(116,250),(120,257),(129,264),(138,271),(143,278),(149,285),(155,292),(161,299),(173,306),(187,313),(190,320),(193,327),(275,458),(277,465),(318,552),(330,559),(336,566),(351,573),(360,578),(371,585),(376,592),(382,599),(387,606),(393,611),(419,616),(436,621),(449,628),(457,635),(463,640),(467,645),(470,652),(475,657),(479,664),(481,671),(490,678),(497,685),(501,690)]
noncomputable def hhp(P:Params)(v:Value)(g c:Nat)(l:List Obj):Heap:=⟨⟨boot_o_0 P::boot_o_1 P::boot_o_2 P::kD (kE P "__name__" 165 v::(hen P).take g) (g+1)::boot_o_4 P::boot_o_5 P::boot_o_6 P::boot_o_7 P::boot_o_8 P::boot_o_9 P::boot_o_10 P::htp []::hfl .none ((hcs.take c).flatMap λp=>[.int p.1 0,.int 0 0,.ref p.2])::hco "<module>" "<module>" 182 185 1 0 0 false 11 .none .none .none::hfm 13 3 (.str "__main__" 164)::l⟩,(boot_heap P).life⟩
abbrev hbd:=behindTheImports hpg
abbrev hev:Env:={scope:=hpg.main.scope,locals:=mainNs,globals:=mainNs,cells:=[],code:=.ref 13,frame:=some 14}
abbrev hcd:Code:=.body hbd hev
noncomputable abbrev hSh(t:Nat)(h:Heap)(o:OsState):Shared:=⟨h,⟨[]⟩,boot_drawn,t,o⟩
def hl0(P:Params):List Obj:=hfO 15 187 "" hva (top 0)++hcO P 22 196 hvb [(.type "ValueError")] hem [(.ref 51),(.ref 63),(.ref 75),(.ref 87),(.ref 99),(.ref 111),(.ref 123)] "ValueError.__new__" 1 (top 2)++hcO P 35 214 hvb [(.ref 31)] ((.ref 31)::hem) [] "ValueError.__new__" 0 (top 3)++hcO P 54 239 hvb [(.ref 31)] ((.ref 31)::hem) [] "ValueError.__new__" 0 (top 4)++hcO P 66 255 hvb [(.ref 31)] ((.ref 31)::hem) [] "ValueError.__new__" 0 (top 5)++hcO P 78 271 hvb [(.ref 31)] ((.ref 31)::hem) [] "ValueError.__new__" 0 (top 6)++hcO P 90 287 hvb [(.ref 31)] ((.ref 31)::hem) [] "ValueError.__new__" 0 (top 7)++hcO P 102 303 hvb [(.ref 31)] ((.ref 31)::hem) [] "ValueError.__new__" 0 (top 8)++hcO P 114 319 hvb [(.ref 31)] ((.ref 31)::hem) [] "ValueError.__new__" 0 (top 9)
def hl1(P:Params):List Obj:=hl0 P++hfO 126 337 "" hvc (top 11)++hfO 133 346 "" hvd (top 13)++hfO 140 355 "" hvd (top 14)++hfO 147 365 "" hvd (top 15)++hfO 154 377 "" hvd (top 16)++hfO 161 393 "" hvd (top 17)++hfO 168 404 "" hvd (top 18)++hfO 175 412 "" hvd (top 19)++hcO P 182 422 hve [] [(.type "object")] [] "object.__new__" 2 (top 21)++hfO 203 463 "" hve (top 22)++hfO 210 470 "" hve (top 23)++hfO 217 479 "" hve (top 24)++hfO 224 488 "" hve (top 25)++hfO 231 495 "" hve (top 26)++hfO 238 504 "" hve (top 27)++hfO 245 515 "" hve (top 28)++hfO 252 523 "" hve (top 29)++hfO 259 533 "" hve (top 30)++hfO 266 548 "" hve (top 31)++hfO 273 557 "" hve (top 32)++hfO 280 568 "" hve (top 33)++hfO 287 579 "" hve (top 34)++hfO 294 588 "" hve (top 35)++hfO 301 598 "" hve (top 36)
def hl2(P:Params):List Obj:=hl1 P++hfO 308 614 "" hvf (top 39)++hfO 315 623 "" hvf (top 40)++hcO P 322 630 hvf [] [(.type "object")] [] "object.__new__" 2 (top 41)++hfO 455 819 "" hvg (top 43)
def hl3(P:Params):List Obj:=hl2 P++hcO P 460 825 hvg [] [(.type "object")] [] "object.__new__" 2 (top 44)++hfO 547 939 "" hvh (top 46)++hfO 554 951 "" hvh (top 47)++hfO 561 961 "" hvh (top 48)++hfO 568 978 "" hvh (top 49)++hfO 575 989 "" hvh (top 50)++hfO 580 995 "" hvh (top 51)++hfO 587 1003 "" hvh (top 52)++hfO 594 1014 "" hvh (top 53)++hfO 601 1025 "" hvh (top 54)++hfO 608 1035 "" hvh (top 55)++hfO 613 1041 "" hvh (top 56)++hfO 618 1047 "" hvh (top 57)++hfO 623 1053 "" hvh (top 58)++hfO 630 1068 "" hvh (top 59)
def hl4(P:Params):List Obj:=hl3 P++hfO 637 1076 "" hvh (top 60)++hfO 642 1082 "" hvh (top 61)++hfO 647 1088 "" hvh (top 62)++hfO 654 1098 "" hvh (top 63)++hfO 659 1104 "" hvh (top 64)++hfO 666 1112 "" hvh (top 65)++hfO 673 1123 "" hvh (top 66)++hfO 680 1135 "" hvh (top 67)++hfO 687 1143 "" hvh (top 68)
theorem hr0(w:World)(o:OsState):topGo treeTable hpg w 11 (some<|.ref 6) 12 (hSh boot_toks (boot_heap w.params) o) (topStub hpg)=some (hSh 187 (hhp w.params (.str "__main__" 164) 8 0 []) o,⟨denote treeTable hcd,hcd,⟨0,0,0,0⟩,[topFrame ⟨0,0,0,0⟩]⟩):=by kernel_rfl
theorem hr1(w:World)(o:OsState):segRun treeTable hpg w 11 (some<|.ref 6) 1 1 (hSh 187 (hhp w.params (.str "__main__" 164) 8 0 []) o) (blockOf hbd hev hcd ⟨0,0,0,0⟩ [topFrame ⟨0,0,0,0⟩])=some (.next,hSh 187 (hhp w.params (.str "__main__" 164) 8 0 []) o,hcd,⟨0,0,0,0⟩):=by kernel_rfl
theorem hs0(w:World)(o:OsState):segRun treeTable hpg w 11 (some<|.ref 6) 1 1748 (hSh 187 (hhp w.params (.str "__main__" 164) 8 0 []) o) (piecesOf (hbd.take 10) hev hcd ⟨0,0,0,0⟩ [topFrame ⟨0,0,0,0⟩])=some (.next,hSh 335 (hhp w.params hvb 17 9<|hl0 w.params) o,hcd,⟨22,0,23,8⟩):=by kernel_rfl
abbrev hb0:=hbd.drop 10
theorem hs1(w:World)(o:OsState):segRun treeTable hpg w 11 (some<|.ref 6) 1 996 (hSh 335 (hhp w.params hvb 17 9<|hl0 w.params) o) (piecesOf (hb0.take 27) hev hcd ⟨22,0,23,8⟩ [topFrame ⟨0,0,0,0⟩])=some (.next,hSh 610 (hhp w.params hve 41 33<|hl1 w.params) o,hcd,⟨173,0,184,58⟩):=by kernel_rfl
abbrev hb1:=hb0.drop 27
theorem hs2(w:World)(o:OsState):segRun treeTable hpg w 11 (some<|.ref 6) 1 878 (hSh 610 (hhp w.params hve 41 33<|hl1 w.params) o) (piecesOf (hb1.take 7) hev hcd ⟨173,0,184,58⟩ [topFrame ⟨0,0,0,0⟩])=some (.next,hSh 825 (hhp w.params hvg 46 37<|hl2 w.params) o,hcd,⟨275,0,276,46⟩):=by kernel_rfl
abbrev hb2:=hb1.drop 7
theorem hs3(w:World)(o:OsState):segRun treeTable hpg w 11 (some<|.ref 6) 1 988 (hSh 825 (hhp w.params hvg 46 37<|hl2 w.params) o) (piecesOf (hb2.take 16) hev hcd ⟨275,0,276,46⟩ [topFrame ⟨0,0,0,0⟩])=some (.next,hSh 1076 (hhp w.params hvh 61 52<|hl3 w.params) o,hcd,⟨457,0,462,39⟩):=by kernel_rfl
abbrev hb3:=hb2.drop 16
theorem hs4(w:World)(o:OsState):topRun treeTable hpg w 11 (some<|.ref 6) 266 (hSh 1076 (hhp w.params hvh 61 52<|hl3 w.params) o) (restOf hb3 hev hcd ⟨457,0,462,39⟩ [topFrame ⟨0,0,0,0⟩])=some (hSh 1149 (hhp w.params hvh 70 61<|hl4 w.params) o):=by kernel_rfl
theorem hpa{w:World}{n N t t':Nat}{h h':Heap}{o:OsState}{r:Shared}{b:List Stmt}(m:Nat){p p':Pos}(x:segRun treeTable hpg w 11 (some<|.ref 6) 1 n (hSh t h o) (piecesOf (b.take m) hev hcd p [topFrame ⟨0,0,0,0⟩])=some (.next,hSh t' h' o,hcd,p'))(y:topRun treeTable hpg w 11 (some<|.ref 6) N (hSh t' h' o) (restOf (b.drop m) hev hcd p' [topFrame ⟨0,0,0,0⟩])=some r):topRun treeTable hpg w 11 (some<|.ref 6) (n+N) (hSh t h o) (restOf b hev hcd p [topFrame ⟨0,0,0,0⟩])=some r:=by
 have z:=piece_app x y;rwa[List.take_append_drop] at z
theorem hhr(w:World)(o:OsState):topRun treeTable hpg w 11 (some<|.ref 6) (12+(1+(1748+(996+(878+(988+266)))))) (hSh boot_toks (boot_heap w.params) o) (topStub hpg)=some (hSh 1149 (hhp w.params hvh 70 61<|hl4 w.params) o):=go_top (hr0 w o)<|piece_block (hr1 w o)<|hpa _ (hs0 w o)<|hpa _ (hs1 w o)<|hpa _ (hs2 w o)<|hpa _ (hs3 w o)<|hs4 w o
def hhf(P:Params):Heap:=hhp P hvh 70 61<|hl4 P
theorem hhq(w:World):(λo=>((staticsOk (importedModules hpg.main.body) (boot_heap w.params) (hhf w.params)&&namesBound hpg (hhf w.params)&&gensDone (hSh 1149 (hhf w.params) o)&&laidKept (boot_heap w.params) (hhf w.params)),openSeen qv [] (importedModules hpg.main.body) Xt true<|hSh 1149 (hhf w.params) o,hk.obs<|hSh 1149 (hhf w.params) o))=λ_=>(true,openGood qv [],hk.val w):=by kernel_rfl
theorem hl:LeftO PySem.Challenge.pw_stretchdeeds_k44_first_places qv [] Xt hk.obs hk.val 8000:=LeftO.of_pieces (H₀:=boot_heap) (H₁:=hhf) (boot_open (by kernel_rfl) rfl λ_=>by kernel_rfl) (λ_=>by kernel_rfl) hhr rfl hhq
end G44
end
section
namespace PF
open PySem PySem.Spec PyProof.Rows L2
abbrev St:=L2.St
structure KD where
 d:Addr->List (Key×V)->Prop
 c:Str->Addr
instance:CoeFun KD (λ_=>Addr->List (Key×V)->Prop):=⟨KD.d⟩
inductive D where
 |non|bl (b:Bool)|int (i:Int)|str (x:Str)|tup (ds:List D)|lst (ds:List D)|dct (kvs:List (Key×D))|cl (c:Str)|ob (c:Str) (ns:List Str) (ds:List D)
mutual
inductive Rp(K:zzA)(kd:KD)(O:Addr->Prop)(H:Hp):V->D->Prop
 |non:Rp K kd O H .non .non
 |bl (b:Bool):Rp K kd O H (.bl b) (.bl b)
 |int (i:Int):Rp K kd O H (.int i) (.int i)
 |str (x:Str):Rp K kd O H (.str x) (.str x)
 |tup {a:Addr}{vs:List V}{ds:List D}:¬O a->Rd H a (.tup vs)->RpL K kd O H vs ds->Rp K kd O H (.ref a) (.tup ds)
 |tupK {a:Addr}{o:Obj}{its:Array Value}{n:Nat}{vs:List V}{ds:List D}:K.lookup a=some o->o.cls = .type "tuple"->o.data = .seq its n->its.size<=sizeLine->zS vs its.toList->RpL K kd O H vs ds->Rp K kd O H (.ref a) (.tup ds)
 |lst {a:Addr}{vs:List V}{ds:List D}:¬O a->Rd H a (.lst vs)->RpL K kd O H vs ds->Rp K kd O H (.ref a) (.lst ds)
 |lstK {a:Addr}{its:Array Value}{n:Nat}{vs:List V}{ds:List D}:K.lookup a=some {cls:=.type "list",data:=.seq its n}->its.size<=sizeLine->zS vs its.toList->RpL K kd O H vs ds->Rp K kd O H (.ref a) (.lst ds)
 |dct {a:Addr}{kvs:List (Key×V)}{ds:List (Key×D)}:¬O a->Rd H a (.dK kvs)->RpM K kd O H kvs ds->Rp K kd O H (.ref a) (.dct ds)
 |dctK {a:Addr}{kvs:List (Key×V)}{ds:List (Key×D)}:kd a kvs->RpM K kd O H kvs ds->Rp K kd O H (.ref a) (.dct ds)
 |cl (c:Str):Rp K kd O H (.ref (kd.c c)) (.cl c)
 |ob {a dx:Addr}{c:Str}{ns:List Str}{vs:List V}{ds:List D}:¬O a->H a=some (.ins (kd.c c) dx (ns.zip vs))->ns.length=vs.length->RpL K kd O H vs ds->Rp K kd O H (.ref a) (.ob c ns ds)
inductive RpL(K:zzA)(kd:KD)(O:Addr->Prop)(H:Hp):List V->List D->Prop
 |nil:RpL K kd O H [] []
 |cons {v:V}{d:D}{vs:List V}{ds:List D}:Rp K kd O H v d->RpL K kd O H vs ds->RpL K kd O H (v::vs) (d::ds)
inductive RpM(K:zzA)(kd:KD)(O:Addr->Prop)(H:Hp):List (Key×V)->List (Key×D)->Prop
 |nil:RpM K kd O H [] []
 |cons {k:Key}{v:V}{d:D}{vs:List (Key×V)}{ds:List (Key×D)}:Rp K kd O H v d->RpM K kd O H vs ds->RpM K kd O H ((k,v)::vs) ((k,d)::ds)
end
structure Grow(W:Addr->Prop)(H:Hp)(W':Addr->Prop)(H':Hp):Prop where
 keep:∀b o,H b=some o->¬W b->H' b=some o
 own:∀b,W' b->W b\/H b=none
def Grow.refl:Grow W H W H:=⟨λ_ _ h _=>h,λ_ h=>.inl h⟩
def Grow.trans(a:Grow W H W1 H1)(b:Grow W1 H1 W2 H2):Grow W H W2 H2 where
 keep:=λx o h n=>b.keep x o (a.keep x o h n) λq=>(a.own x q).elim n λz=>by rw[z]at h;cases h
 own:=λx q=>by
  rcases b.own x q with h|h
  . exact a.own x h
  . cases e:H x with
    |none=>exact .inr rfl
    |some o=>
     refine .inl<|Classical.byContradiction λn=>?_;rw[a.keep x o e n]at h;cases h
def Grow.less(h:∀a,W' a->W a):Grow W H W' H:=⟨λ_ _ q _=>q,λb q=>.inl<|h b q⟩
abbrev QL(F W:Addr->Prop):Addr->Prop:=λa=>F a\/W a
section
variable{K:zzA}{kd:KD}{F W W':Addr->Prop}{H H':Hp}
def RO(g:Grow W H W' H')(n:¬W a)(h:Rd H a u):Rd H' a u:=by
 rcases h with h|⟨o,h⟩
 . exact .inl<|g.keep _ _ h n
 . exact .inr ⟨o,g.keep _ _ h n⟩
def si(h:Rd H a u):H a≠none:=by
 rcases h with h|⟨o,h⟩<;>(rw[h];simp)
def Po(g:Grow W H W' H')(n:¬QL F W a)(h:Rd H a u):¬QL F W' a:=λq=>
 q.elim (λz=>n<|.inl z) λz=>(g.own a z).elim (λy=>n<|.inr y) λy=>si h y
def Rp.grow(g:Grow W H W' H')(h:Rp K kd (QL F W) H v d):Rp K kd (QL F W') H' v d:=
 Rp.rec .non .bl .int .str (λn h _ r=>.tup (Po g n h) (RO g (λz=>n<|.inr z) h) r) (λa b c e f _ r=>.tupK a b c e f r) (λn h _ r=>.lst (Po g n h) (RO g (λz=>n<|.inr z) h) r) (λa e f _ r=>.lstK a e f r) (λn h _ r=>.dct (Po g n h) (RO g (λz=>n<|.inr z) h) r) (λh _ r=>.dctK h r) .cl (λn h l _ r=>.ob (Po g n<|.inl h) (g.keep _ _ h λz=>n<|.inr z) l r) .nil (λ_ _ h r=>.cons h r) .nil (λ_ _ h r=>.cons h r) h
def RpL.ind{P:List V->List D->Prop}(h0:P [] [])(h1:∀{v d vs ds},Rp K kd O H v d->RpL K kd O H vs ds->P vs ds->P (v::vs) (d::ds))(h:RpL K kd O H vs ds):P vs ds:=
 RpL.rec (motive_1:=λ_ _ _=>True) (motive_3:=λ_ _ _=>True) ⟨⟩ (λ_=>⟨⟩) (λ_=>⟨⟩) (λ_=>⟨⟩) (λ_ _ _ _=>⟨⟩) (λ_ _ _ _ _ _ _=>⟨⟩) (λ_ _ _ _=>⟨⟩) (λ_ _ _ _ _=>⟨⟩) (λ_ _ _ _=>⟨⟩) (λ_ _ _=>⟨⟩) (λ_=>⟨⟩) (λ_ _ _ _ _=>⟨⟩) h0 (λa r _ ih=>h1 a r ih) ⟨⟩ (λ_ _ _ _=>⟨⟩) h
def RpM.ind{P:List (Key×V)->List (Key×D)->Prop}(h0:P [] [])(h1:∀{k v d vs ds},Rp K kd O H v d->RpM K kd O H vs ds->P vs ds->P ((k,v)::vs) ((k,d)::ds))(h:RpM K kd O H vs ds):P vs ds:=
 RpM.rec (motive_1:=λ_ _ _=>True) (motive_2:=λ_ _ _=>True) ⟨⟩ (λ_=>⟨⟩) (λ_=>⟨⟩) (λ_=>⟨⟩) (λ_ _ _ _=>⟨⟩) (λ_ _ _ _ _ _ _=>⟨⟩) (λ_ _ _ _=>⟨⟩) (λ_ _ _ _ _=>⟨⟩) (λ_ _ _ _=>⟨⟩) (λ_ _ _=>⟨⟩) (λ_=>⟨⟩) (λ_ _ _ _ _=>⟨⟩) ⟨⟩ (λ_ _ _ _=>⟨⟩) h0 (λa r _ ih=>h1 a r ih) h
theorem RpL.grow(g:Grow W H W' H'){vs:List V}(h:RpL K kd (QL F W) H vs ds):RpL K kd (QL F W') H' vs ds:=RpL.ind .nil (λa _ r=>.cons (Rp.grow g a) r) h
theorem RpM.grow(g:Grow W H W' H'){vs:List (Key×V)}(h:RpM K kd (QL F W) H vs ds):RpM K kd (QL F W') H' vs ds:=RpM.ind .nil (λa _ r=>.cons (Rp.grow g a) r) h
def Rp.less(g:∀a,O' a->O a)(h:Rp K kd O H v d):Rp K kd O' H v d:=
 Rp.rec .non .bl .int .str (λn h _ r=>.tup (λz=>n<|g _ z) h r) (λa b c e f _ r=>.tupK a b c e f r) (λn h _ r=>.lst (λz=>n<|g _ z) h r) (λa e f _ r=>.lstK a e f r) (λn h _ r=>.dct (λz=>n<|g _ z) h r) (λh _ r=>.dctK h r) .cl (λn h l _ r=>.ob (λz=>n<|g _ z) h l r) .nil (λ_ _ h r=>.cons h r) .nil (λ_ _ h r=>.cons h r) h
theorem RpL.less{O O':Addr->Prop}(g:∀a,O' a->O a)(h:RpL K kd O H vs ds):RpL K kd O' H vs ds:=RpL.ind .nil (λa _ r=>.cons (Rp.less g a) r) h
theorem RpM.less{O O':Addr->Prop}(g:∀a,O' a->O a)(h:RpM K kd O H vs ds):RpM K kd O' H vs ds:=RpM.ind .nil (λa _ r=>.cons (Rp.less g a) r) h
theorem RpL.length{O:Addr->Prop}(h:RpL K kd O H vs ds):vs.length=ds.length:=RpL.ind (P:=λa b=>a.length=b.length) rfl (λ_ _ r=>congrArg (· + 1) r) h
theorem RpM.length{O:Addr->Prop}(h:RpM K kd O H vs ds):vs.length=ds.length:=RpM.ind (P:=λa b=>a.length=b.length) rfl (λ_ _ r=>congrArg (· + 1) r) h
def RpL.get{vs:List V}{i:Nat}(h:RpL K kd O H vs ds)(e:ds[i]? = some d):∃v,vs[i]? = some v/\Rp K kd O H v d:=
 RpL.ind (P:=λb c=>∀i,c[i]? = some d->∃v,b[i]? = some v/\Rp K kd O H v d) (λi e=>by rw[List.getElem?_nil]at e;cases e) (λa _ f i e=>by
  cases i with
  |zero=>cases e;exact⟨_,rfl,a⟩
  |succ i=>exact f i e) h i e
def RpL.append{O:Addr->Prop}(h:RpL K kd O H vs ds)(r:RpL K kd O H ws es):RpL K kd O H (vs++ws) (ds++es):=RpL.ind (P:=λb c=>RpL K kd O H (b++ws)<|c++es) r (λa _ t=>.cons a t) h
theorem RpL.take{O:Addr->Prop}(n:Nat)(h:RpL K kd O H vs ds):RpL K kd O H (vs.take n) (ds.take n):=
 RpL.ind (P:=λb c=>∀n,RpL K kd O H (b.take n)<|c.take n) (λn=>by rw[List.take_nil,List.take_nil];exact .nil) (λa _ d n=>by
  cases n with
  |zero=>exact .nil
  |succ n=>exact .cons a (d n)) h n
theorem RpL.drop{O:Addr->Prop}(n:Nat)(h:RpL K kd O H vs ds):RpL K kd O H (vs.drop n) (ds.drop n):=
 RpL.ind (P:=λc d=>∀n,RpL K kd O H (c.drop n)<|d.drop n) (λn=>by rw[List.drop_nil,List.drop_nil];exact .nil) (λa b e n=>by
  cases n with
  |zero=>exact .cons a b
  |succ n=>exact e n) h n
theorem RpL.rep(h:RpL K kd O H vs ds):∀k:Nat,RpL K kd O H (List.replicate k vs).flatten (List.replicate k ds).flatten
 |0=>.nil
 |k+1=>by
  rw[List.replicate_succ,List.replicate_succ,List.flatten_cons,List.flatten_cons];exact h.append<|RpL.rep h k
end
inductive Vw(K:zzA)(kd:KD)(O:Addr->Prop)(H:Hp):V->D->Prop
 |non:Vw K kd O H .non .non
 |bl (b:Bool):Vw K kd O H (.bl b) (.bl b)
 |int (i:Int):Vw K kd O H (.int i) (.int i)
 |str (x:Str):Vw K kd O H (.str x) (.str x)
 |tup {a:Addr}{vs:List V}{ds:List D}:Rp K kd O H (.ref a) (.tup ds)->RF K H a vs->RpL K kd O H vs ds->Vw K kd O H (.ref a) (.tup ds)
 |lst {a:Addr}{vs:List V}{ds:List D}:uX K H a vs->RpL K kd O H vs ds->Vw K kd O H (.ref a) (.lst ds)
 |dct {a:Addr}{kvs:List (Key×V)}{ds:List (Key×D)}:(Rd H a (.dK kvs)\/kd a kvs)->RpM K kd O H kvs ds->Vw K kd O H (.ref a) (.dct ds)
 |cl (c:Str):Vw K kd O H (.ref (kd.c c)) (.cl c)
 |ob {a dx:Addr}{c:Str}{ns:List Str}{vs:List V}{ds:List D}:H a=some (.ins (kd.c c) dx (ns.zip vs))->ns.length=vs.length->RpL K kd O H vs ds->Vw K kd O H (.ref a) (.ob c ns ds)
def Rp.vw{K}(h:Rp K kd O H v d):Vw K kd O H v d:=by
 cases h with
 |non=>exact .non
 |bl b=>exact .bl b
 |int i=>exact .int i
 |str x=>exact .str x
 |tup n h r=>exact .tup (.tup n h r) (.inl h) r
 |tupK a b c e f r=>exact .tup (.tupK a b c e f r) (.inr ⟨_,_,_,a,b,c,e,f⟩) r
 |lst n h r=>exact .lst (.inl h) r
 |lstK a e f r=>exact .lst (.inr ⟨_,_,a,e,f⟩) r
 |dct n h r=>exact .dct (.inl h) r
 |dctK h r=>exact .dct (.inr h) r
 |cl c=>exact .cl c
 |ob n h l r=>exact .ob h l r
def _root_.L2.uX.sq{K}(h:uX K H a xs):VX K H a xs:=by
 rcases h with h|⟨b,n,k,z,r⟩
 . exact .inl h
 . exact .inr ⟨_,b,n,k,rfl,rfl,rfl,z,r⟩
def HW(I:Inv X pins σ H s)(h:uX X.K H a xs):
 xs.length<=sizeLine/\∃(its:List Value) (n:Nat),zS xs its/\s.heap.get? a=some {cls:=.type "list",data:=.seq its.toArray n}:=by
 rcases h with h|⟨b,n,k,z,r⟩
 . exact h.ok I.hok
 . refine⟨by rw[r.length];simpa using z,b.toList,n,r,by simpa using I.kIn _ _ k⟩
def Rp.cl_eq{K}(h:Rp K kd O H (.ref C) (.cl c)):C=kd.c c:=by
 cases h;rfl
noncomputable def zB:D->Bool
 | .non=>true | .bl _=>true | .int _=>true | .str _=>true|_=>false
def Rp.flat{K}(h:Rp K kd O H v d)(e:zB d=true):Rp K kd O' H' v d:=by
 cases h with
 |non=>exact .non
 |bl b=>exact .bl b
 |int i=>exact .int i
 |str x=>exact .str x
 |_=>cases e
inductive Kind where
 |ls|tp|dc (ks:List Key)|ob (c:Str) (ns:List Str)
inductive O where
 |lf (st:Bool) (d:D)|nd (k:Kind) (os:List O)
abbrev Iu(st:Bool)(d:D):O:=.lf (zB d||st) d
mutual
inductive Ro(L:Bool->V->D->Prop)(N:Addr->Prop)(H:Hp):V->O->List Addr->Prop
 |lf {st:Bool}{v:V}{d:D}:L st v d->Ro L N H v (.lf st d) []
 |ls {a:Addr}{vs:List V}{os:List O}{fp:List Addr}:H a=some (.lst vs)->RoL L N H vs os fp->Ro L N H (.ref a) (.nd .ls os) (a::fp)
 |dc {a:Addr}{ks:List Key}{vs:List V}{os:List O}{fp:List Addr}:H a=some (.dK (ks.zip vs))->ks.length=vs.length->RoL L N H vs os fp->Ro L N H (.ref a) (.nd (.dc ks) os) (a::fp)
 |ob {a dx C:Addr}{c:Str}{ns:List Str}{vs:List V}{os:List O}{fp:List Addr}:L true (.ref C) (.cl c)->H a=some (.ins C dx (ns.zip vs))->ns.length=vs.length->RoL L N H vs os fp->Ro L N H (.ref a) (.nd (.ob c ns) os) (a::fp)
 |tp {a:Addr}{vs:List V}{os:List O}{fp:List Addr}:N a->H a=some (.tup vs)->RoL L N H vs os fp->Ro L N H (.ref a) (.nd .tp os) fp
inductive RoL(L:Bool->V->D->Prop)(N:Addr->Prop)(H:Hp):List V->List O->List Addr->Prop
 |nil:RoL L N H [] [] []
 |cons {v:V}{o:O}{vs:List V}{os:List O}{fp fq:List Addr}:Ro L N H v o fp->RoL L N H vs os fq->RoL L N H (v::vs) (o::os) (fp++fq)
end
mutual
def O.toD:O->D
 | .lf _ d=>d
 | .nd .ls os=>.lst<|O.toDs os
 | .nd .tp os=>.tup<|O.toDs os
 | .nd (.dc ks) os=>.dct<|ks.zip<|O.toDs os
 | .nd (.ob c ns) os=>.ob c ns<|O.toDs os
def O.toDs:List O->List D
 | []=>[]
 |o::r=>o.toD::O.toDs r
end
mutual
def O.str:O->Bool
 | .lf st _=>st
 | .nd _ os=>O.strs os
def O.strs:List O->Bool
 | []=>true
 |o::r=>o.str&&O.strs r
end
section
variable{L L':Bool->V->D->Prop}{N N':Addr->Prop}{H H':Hp}{K:zzA}{kd:KD}{Ob:Addr->Prop}
def Ro.mono(hL:∀st v d,L st v d->L' st v d)(hN:∀a vs,N a->H a=some (.tup vs)->N' a/\H' a=some (.tup vs))(k:∀a ∈ fp,∀u,H a=some u->H' a=some u)(h:Ro L N H v o fp):Ro L' N' H' v o fp:=
 Ro.rec (motive_2:=λvs os fp _=>_->RoL L' N' H' vs os fp)
  (λh _=>.lf<|hL _ _ _ h) (λh _ r k=>.ls (k _ zzF _ h)<|r λa m=>k a<|zzD _ m) (λh l _ r k=>.dc (k _ zzF _ h) l<|r λa m=>k a<|zzD _ m) (λc h l _ r k=>.ob (hL _ _ _ c) (k _ zzF _ h) l<|r λa m=>k a<|zzD _ m) (λn h _ r k=>.tp (hN _ _ n h).1 (hN _ _ n h).2<|r k)
  (λ_=>.nil) (λ_ _ h r k=>.cons (h λa m=>k a<|zzP _ m)<|r λa m=>k a<|zzL _ m) h k
def RoL.ind{P:List V->List O->List Addr->Prop}(h0:P [] [] [])(h1:∀{v o vs os fp fq},Ro L N H v o fp->RoL L N H vs os fq->P vs os fq->P (v::vs) (o::os) (fp++fq)){os}(h:RoL L N H vs os fp):P vs os fp:=
 RoL.rec (motive_1:=λ_ _ _ _=>True) (λ_=>⟨⟩) (λ_ _ _=>⟨⟩) (λ_ _ _ _=>⟨⟩) (λ_ _ _ _ _=>⟨⟩) (λ_ _ _ _=>⟨⟩) h0 (λa r _ ih=>h1 a r ih) h
theorem RoL.mono(hL:∀st v d,L st v d->L' st v d)(hN:∀a vs,N a->H a=some (.tup vs)->N' a/\H' a=some (.tup vs)){vs:List V}{os}(k:∀a ∈ fp,∀u,H a=some u->H' a=some u)(h:RoL L N H vs os fp):RoL L' N' H' vs os fp:=
 RoL.ind (P:=λc e b=>(∀a ∈ b,∀u,H a=some u->H' a=some u)->RoL L' N' H' c e b) (λ_=>.nil) (λh _ r k=>.cons (Ro.mono hL hN (λa m=>k a<|zzP _ m) h)<|r λa m=>k a<|zzL _ m) h k
theorem K2:∀{ks:List Key}{vs:List V}{ds:List D},RpL K kd Ob H vs ds->ks.length=vs.length->RpM K kd Ob H (ks.zip vs) (ks.zip ds)
 | [],_,_,_,_=>.nil
 |_::_,_,_,.nil,e=>by simp at e
 |_::_,_,_,.cons h r,e=>.cons h (K2 r<|by simpa using e)
def Ro.rp(b)(hL:∀st v d,(b=true->st=true)->L st v d->Rp K kd Ob H v d)(hN:∀a,N a->¬Ob a){v}(s:b=true->o.str=true)(k:∀a ∈ fp,¬Ob a)(h:Ro L N H v o fp):Rp K kd Ob H v o.toD:=
 Ro.rec (motive_2:=λi g f _=>_->_->RpL K kd Ob H i _)
  (λh s _=>hL _ _ _ s h) (λh _ r s k=>.lst (k _ zzF) (.inl h)<|r s λa m=>k a<|zzD _ m) (λh l _ r s k=>.dct (k _ zzF) (.inl h)<|K2 (r s λa m=>k a<|zzD _ m) l) (λc h l _ r s k=>by
   have e:=(hL _ _ _ (λ_=>rfl) c).cl_eq;subst e;exact .ob (k _ zzF) h l<|r s λa m=>k a<|zzD _ m) (λn h _ r s k=>.tup (hN _ n) (.inl h)<|r s k)
  (λ_ _=>.nil) (λ_ _ h r s k=>.cons (h (λz=>((zyC _ _).mp<|s z).1) λa m=>k a<|zzP _ m)<|r (λz=>((zyC _ _).mp<|s z).2) λa m=>k a<|zzL _ m) h s k
theorem RoL.rp(b:Bool)(hL:∀st v d,(b=true->st=true)->L st v d->Rp K kd Ob H v d)(hN:∀a,N a->¬Ob a){os}(s:b=true->O.strs os=true)(k:∀a ∈ fp,¬Ob a)(h:RoL L N H vs os fp):RpL K kd Ob H vs (O.toDs os):=
 RoL.ind (P:=λe c f=>(b=true->O.strs c=true)->(∀a ∈ f,¬Ob a)->RpL K kd Ob H e (O.toDs c)) (λ_ _=>.nil) (λh _ r s k=>.cons (Ro.rp b hL hN (λz=>((zyC _ _).mp<|s z).1) (λa m=>k a<|zzP _ m) h)<|r (λz=>((zyC _ _).mp<|s z).2) λa m=>k a<|zzL _ m) h s k
theorem RoL.length{vs:List V}{os}(h:RoL L N H vs os fp):vs.length=os.length:=RoL.ind (P:=λa b _=>a.length=b.length) rfl (λ_ _ r=>congrArg (· + 1) r) h
theorem QA:∀os:List O,(O.toDs os).length=os.length
 | []=>rfl
 |_::r=>congrArg (· + 1)<|QA r
def RoL.append{vs ws:List V}{os ps}(h:RoL L N H vs os f)(r:RoL L N H ws ps g):RoL L N H (vs++ws) (os++ps) (f++g):=RoL.ind (P:=λa b f=>RoL L N H (a++ws) (b++ps)<|f++g) r (λh _ t=>by rw[zxC];exact .cons h t) h
def RoL.one(h:Ro L N H v o f):RoL L N H [v] [o] f:=by
 have:=RoL.cons h<|RoL.nil;rw[zyE]at this;exact this
def RoL.part(k:Nat):∀{vs:List V}{os:List O}{fp:List Addr},RoL L N H vs os fp->∃f g,fp=f++g/\RoL L N H (vs.take k) (os.take k) f/\RoL L N H (vs.drop k) (os.drop k) g:=by
 induction k with
 |zero=>intro b c a h;exact⟨[],a,rfl,.nil,h⟩
 |succ k d=>
  intro b c a h;cases h with
  |nil=>exact⟨[],[],rfl,.nil,.nil⟩
  |cons h r=>
   obtain⟨f,g,rfl,e,i⟩:=d r;exact⟨_,g,(zxC _ _ _).symm,.cons h e,i⟩
end
abbrev AS:=List<|Option O
abbrev Ad:=Nat->List Addr
def Gw(T:List Addr)(ad:Ad):Addr->Prop:=λa=>a ∈ T\/∃i,a ∈ ad i
abbrev Lv(F B G:Addr->Prop)(st:Bool):Addr->Prop:=QL (λa=>(st=true/\F a)\/B a) G
abbrev Lf(K:zzA)(kd:KD)(F B G:Addr->Prop)(H:Hp):Bool->V->D->Prop:=λst v d=>Rp K kd (Lv F B G st) H v d
abbrev Nf(F B G:Addr->Prop):Addr->Prop:=λa=>¬Lv F B G true a
abbrev Xj(K:zzA)(kd:KD)(F B G:Addr->Prop)(H:Hp):V->O->List Addr->Prop:=Ro (Lf K kd F B G H) (Nf F B G) H
abbrev Za(K:zzA)(kd:KD)(F B G:Addr->Prop)(H:Hp):List V->List O->List Addr->Prop:=RoL (Lf K kd F B G H) (Nf F B G) H
def NU(K:zzA)(kd:KD)(F B G:Addr->Prop)(H:Hp):Option O->Option (Option V)->List Addr->Prop
 |none,_,fp=>fp=[]
 |some o,s,fp=>∃v,s=some (some v)/\Xj K kd F B G H v o fp
structure Rel(K:zzA)(kd:KD)(F B:Addr->Prop)(T:List Addr)(ad:Ad)(as:AS)(σ:St)(H:Hp):Prop where
 len:as.length=σ.length
 out:∀i,as.length<=i->ad i=[]
 nd:∀i,(ad i).Nodup
 inj:∀i j a,a ∈ ad i->a ∈ ad j->i=j
 tnd:T.Nodup
 dis:∀i a,a ∈ ad i->a ∉ T
 ftr:∀a,F a->H a≠none
 btr:∀a,B a->H a≠none/\¬F a/\¬Gw T ad a
 gtr:∀a,Gw T ad a->H a≠none/\¬F a
 sl:∀i s,as[i]? = some s->NU K kd F B (Gw T ad) H s σ[i]? (ad i)
inductive RV where
 |ow (o:O)|bo (i:Nat)
def xl(K:zzA)(kd:KD)(F B:Addr->Prop)(T:List Addr)(ad:Ad)(σ:St)(H:Hp)(v:V):RV->Prop
 | .ow o=>Xj K kd F B (Gw T ad) H v o T
 | .bo i=>T=[]/\σ[i]? = some (some v)
def O.frz(o:O):O:=.lf o.str o.toD
def RV.frz:RV->RV
 | .ow o=>.ow o.frz
 | .bo i=>.bo i
noncomputable def O.isLf:O->Bool
 | .lf _ _=>true
 |_=>false
def O.kl:O->Option Bool
 | .lf st _=>some st
 | .nd _ os=>if os.all O.isLf=true then some (O.strs os)else none
noncomputable def RV.view(as:AS):RV->Option (D×Option Bool)
 | .ow o=>some (o.toD,some o.str)
 | .bo i=>match as[i]? with
  |some (some o)=>some (o.toD,o.kl)
  |_=>none
def GK(F B G:Addr->Prop):Option Bool->Addr->Prop
 |some st=>Lv F B G st
 |none=>λ_=>False
section
variable{K:zzA}{kd:KD}{F B F' B':Addr->Prop}{G G':Addr->Prop}{T T':List Addr}{ad ad1:Ad}{as as1:AS}{σ:St}{H H1 H':Hp}{v:V}{r:RV}{o:O}{fp:List Addr}{vs:List V}{os:List O}
theorem Xj.grow(g:Grow G H G' H')(k:∀a ∈ fp,∀u,H a=some u->H' a=some u)(h:Xj K kd F B G H v o fp):Xj K kd F B G' H' v o fp:=
 Ro.mono (λst v d r=>Rp.grow g r) (λa vs n e=>⟨λz=>z.elim (λy=>n<|.inl y) λy=>(g.own a y).elim (λw=>n<|.inr w) λw=>(by rw[w]at e;cases e),g.keep a _ e λw=>n<|.inr w⟩) k h
theorem Za.grow(g:Grow G H G' H')(k:∀a ∈ fp,∀u,H a=some u->H' a=some u)(h:Za K kd F B G H vs os fp):Za K kd F B G' H' vs os fp:=
 RoL.mono (λst v d r=>Rp.grow g r) (λa vs n e=>⟨λz=>z.elim (λy=>n<|.inl y) λy=>(g.own a y).elim (λw=>n<|.inr w) λw=>(by rw[w]at e;cases e),g.keep a _ e λw=>n<|.inr w⟩) k h
def Xj.lv(g:∀st a,Lv F' B' G' st a->Lv F B G st a)(h:Xj K kd F B G H v o fp):Xj K kd F' B' G' H v o fp:=
 Ro.mono (λst v d r=>r.less<|g st) (λa vs n e=>⟨λz=>n<|g true a z,e⟩) (λ_ _ _ e=>e) h
def Za.lv(g:∀st a,Lv F' B' G' st a->Lv F B G st a)(h:Za K kd F B G H vs os fp):Za K kd F' B' G' H vs os fp:=
 RoL.mono (λst v d r=>r.less<|g st) (λa vs n e=>⟨λz=>n<|g true a z,e⟩) (λ_ _ _ e=>e) h
def Xj.less(g:∀a,G' a->G a)(h:Xj K kd F B G H v o fp):Xj K kd F B G' H v o fp:=Xj.lv (λ_ a z=>z.elim .inl λy=>.inr<|g a y) h
def Gw.drop:∀a,Gw [] ad a->Gw T ad a:=λ_ h=>h.elim (λz=>nomatch z) .inr
def Rel.trk(R:Rel K kd F B T ad as σ H)(st):∀a,Lv F B (Gw T ad) st a->H a≠none:=λa h=>by
 rcases h with(h|h)|h
 . exact R.ftr a h.2
 . exact(R.btr a h).1
 . exact(R.gtr a h).1
def Rel.tr(R:Rel K kd F B T ad as σ H)(lv):∀a,GK F B (Gw T ad) lv a->H a≠none:=λa h=>by
 cases lv with
 |none=>exact h.elim
 |some st=>exact R.trk st a h
theorem NU.lv(g:∀st a,Lv F' B' G' st a->Lv F B G st a)(h:NU K kd F B G H s x fp):NU K kd F' B' G' H s x fp:=by
 cases s with
 |none=>exact h
 |some o=>obtain⟨v,e,r⟩:=h;exact⟨v,e,Xj.lv g r⟩
def NU.less(g:∀a,G' a->G a)(h:NU K kd F B G H s x fp):NU K kd F B G' H s x fp:=h.lv λ_ a z=>z.elim .inl λy=>.inr<|g a y
theorem NU.grow(g:Grow G H G' H')(k:∀a ∈ fp,∀u,H a=some u->H' a=some u)(h:NU K kd F B G H s x fp):NU K kd F B G' H' s x fp:=by
 cases s with
 |none=>exact h
 |some o=>obtain⟨v,e,r⟩:=h;exact⟨v,e,Xj.grow g k r⟩
theorem Rel.drop(R:Rel K kd F B T ad as σ H):Rel K kd F B [] ad as σ H where
 len:=R.len
 out:=R.out
 nd:=R.nd
 inj:=R.inj
 tnd:=zyJ
 dis:=λ_ _ _ z=>nomatch z
 ftr:=R.ftr
 btr:=λa h=>let⟨h1,h2,h3⟩:=R.btr a h;⟨h1,h2,λz=>h3<|Gw.drop a z⟩
 gtr:=λa h=>R.gtr a (Gw.drop a h)
 sl:=λi s e=>(R.sl i s e).less Gw.drop
def OV(R:Rel K kd F B T ad as σ H)(h:Xj K kd F B (Gw T ad) H v o T):Rp K kd (Lv F B (Gw [] ad) o.str) H v o.toD:=
 Ro.rp o.str (λst v d hs r=>r.less λa z=>z.elim (λy=>.inl<|y.elim (λx=>.inl ⟨hs x.1,x.2⟩) .inr) λy=>.inr<|Gw.drop a y)
  (λa n z=>n<|z.elim (λy=>.inl<|y.elim (λx=>.inl ⟨rfl,x.2⟩) .inr) λy=>.inr<|Gw.drop a y) id
  (λa m z=>by
   rcases z with(z|z)|z|⟨i,z⟩
   . exact(R.gtr a<|.inl m).2 z.2
   . exact(R.btr a z).2.2<|.inl m
   . cases z
   . exact R.dis i a z m) h
def xl.drop(R:Rel K kd F B T ad as σ H)(h:xl K kd F B T ad σ H v r):xl K kd F B [] ad σ H v r.frz:=by
 cases r with
 |ow o=>exact .lf (OV R h)
 |bo i=>exact⟨rfl,h.2⟩
theorem xl.grow(g:Grow (Gw [] ad) H (Gw [] ad1) H1)(h:xl K kd F B [] ad σ H v r):xl K kd F B [] ad1 σ H1 v r:=by
 cases r with
 |ow o=>exact Xj.grow g (λ_ m=>nomatch m) h
 |bo i=>exact h
def uV(h:Za K kd F B G H vs os fp):os.all O.isLf=true->fp=[]:=
 RoL.ind (P:=λ_ os fp=>os.all O.isLf=true->fp=[]) (λ_=>rfl) (λh _ ih e=>by
  rw[List.all_cons,zyC]at e;rw[ih e.2,zyE];cases h with
  |lf=>rfl
  |ls=>cases e.1
  |dc=>cases e.1
  |ob=>cases e.1
  |tp=>cases e.1) h
def Th{st}(hs:b=true->st=true):∀a,Lv F B G b a->Lv F B G st a:=λa z=>z.elim (λy=>.inl<|y.elim (λx=>.inl ⟨hs x.1,x.2⟩) .inr) .inr
def T9(h:Za K kd F B G H vs os fp)(e:os.all O.isLf=true):RpL K kd (Lv F B G<|O.strs os) H vs (O.toDs os):=by
 have:=uV h e;subst this;exact RoL.rp _ (λst v d hs r=>r.less<|Th hs) (λa n z=>n<|Th (λ_=>rfl) a z) id (by intro a m;cases m) h
def RN(h:Za K kd F B G H vs os fp):RpL K kd (λ_=>False) H vs (O.toDs os):=RoL.rp false (λst v d _ r=>r.less λ_ z=>z.elim) (λ_ _ z=>z) (λz=>Bool.noConfusion z) (λ_ _ z=>z) h
def LU(h:Xj K kd F B G H v o fp):Rp K kd (λ_=>False) H v o.toD:=Ro.rp false (λst v d _ r=>r.less λ_ z=>z.elim) (λ_ _ z=>z) (λz=>Bool.noConfusion z) (λ_ _ z=>z) h
def Lq(h:Xj K kd F B G H v o []):Rp K kd (Lv F B G o.str) H v o.toD:=
 Ro.rp o.str (λst v d hs r=>r.less<|Th hs) (λa n z=>n<|Th (λ_=>rfl) a z) id (by intro a m;cases m) h
theorem Xj.vw(h:Xj K kd F B G H v o fp):Vw K kd (GK F B G o.kl) H v o.toD:=by
 cases h with
 |lf h=>exact h.vw
 |ls hH r=>
  rename_i a vs' os' fp';show Vw K kd (GK F B G (if os'.all O.isLf=true then some _ else none)) H _ _
  by_cases e:os'.all O.isLf=true
  . rw[if_pos e];exact .lst (.inl<|.inl hH)<|T9 r e
  . rw[if_neg e];exact .lst (.inl<|.inl hH) (RN r)
 |dc hH l r=>
  rename_i a ks vs' os' fp';show Vw K kd (GK F B G (if os'.all O.isLf=true then some _ else none)) H _ _
  by_cases e:os'.all O.isLf=true
  . rw[if_pos e];exact .dct (.inl<|.inl hH)<|K2 (T9 r e) l
  . rw[if_neg e];exact .dct (.inl<|.inl hH) (K2 (RN r) l)
 |ob hc hH l r=>
  rename_i a dx C c ns vs' os' fp';have ec:=hc.cl_eq;subst ec;show Vw K kd (GK F B G (if os'.all O.isLf=true then some _ else none)) H _ _
  by_cases e:os'.all O.isLf=true
  . rw[if_pos e];exact .ob hH l<|T9 r e
  . rw[if_neg e];exact .ob hH l (RN r)
 |tp n hH r=>
  rename_i a vs' os';show Vw K kd (GK F B G (if os'.all O.isLf=true then some _ else none)) H _ _
  by_cases e:os'.all O.isLf=true
  . rw[if_pos e];have rl:=T9 r e;exact .tup (.tup (λz=>n<|Th (λ_=>rfl) _ z) (.inl hH) rl) (.inl<|.inl hH) rl
  . rw[if_neg e];exact .tup (.tup (λz=>z) (.inl hH)<|RN r) (.inl<|.inl hH)<|RN r
theorem xl.vw(R:Rel K kd F B [] ad as σ H)(h:xl K kd F B [] ad σ H v r)(e:r.view as=some (d,lv)):Vw K kd (GK F B (Gw [] ad) lv) H v d:=by
 cases r with
 |ow o=>
  cases e;exact(Lq h).vw
 |bo i=>
  have e:(match as[i]? with|some (some o)=>some _|_=>none)=some (d,lv):=e;cases k:as[i]? with
  |none=>rw[k]at e;cases e
  |some s=>
   cases s with
   |none=>rw[k]at e;cases e
   |some o=>
    rw[k]at e;cases e;obtain⟨w,hw,ro⟩:=R.sl i _ k;rw[h.2]at hw;cases hw;exact ro.vw
def Rel.add(R:Rel K kd F B T ad as σ H)(hn:N.Nodup)(hl:∀a ∈ N,H a=none)(k:∀b u,H b=some u->H' b=some u)(h1:∀a ∈ N,H' a≠none):Rel K kd F B (N++T) ad as σ H'/\Grow (Gw T ad) H (Gw (N++T) ad) H':=by
 have g:Grow (Gw T ad) H (Gw (N++T) ad) H':=⟨λb u h _=>k b u h,λb h=>by
  rcases h with h|h
  . rcases zzM.mp h with h|h
    . exact .inr<|hl b h
    . exact .inl<|.inl h
  . exact .inl<|.inr h⟩
 have kn:∀a,H a≠none->H' a≠none:=λa z=>by
  cases e:H a with
  |none=>exact absurd e z
  |some u=>rw[k a u e];simp
 refine⟨⟨R.len,R.out,R.nd,R.inj, ?_,λi a m z=>?_,λa z=>kn a<|R.ftr a z,λa z=>?_,λa z=>?_,λi s e=>(R.sl i s e).grow g λa _ u h=>k a u h⟩,g⟩
 . refine zxE.mpr ⟨hn,R.tnd,λa m b m' e=>?_⟩;subst e;exact(R.gtr a<|.inl m').1<|hl a m
 . rcases zzM.mp z with z|z
   . exact(R.gtr a<|.inr ⟨i,m⟩).1<|hl a z
   . exact R.dis i a m z
 . obtain⟨b1,b2,b3⟩:=R.btr a z;refine⟨kn a b1,b2,λy=>?_⟩
   rcases y with y|y
   . rcases zzM.mp y with y|y
     . exact b1<|hl a y
     . exact b3<|.inl y
   . exact b3<|.inr y
 . rcases z with z|z
   . rcases zzM.mp z with z|z
     . exact⟨h1 a z,λf=>R.ftr a f<|hl a z⟩
     . exact⟨kn a (R.gtr a<|.inl z).1,(R.gtr a<|.inl z).2⟩
   . exact⟨kn a (R.gtr a<|.inr z).1,(R.gtr a<|.inr z).2⟩
def Rel.more(R:Rel K kd F B T ad as σ H)(k:∀b u,H b=some u->H' b=some u):Rel K kd F B T ad as σ H'/\Grow (Gw T ad) H (Gw T ad) H':=
 R.add zyJ (λ_ m=>nomatch m) k (λ_ m=>nomatch m)
def Rel.news(R:Rel K kd F B [] ad as σ H)(hn:T'.Nodup)(hl:∀a ∈ T',H a=none)(k:∀b u,H b=some u->H' b=some u)(h1:∀a ∈ T',H' a≠none):Rel K kd F B T' ad as σ H'/\Grow (Gw [] ad) H (Gw T' ad) H':=by
 have:=R.add hn hl k h1;rw[zyE]at this;exact this
end
inductive R0 where
 |im (d:D)|fl (ds:List D)|fd (kvs:List (Key×D))
def RQ(K:zzA)(kd:KD)(O:Addr->Prop)(H:Hp)(Q:VK):R0->Prop
 | .im d=>∀v H',(∀b o,H b=some o->H' b=some o)->Rp K kd O H' v d->Q v H'
 | .fl ds=>∀l vs H',H l=none->(∀b o,H b=some o->H' b=some o)->H' l=some (.lst vs)->RpL K kd (QL O (· = l)) H' vs ds->Q (.ref l) H'
 | .fd ds=>∀l vs H',H l=none->(∀b o,H b=some o->H' b=some o)->H' l=some (.dK vs)->RpM K kd (QL O (· = l)) H' vs ds->Q (.ref l) H'
def wrap(lv:Option Bool):R0->Option RV
 | .im d=>if(zB d||lv.isSome)=true then some (.ow<|Iu (lv.getD false) d)else none
 | .fl ds=>if(ds.all zB||lv.isSome)=true then some (.ow<|.nd .ls<|ds.map<|Iu<|lv.getD false)else none
 | .fd kvs=>if((kvs.map (·.2)).all zB||lv.isSome)=true then some (.ow (.nd (.dc (kvs.map (·.1))) ((kvs.map (·.2)).map<|Iu<|lv.getD false)))else none
def bS_{α β:Type}{o}{f:α->Option β}{b}(h:o.bind f=some b):∃a,o=some a/\f a=some b:=by
 cases o with
 |none=>cases h
 |some a=>exact⟨a,rfl,h⟩
def ite_some'{α:Type}{c:Prop}[Decidable c]{a}{b:α}(h:(if c then a else none)=some b):c/\a=some b:=by
 by_cases hc:c
 . rw[if_pos hc]at h;exact⟨hc,h⟩
 . rw[if_neg hc]at h;cases h
def zv{α:Type}{c:Prop}[Decidable c]{a b:α}(h:(if c then some a else none)=some b):c/\a=b:=by
 by_cases hc:c
 . rw[if_pos hc]at h;cases h;exact⟨hc,rfl⟩
 . rw[if_neg hc]at h;cases h
section
variable{K:zzA}{kd:KD}{F B:Addr->Prop}{G:Addr->Prop}{ad:Ad}{as:AS}{σ:St}{H H':Hp}{v:V}{r:R0}{rv:RV}{Q:VK}{lv:Option Bool}
def p_(h:zB d=true\/lv.isSome=true)(hO:∀st,lv=some st->∀a,Lv F B G st a->Ob a)(rp:Rp K kd Ob H v d):Lf K kd F B G H (zB d||lv.getD false) v d:=by
 cases e:zB d with
 |true=>exact rp.flat e
 |false=>
  rw[e]at h;cases lv with
  |none=>rcases h with h|h<;>cases h
  |some st=>exact rp.less (hO st rfl)
def DQ(hO:∀st,lv=some st->∀a,Lv F B G st a->Ob a)(e:(ds.all zB||lv.isSome)=true)(h:RpL K kd Ob H vs ds):RoL (Lf K kd F B G H) N H vs (ds.map<|Iu<|lv.getD false) []:=
 RpL.ind (P:=λvs ds=>(ds.all zB||lv.isSome)=true->RoL _ N H vs (ds.map _) []) (λ_=>.nil) (λ{v d vs ds} h _ ih e=>by
  rw[List.all_cons]at e;have e1:zB d=true\/lv.isSome=true:=by
   cases h1:lv.isSome<;>cases h2:zB d<;>simp[h1,h2]at e ⊢
  have e2:(ds.all zB||lv.isSome)=true:=by
   cases h1:lv.isSome with
   |true=>simp
   |false=>
    rw[h1,Bool.or_false,zyC]at e;rw[Bool.or_false];exact e.2
  exact RoL.cons (.lf<|p_ e1 hO h)<|ih e2) h e
def Jc{O}(h:RpM K kd O H vs ds):vs=(ds.map (·.1)).zip (vs.map (·.2))/\RpL K kd O H (vs.map (·.2)) (ds.map (·.2)):=
 RpM.ind (P:=λvs ds=>vs=(ds.map (·.1)).zip (vs.map (·.2))/\RpL K kd O H (vs.map (·.2)) (ds.map (·.2))) ⟨rfl,.nil⟩ (λh _ ih=>by
  obtain⟨h1,h2⟩:=ih;refine⟨?_,.cons h h2⟩
  conv=>lhs;rw[h1]
  rfl) h
def YE(R:Rel K kd F B [] ad as σ H)(e:wrap lv r=some rv)(q:∀v T' H',Rel K kd F B T' ad as σ H'->xl K kd F B T' ad σ H' v rv->Grow (Gw [] ad) H (Gw T' ad) H'->Q v H'):RQ K kd (GK F B (Gw [] ad) lv) H Q r:=by
 have hO:∀(l:List Addr) st,lv=some st->∀a,Lv F B (Gw l ad) st a->QL (GK F B (Gw [] ad) lv) (· ∈ l) a:=by
  intro l st e a z;subst e
  rcases z with z|z|z
  . exact .inl<|.inl z
  . exact .inr z
  . exact .inl<|.inr<|.inr z
 cases r with
 |im d=>
  obtain⟨c,rfl⟩:=zv e;intro v H' k rp;obtain⟨R',g⟩:=R.more k;refine q v [] H' R' (.lf<|p_ ((Bool.or_eq_true _ _).mp c) (λst e a z=>?_) rp) g;exact(hO [] st e a z).elim id λm=>nomatch m
 |fl ds=>
  obtain⟨c,rfl⟩:=zv e;intro l vs H' hl k hl' rp;obtain⟨R',g⟩:=R.news (T':=[l]) (by simp) (λa m=>by rw[zzR.mp m];exact hl) k (λa m=>by rw[zzR.mp m,hl'];simp);exact q _ [l] H' R' (.ls hl'<|DQ (λst e a z=>(hO [l] st e a z).elim .inl λm=>.inr<|zzR.mp m) c rp) g
 |fd ds=>
  obtain⟨c,rfl⟩:=zv e;intro l vs H' hl k hl' rp;obtain⟨R',g⟩:=R.news (T':=[l]) (by simp) (λa m=>by rw[zzR.mp m];exact hl) k (λa m=>by rw[zzR.mp m,hl'];simp);obtain⟨e1,r1⟩:=Jc rp;refine q _ [l] H' R' (.dc (by rw[hl',<-e1]) (by rw[zzB,zzB,rp.length])<|DQ (λst e a z=>(hO [l] st e a z).elim .inl λm=>.inr<|zzR.mp m) c r1) g
end
abbrev EF:=AS->Option (RV×AS)
def al(K:zzA)(kd:KD)(f:EF):TE:=λσ H Q=>∃F B ad as r as',Rel K kd F B [] ad as σ H/\f as=some (r,as')/\
 ∀v T' ad' H',Rel K kd F B T' ad' as' σ H'->xl K kd F B T' ad' σ H' v r->Grow (Gw [] ad) H (Gw T' ad') H'->Q v H'
@[irreducible] def AE(X:Cx)(kd:KD)(e:Expr)(f:EF):Prop:=PE X e<|al X.K kd f
def yn(h:PE X e t)(k:∀σ H Q,t' σ H Q->t σ H Q):PE X e t':=λpins s σ H Q I q=>h pins s σ H Q I<|k σ H Q q
section
variable{K:zzA}{kd:KD}{F B:Addr->Prop}{ad:Ad}{as as1:AS}{σ:St}{H:Hp}{r:RV}{f:EF}{P:VK}
def vU(R:Rel K kd F B [] ad as σ H)(e:f as=some (r,as1))(k:∀v ad1 H1,Rel K kd F B [] ad1 as1 σ H1->xl K kd F B [] ad1 σ H1 v r.frz->Grow (Gw [] ad) H (Gw [] ad1) H1->P v H1):al K kd f σ H P:=
 ⟨F,B,ad,as,r,as1,R,e,λv T' ad' H' R' rv g=>k v ad' H' R'.drop (xl.drop R' rv)<|g.trans<|Grow.less Gw.drop⟩
end
def nK(X:Cx)(kd:KD)(f:Value->Value->Sem Value)(g:D->D->Option R0):Prop:=
 Gf X f (λx y H Q=>∃O d e r,(∀a,O a->H a≠none)/\Vw X.K kd O H x d/\Vw X.K kd O H y e/\g d e=some r/\RQ X.K kd O H Q r)
def cM(X:Cx)(kd:KD)(f:Value->Sem Value)(g:D->Option R0):Prop:=
 fD X f (λx H Q=>∃O d r,(∀a,O a->H a≠none)/\Vw X.K kd O H x d/\g d=some r/\RQ X.K kd O H Q r)
inductive VwL(K:zzA)(kd:KD)(O:Addr->Prop)(H:Hp):List V->List D->Prop
 |nil:VwL K kd O H [] []
 |cons {v:V}{d:D}{vs:List V}{ds:List D}:Vw K kd O H v d->VwL K kd O H vs ds->VwL K kd O H (v::vs) (d::ds)
def XB(X:Cx)(kd:KD)(f:Value)(g:List D->Option R0):Prop:=
 Wh X f (λxs H Q=>∃O ds r,(∀a,O a->H a≠none)/\VwL X.K kd O H xs ds/\g ds=some r/\RQ X.K kd O H Q r)
def d8(X:Cx)(kd:KD)(g:D->D->Option R0):Prop:=
 iM X (λx y H Q=>∃O d e r,(∀a,O a->H a≠none)/\Vw X.K kd O H x d/\Vw X.K kd O H y e/\g d e=some r/\RQ X.K kd O H Q r)
noncomputable def meet:Option Bool->Option Bool->Option Bool
 |some a,some b=>some (a&&b)
 |_,_=>none
def GK.meet1:∀x,GK F B G (meet a b) x->GK F B G a x:=λx h=>by
 cases a with
 |none=>cases b<;>exact h.elim
 |some p=>
  cases b with
  |none=>exact h.elim
  |some q=>exact Th (λz=>((zyC _ _).mp z).1) x h
def GK.meet2:∀x,GK F B G (meet a b) x->GK F B G b x:=λx h=>by
 cases a with
 |none=>cases b<;>exact h.elim
 |some p=>
  cases b with
  |none=>exact h.elim
  |some q=>exact Th (λz=>((zyC _ _).mp z).2) x h
theorem Vw.less{K O O'}(g:∀a,O' a->O a)(h:Vw K kd O H v d):Vw K kd O' H v d:=by
 cases h with
 |non=>exact .non
 |bl b=>exact .bl b
 |int i=>exact .int i
 |str x=>exact .str x
 |tup r s l=>exact .tup (r.less g) s (l.less g)
 |lst h l=>exact .lst h (l.less g)
 |dct h l=>exact .dct h (l.less g)
 |cl c=>exact .cl c
 |ob h k l=>exact .ob h k (l.less g)
def f2(fa fb:EF)(g:D->D->Option R0):EF:=λas=>(fa as).bind λp=>(fb p.2).bind λq=>(p.1.frz.view q.2).bind λx=>(q.1.frz.view q.2).bind λy=>(g x.1 y.1).bind λr=>(wrap (meet x.2 y.2) r).bind λz=>some (z,q.2)
def CL{fa fb}{as as':AS}(h:f2 fa fb g as=some (rv,as')):
 ∃p as1 q x y lx ly r,fa as=some (p,as1)/\fb as1=some (q,as')/\p.frz.view as'=some (x,lx)/\q.frz.view as'=some (y,ly)/\g x y=some r/\wrap (meet lx ly) r=some rv:=by
 unfold f2 at h;obtain⟨⟨p,as1⟩,h1,h⟩:=bS_ h;obtain⟨⟨q,as2⟩,h2,h⟩:=bS_ h;obtain⟨⟨x,lx⟩,h3,h⟩:=bS_ h;obtain⟨⟨y,ly⟩,h4,h⟩:=bS_ h;obtain⟨r,h5,h⟩:=bS_ h;obtain⟨z,h6,h⟩:=bS_ h;cases h;exact⟨p,as1,q,x,y,lx,ly,r,h1,h2,h3,h4,h5,h6⟩
section
variable{X:Cx}{kd:KD}{a b c:Expr}{fa fb fc:EF}{pos:Pos}
def fL(hr:∀x y H Q,(∃O d e r,(∀a,O a->H a≠none)/\Vw X.K kd O H x d/\Vw X.K kd O H y e/\g d e=some r/\RQ X.K kd O H Q r)->R2' x y H Q)
 (h:al X.K kd (f2 fa fb g) σ H Q):ic R2' (al X.K kd fa) (al X.K kd fb) σ H Q:=by
 obtain⟨F,B,ad,as,r,as',R,e,q⟩:=h;obtain⟨p,as1,z,x,y,lx,ly,r0,h1,h2,h3,h4,h5,h6⟩:=CL e;refine vU R h1 λv ad1 H1 R1 rv1 g1=>vU R1 h2 λu ad2 H2 R2 rv2 g2=>hr _ _ _ _ ?_;exact⟨_,x,y,r0,R2.tr _,(xl.vw R2 (rv1.grow g2) h3).less GK.meet1,(xl.vw R2 rv2 h4).less GK.meet2,h5,YE R2 h6 λw T' H' R' rv' g'=>q w T' ad2 H' R' rv'<|(g1.trans g2).trans g'⟩
def lL(ho:nK X kd (binaryOp op) g)(ha:AE X kd a fa)(hb':AE X kd b fb):AE X kd (.BinOp a op b pos) (f2 fa fb g):=by with_unfolding_all exact(yn (gO ho ha hb') λσ H Q h=>fL (λ_ _ _ _ z=>z) h)
def ni(ho:nK X kd (compareOp op) g)(ha:AE X kd a fa)(hb':AE X kd b fb)(hm:behindInMarks op b=false):AE X kd (.Compare a [op] [b] pos) (f2 fa fb g):=by with_unfolding_all exact(yn (rk ho ha hb' hm) λσ H Q h=>fL (λ_ _ _ _ z=>z) h)
def gx(ho:d8 X kd g)(ha:AE X kd a fa)(hb':AE X kd b fb)(hm:FY b):AE X kd (.Subscript a b pos) (f2 fa fb g):=by with_unfolding_all exact(yn (gS ho ha hb' hm) λσ H Q h=>fL (λ_ _ _ _ z=>z) h)
noncomputable def fC(d:D):EF:=λas=>some (.ow<|.lf true d,as)
noncomputable def fV(i:Nat):EF:=λas=>match as[i]? with
 |some (some (.lf st d))=>some (.ow<|.lf st d,as)
 |some (some (.nd _ _))=>some (.bo i,as)
 |_=>none
def Lw(h:PE X a (tC v))(hr:∀O H,Rp X.K kd O H v d):AE X kd a (fC d):=by with_unfolding_all exact(yn h λσ H Q h=>by
 obtain⟨F,B,ad,as,r,as',R,e,q⟩:=h;cases e;exact q v [] ad H R (.lf<|hr _ _) Grow.refl)
def n_{i:Nat}(h:PE X a (Ry i)):AE X kd a (fV i):=by with_unfolding_all exact(yn h λσ H Q h=>by
 obtain⟨F,B,ad,as,r,as',R,e,q⟩:=h;unfold fV at e;cases k:as[i]? with
 |none=>rw[k]at e;cases e
 |some s=>
  rw[k]at e;cases s with
  |none=>cases e
  |some o=>
   obtain⟨v,h1,h2⟩:=R.sl i _ k;cases o with
   |lf st d=>
    cases e;have e0:ad i=[]:=by
     generalize hfp:ad i=fp at h2;cases h2;rfl
    rw[e0]at h2;exact⟨v,h1,q v [] ad H R h2 Grow.refl⟩
   |nd kk os=>
    cases e;exact⟨_,h1,q _ [] ad H R ⟨rfl,h1⟩ Grow.refl⟩)
end
def Yk(ad:Ad)(i:Nat)(x:List Addr):Ad:=λj=>if j=i then x else ad j
section
variable{K:zzA}{kd:KD}{F B:Addr->Prop}{T T1 T2:List Addr}{ad ad1:Ad}{as as1:AS}{σ:St}{H H1:Hp}{v:V}{r:RV}{o:O}{i:Nat}
def zX:Yk ad i x i=x:=if_pos rfl
def yb{j:Nat}(h:j≠i):Yk ad i x j=ad j:=if_neg h
def YG:∀a,Gw T (Yk ad i []) a->Gw T ad a:=λa h=>by
 rcases h with h|⟨j,h⟩
 . exact .inl h
 . by_cases e:j=i
   . subst e;rw[zX]at h;cases h
   . rw[yb e]at h;exact .inr ⟨j,h⟩
def Ws:∀a,Gw [] (Yk ad i T) a->Gw T ad a:=λa h=>by
 rcases h with h|⟨j,h⟩
 . cases h
 . by_cases e:j=i
   . subst e;rw[zX]at h;exact .inl h
   . rw[yb e]at h;exact .inr ⟨j,h⟩
def IB:∀st a,Lv F (λa=>B a\/a ∈ T) (Gw [] ad) st a->Lv F B (Gw T ad) st a:=λst a z=>by
 rcases z with(z|z|z)|z
 . exact .inl<|.inl z
 . exact .inl<|.inr z
 . exact .inr<|.inl z
 . exact .inr<|Gw.drop a z
def Gj:∀st a,Lv F B (Gw (T1++T2) ad) st a->Lv F (λa=>B a\/a ∈ T1) (Gw T2 ad) st a:=λst a z=>by
 rcases z with(z|z)|z|z
 . exact .inl<|.inl z
 . exact .inl<|.inr<|.inl z
 . rcases zzM.mp z with z|z
   . exact .inl<|.inr<|.inr z
   . exact .inr<|.inl z
 . exact .inr<|.inr z
def Rel.hide(R:Rel K kd F B T ad as σ H):Rel K kd F (λa=>B a\/a ∈ T) [] ad as σ H where
 len:=R.len
 out:=R.out
 nd:=R.nd
 inj:=R.inj
 tnd:=zyJ
 dis:=λ_ _ _ z=>nomatch z
 ftr:=R.ftr
 btr:=λa h=>by
  rcases h with h|h
  . obtain⟨h1,h2,h3⟩:=R.btr a h;exact⟨h1,h2,λz=>h3<|Gw.drop a z⟩
  . exact⟨(R.gtr a<|.inl h).1,(R.gtr a<|.inl h).2,λz=>z.elim (λm=>nomatch m) λ⟨j,y⟩=>R.dis j a y h⟩
 gtr:=λa h=>R.gtr a (Gw.drop a h)
 sl:=λi s e=>(R.sl i s e).lv IB
def Rel.unhide(hn:T1.Nodup)(hb:∀a ∈ T1,¬B a)(R:Rel K kd F (λa=>B a\/a ∈ T1) T2 ad as σ H):Rel K kd F B (T1++T2) ad as σ H where
 len:=R.len
 out:=R.out
 nd:=R.nd
 inj:=R.inj
 tnd:=zxE.mpr ⟨hn,R.tnd,λa m b m' e=>by subst e;exact(R.btr a<|.inr m).2.2<|.inl m'⟩
 dis:=λi a m z=>by
  rcases zzM.mp z with z|z
  . exact(R.btr a<|.inr z).2.2<|.inr ⟨i,m⟩
  . exact R.dis i a m z
 ftr:=R.ftr
 btr:=λa h=>by
  obtain⟨h1,h2,h3⟩:=R.btr a<|.inl h;refine⟨h1,h2,λz=>?_⟩
  rcases z with z|z
  . rcases zzM.mp z with z|z
    . exact hb a z h
    . exact h3<|.inl z
  . exact h3 (.inr z)
 gtr:=λa h=>by
  rcases h with h|h
  . rcases zzM.mp h with h|h
    . exact⟨(R.btr a<|.inr h).1,(R.btr a<|.inr h).2.1⟩
    . exact R.gtr a<|.inl h
  . exact R.gtr a (.inr h)
 sl:=λi s e=>(R.sl i s e).lv Gj
theorem Rel.frz(R:Rel K kd F B T ad as σ H)(h:as[i]? = some (some o)):
 Rel K kd F B T (Yk ad i []) (as.set i<|some o.frz) σ H/\∃v,σ[i]? = some (some v)/\Rp K kd (Lv F B (Gw T<|Yk ad i []) o.str) H v o.toD:=by
 obtain⟨v,hv,ro⟩:=R.sl i _ h;have rp:Rp K kd (Lv F B (Gw T<|Yk ad i []) o.str) H v o.toD:=
  Ro.rp o.str (λst v d hs r=>r.less λa z=>z.elim (λy=>.inl<|y.elim (λx=>.inl ⟨hs x.1,x.2⟩) .inr) λy=>.inr<|YG a y)
   (λa n z=>n<|z.elim (λy=>.inl<|y.elim (λx=>.inl ⟨rfl,x.2⟩) .inr) λy=>.inr<|YG a y) id
   (λa m z=>by
    rcases z with(z|z)|z|⟨j,z⟩
    . exact(R.gtr a<|.inr ⟨i,m⟩).2 z.2
    . exact(R.btr a z).2.2<|.inr ⟨i,m⟩
    . exact R.dis i a m z
    . by_cases e:j=i
      . subst e;rw[zX]at z;cases z
      . rw[yb e]at z;exact e<|R.inj j i a z m) ro
 have hi:=(zzG.mp h).1;refine⟨⟨by rw[zzU];exact R.len,λj hj=>?_,λj=>?_,λj k a h1 h2=>?_,R.tnd,λj a h1=>?_,R.ftr,λa h1=>?_,λa h1=>R.gtr a<|YG a h1,λj s e=>?_⟩,v,hv,rp⟩
 . rw[zzU]at hj;rw[yb<|q0x hi hj];exact R.out j hj
 . by_cases e:j=i
   . subst e;rw[zX];exact zyJ
   . rw[yb e];exact R.nd j
 . by_cases e:j=i
   . subst e;rw[zX]at h1;cases h1
   . by_cases e':k=i
     . subst e';rw[zX]at h2;cases h2
     . rw[yb e]at h1;rw[yb e']at h2;exact R.inj j k a h1 h2
 . by_cases e:j=i
   . subst e;rw[zX]at h1;cases h1
   . rw[yb e]at h1;exact R.dis j a h1
 . obtain⟨b1,b2,b3⟩:=R.btr a h1;exact⟨b1,b2,λz=>b3<|YG a z⟩
 . by_cases q:j=i
   . subst q;rw[zyK hi]at e;cases e;rw[zX];exact⟨v,hv,.lf rp⟩
   . rw[zzY<|Ne.symm q]at e;rw[yb q];exact(R.sl j s e).less YG
def Rel.put(R:Rel K kd F B T ad as σ H)(hi:i<as.length)(h:Xj K kd F B (Gw T ad) H v o T):Rel K kd F B [] (Yk ad i T) (as.set i<|some o) (σ.set i<|some v) H:=by
 have hi':i<σ.length:=by rw[<-R.len];exact hi
 refine⟨by rw[zzU,zzU];exact R.len,λj hj=>?_,λj=>?_,λj k a h1 h2=>?_,zyJ,(λ_ _ _ z=>nomatch z),R.ftr,λa h1=>?_,λa h1=>R.gtr a<|Ws a h1,λj s e=>?_⟩
 . rw[zzU]at hj;rw[yb<|q0x hi hj];exact R.out j hj
 . by_cases e:j=i
   . subst e;rw[zX];exact R.tnd
   . rw[yb e];exact R.nd j
 . by_cases e:j=i
   . subst e;rw[zX]at h1
     by_cases e':k=j
     . exact e'.symm
     . rw[yb e']at h2;exact(R.dis k a h2 h1).elim
   . rw[yb e]at h1
     by_cases e':k=i
     . subst e';rw[zX]at h2;exact(R.dis j a h1 h2).elim
     . rw[yb e']at h2;exact R.inj j k a h1 h2
 . obtain⟨b1,b2,b3⟩:=R.btr a h1;exact⟨b1,b2,λz=>b3<|Ws a z⟩
 . by_cases q:j=i
   . subst q;rw[zyK hi]at e;cases e;rw[zX,zyK hi'];exact⟨v,rfl,h.less Ws⟩
   . rw[zzY<|Ne.symm q]at e;rw[yb q,zzY<|Ne.symm q];exact(R.sl j s e).less Ws
noncomputable def sH(as:AS):RV->Option (O×AS)
 | .ow o=>some (o,as)
 | .bo i=>match as[i]? with
  |some (some o)=>some (o.frz,as.set i<|some o.frz)
  |_=>none
def NT(R:Rel K kd F B T ad as σ H)(h:xl K kd F B T ad σ H v r)(e:sH as r=some (o,as')):∃ad',Rel K kd F B T ad' as' σ H/\Xj K kd F B (Gw T ad') H v o T/\∀a,Gw T ad' a->Gw T ad a:=by
 cases r with
 |ow o'=>cases e;exact⟨ad,R,h,λ_ z=>z⟩
 |bo i=>
  have e:(match as[i]? with|some (some o)=>some _|_=>none)=some (o,as'):=e;cases k:as[i]? with
  |none=>rw[k]at e;cases e
  |some s=>
   cases s with
   |none=>rw[k]at e;cases e
   |some o1=>
    rw[k]at e;cases e;obtain⟨hT,hs⟩:=h;subst hT;obtain⟨R',w,hw,rp⟩:=R.frz k;rw[hs]at hw;cases hw;exact⟨_,R',.lf rp,YG⟩
end
abbrev TF:=AS->Option (Bool×AS)
def qi(K:zzA)(kd:KD)(f:TF):TT:=λσ H Q=>∃F B ad as b as',Rel K kd F B [] ad as σ H/\f as=some (b,as')/\
 ∀ad' H',Rel K kd F B [] ad' as' σ H'->Grow (Gw [] ad) H (Gw [] ad') H'->Q b H'
@[irreducible] def AT(X:Cx)(kd:KD)(e:Expr)(f:TF):Prop:=PT X e<|qi X.K kd f
@[irreducible] def AW(X:Cx)(kd:KD)(e:Expr)(f:TF):Prop:=PW X e<|qi X.K kd f
noncomputable def truth:D->Option Bool
 | .non=>some false
 | .bl b=>some b
 | .int i=>some<|i != 0
 | .str x=>if x.length<=sizeLine then some ((x.length:Int) != 0)else none
 | .tup ds=>some<|!ds.isEmpty
 | .lst ds=>some (!ds.isEmpty)
 |_=>none
def fT(f:EF):TF:=λas=>(f as).bind λp=>(p.1.frz.view p.2).bind λx=>(truth x.1).bind λb=>some (b,p.2)
noncomputable def SB(f g:TF):TF:=λas=>(f as).bind λp=>if p.1=true then g p.2 else some (false,p.2)
def Br(f g:TF):TF:=λas=>(f as).bind λp=>if p.1=true then some (true,p.2)else g p.2
noncomputable def YY(f:TF):TF:=λas=>(f as).bind λp=>some (!p.1,p.2)
def Iq(c:TF)(f g:EF):EF:=λas=>(c as).bind λp=>if p.1=true then f p.2 else g p.2
noncomputable def CN:D->Option Int
 | .int i=>some i
 |_=>none
def cu:D->Option Str
 | .str i=>some i
 |_=>none
noncomputable def nM:D->Option (List D)
 | .lst i=>some i
 |_=>none
def eg:D->Option (List D)
 | .tup i=>some i
 |_=>none
def TX(e:nM d=some i):d = .lst i:=by
 cases d with
 |lst j=>cases e;rfl
 |_=>cases e
def DO(e:eg d=some i):d = .tup i:=by
 cases d with
 |tup j=>cases e;rfl
 |_=>cases e
def uc(h:CN d=some c):d = .int c:=by
 cases d with
 |int i=>cases h;rfl
 |_=>cases h
def cV:D->Option Bool
 | .bl i=>some i
 |_=>none
def mB(h:cV d=some c):d = .bl c:=by
 cases d with
 |bl i=>cases h;rfl
 |_=>cases h
noncomputable def fY:RV->Option D
 | .ow (.lf _ d)=>some d
 |_=>none
def uS(h:fY r=some d):∃st,r = .ow (.lf st d):=by
 cases r with
 |bo i=>cases h
 |ow o=>
  cases o with
  |nd k os=>cases h
  |lf st d=>cases h;exact⟨st,rfl⟩
def dJ(r:RV):Option Bool:=(fY r).bind cV
def uy(h:dJ r=some c):∃st,r = .ow (.lf st<|.bl c):=by
 obtain⟨d,h1,h⟩:=bS_ h;cases mB h;exact uS h1
def cC(r:RV):Option Int:=(fY r).bind CN
def oG(h:cC r=some c):∃st,r = .ow (.lf st<|.int c):=by
 obtain⟨d,h1,h⟩:=bS_ h;cases uc h;exact uS h1
noncomputable def oF{α:Type}:List α->Option (α×α)
 | [a,b]=>some (a,b)
 |_=>none
def FH{α:Type}{os}{p:α×α}(h:oF os=some p):os=[p.1,p.2]:=by
 cases os with
 |nil=>cases h
 |cons x r=>
  cases r with
  |nil=>cases h
  |cons y r=>
   cases r with
   |nil=>cases h;rfl
   |cons _ _=>cases h
def fB(r:RV):Option (Bool×List D):=match r with
 | .ow (.lf s d)=>(nM d).bind λl=>some (s,l)
 |_=>none
def OZ(h:fB r=some p):r = .ow (.lf p.1<|.lst p.2):=by
 cases r with
 |bo i=>cases h
 |ow o=>
  cases o with
  |nd k os=>cases h
  |lf st d=>
   obtain⟨l,h1,h⟩:=bS_<|h;cases h;cases TX h1;rfl
def NS(f g:EF):EF:=λas=>(f as).bind λp=>(dJ p.1).bind λc=>if c=true then g p.2 else some (.ow<|.lf true<|.bl false,p.2)
def IP(f:EF):EF:=λas=>(f as).bind λp=>(dJ p.1).bind λc=>some (.ow<|.lf true<|.bl<|!c,p.2)
def f1(fa:EF)(g:D->Option R0):EF:=λas=>(fa as).bind λp=>(p.1.frz.view p.2).bind λx=>(g x.1).bind λr=>(wrap x.2 r).bind λz=>some (z,p.2)
section
variable{X:Cx}{kd:KD}{a b c:Expr}{fa fb:EF}{ta tb:TF}{pos:Pos}{es rest:List Expr}
def OU(h:PT X e t)(k:∀σ H Q,t' σ H Q->t σ H Q):PT X e t':=λpins s σ H Q I q=>h pins s σ H Q I<|k σ H Q q
def DZ(h:PW X e t)(k:∀σ H Q,t' σ H Q->t σ H Q):PW X e t':=λw pins s σ H Q I q=>h w pins s σ H Q I<|k σ H Q q
def nH{O}(h:Vw X.K kd O H v d)(e:truth d=some k):lB X.K v H k:=by
 cases h with
 |non=>cases e;rfl
 |bl b=>cases e;rfl
 |int i=>cases e;rfl
 |str x=>
  have e:(if x.length<=sizeLine then some _ else none)=some k:=e
  by_cases hl:x.length<=sizeLine
  . rw[if_pos hl]at e;cases e;exact⟨hl,rfl⟩
  . rw[if_neg hl]at e;cases e
 |tup r hs hr=>
  cases e;refine .inr<|.inl ⟨_,hs, ?_⟩;cases hr<;>rfl
 |lst hs hr=>
  cases e;refine .inl ⟨_,hs.sq, ?_⟩;cases hr<;>rfl
 |dct=>cases e
 |cl=>cases e
 |ob=>cases e
def Bh(ha:AE X kd a fa)(he:∀whole,isTrue a X.env whole=(do let v <-whole;standAt a.pos;holding [v] (truthy v))):AT X kd a (fT fa):=by with_unfolding_all exact(OU (DH ha he) λσ H Q h=>by
 obtain⟨F,B,ad,as,bb,as',R,e,q⟩:=h;obtain⟨⟨p,as1⟩,h1,e⟩:=bS_<|e;obtain⟨⟨d,lv⟩,h2,e⟩:=bS_ e;obtain⟨k,h3,e⟩:=bS_ e;cases e;exact vU R h1 λv ad1 H1 R1 rv1 g1=>⟨_,nH (xl.vw R1 rv1 h2) h3,q ad1 H1 R1 g1⟩)
def o6(ho:nK X kd (compareOp op) g)(hg:∀x y r,g x y=some r->∃k,r = .im (.bl k))(ha:AE X kd a fa)(hb:AE X kd b fb)(hm:behindInMarks op b=false):
 AT X kd (.Compare a [op] [b] pos) (fT<|f2 fa fb g):=by with_unfolding_all exact(OU (qj ho ha hb hm) λσ H Q h=>by
 obtain⟨F,B,ad,as,bb,as',R,e,q⟩:=h;obtain⟨⟨p,as1⟩,h1,e⟩:=bS_<|e;obtain⟨⟨d,lv⟩,h2,e⟩:=bS_ e;obtain⟨k,h3,e⟩:=bS_ e;cases e;obtain⟨_,_,_,x,y,_,_,r0,_,_,_,_,hp,hw⟩:=CL h1;obtain⟨k',rfl⟩:=hg _ _ _ hp;cases hw;cases h2;cases h3;refine fL (λ_ _ _ _ z=>z) ⟨F,B,ad,as,_,_,R,h1,λv T' ad' H' R' rv g'=>?_⟩;generalize hT:T'=T2 at rv R' g';cases rv with
 |lf rp=>
  cases rp;exact⟨_,rfl,q ad' H' R' g'⟩)
def OK(ha:AT X kd a ta):AT X kd (.UnaryOp .Not a pos) (YY ta):=by with_unfolding_all exact(OU (mS ha) λσ H Q h=>by
 obtain⟨F,B,ad,as,bb,as',R,e,q⟩:=h;obtain⟨⟨p,as1⟩,h1,e⟩:=bS_<|e;cases e;exact⟨F,B,ad,as,p,_,R,h1,λad' H' R' g=>q ad' H' R' g⟩)
def Oz(ha:AT X kd a ta):AW X kd (.BoolOp .And [a] pos) ta:=by with_unfolding_all exact(rR ha)
def JO(ha:AT X kd a ta):AW X kd (.BoolOp .Or [a] pos) ta:=by with_unfolding_all exact(ou ha)
def nV(ha:AT X kd a ta)(hb:AW X kd (.BoolOp .And (b::rest) pos) tb):AW X kd (.BoolOp .And (a::b::rest) pos) (SB ta tb):=by with_unfolding_all exact(DZ (mM ha hb) λσ H Q h=>by
 obtain⟨F,B,ad,as,bb,as',R,e,q⟩:=h;obtain⟨⟨p,as1⟩,h1,e⟩:=bS_<|e;refine⟨F,B,ad,as,p,as1,R,h1,λad' H' R' g=>?_⟩;cases p with
 |true=>exact⟨F,B,ad',as1,bb,as',R',e,λad2 H2 R2 g2=>q ad2 H2 R2<|g.trans g2⟩
 |false=>cases e;exact q ad' H' R' g)
def ji(ha:AT X kd a ta)(hb:AW X kd (.BoolOp .Or (b::rest) pos) tb):AW X kd (.BoolOp .Or (a::b::rest) pos) (Br ta tb):=by with_unfolding_all exact(DZ (gK ha hb) λσ H Q h=>by
 obtain⟨F,B,ad,as,bb,as',R,e,q⟩:=h;obtain⟨⟨p,as1⟩,h1,e⟩:=bS_<|e;refine⟨F,B,ad,as,p,as1,R,h1,λad' H' R' g=>?_⟩;cases p with
 |false=>exact⟨F,B,ad',as1,bb,as',R',e,λad2 H2 R2 g2=>q ad2 H2 R2<|g.trans g2⟩
 |true=>cases e;exact q ad' H' R' g)
def AW.at_(h:AW X kd e ta):AT X kd e ta:=by with_unfolding_all exact(PW.pt h)
def Sd(hc:AT X kd c ta)(ha:AE X kd a fa)(hb:AE X kd b fb):AE X kd (.IfExp c a b pos) (Iq ta fa fb):=by with_unfolding_all exact(yn (Aa hc ha hb) λσ H Q h=>by
 obtain⟨F,B,ad,as,r,as',R,e,q⟩:=h;obtain⟨⟨p,as1⟩,h1,e⟩:=bS_<|e;refine⟨F,B,ad,as,p,as1,R,h1,λad' H' R' g=>?_⟩;cases p with
 |true=>exact⟨F,B,ad',as1,r,as',R',e,λv T2 ad2 H2 R2 rv g2=>q v T2 ad2 H2 R2 rv<|g.trans g2⟩
 |false=>exact⟨F,B,ad',as1,r,as',R',e,λv T2 ad2 H2 R2 rv g2=>q v T2 ad2 H2 R2 rv<|g.trans g2⟩)
def og{K ad st c}(h:xl K kd F B T ad σ H v (.ow<|.lf st<|.bl c)):T=[]/\v = .bl c:=by
 have h:=h;generalize hT:Gw T ad=G at h;cases h with
 |lf rp=>cases rp;exact⟨rfl,rfl⟩
def DX(ha:AE X kd a fa):AE X kd (.BoolOp op [a] pos) fa:=by with_unfolding_all exact(md ha)
def A1(ha:AE X kd a fa)(hb:AE X kd (.BoolOp .And (b::rest) pos) fb):AE X kd (.BoolOp .And (a::b::rest) pos) (NS fa fb):=by with_unfolding_all exact(yn (oY ha hb) λσ H Q h=>by
 obtain⟨F,B,ad,as,r,as',R,e,q⟩:=h;obtain⟨⟨p,as1⟩,h1,e⟩:=bS_<|e;refine⟨F,B,ad,as,p,as1,R,h1,λv T' ad' H' R' rv g=>?_⟩;obtain⟨k,e1,e⟩:=bS_ e;obtain⟨st,rfl⟩:=uy e1;obtain⟨rfl,rfl⟩:=og rv;cases k with
 |true=>exact⟨true,rfl,⟨F,B,ad',as1,r,as',R',e,λv T2 ad2 H2 R2 rv g2=>q v T2 ad2 H2 R2 rv<|g.trans g2⟩⟩
 |false=>
  cases e;exact⟨false,rfl,q _ [] ad' H' R' (.lf<|.bl false) g⟩)
def nF(ha:AE X kd a fa):AE X kd (.UnaryOp .Not a pos) (IP fa):=by with_unfolding_all exact(yn (m9 ha) λσ H Q h=>by
 obtain⟨F,B,ad,as,r,as',R,e,q⟩:=h;obtain⟨⟨p,as1⟩,h1,e⟩:=bS_<|e;refine⟨F,B,ad,as,p,as1,R,h1,λv T' ad' H' R' rv g=>?_⟩;obtain⟨k,e1,e⟩:=bS_ e;obtain⟨st,rfl⟩:=uy e1;obtain⟨rfl,rfl⟩:=og rv;cases e;exact⟨k,rfl,q _ [] ad' H' R' (.lf<|.bl _) g⟩)
def iF(ho:cM X kd (unaryOp op) g)(ha:AE X kd a fa):AE X kd (.UnaryOp op a pos) (f1 fa g):=by with_unfolding_all exact(yn (gR ho ha) λσ H Q h=>by
 obtain⟨F,B,ad,as,r,as',R,e,q⟩:=h;obtain⟨⟨p,as1⟩,h1,e⟩:=bS_<|e;obtain⟨⟨x,lv⟩,h2,e⟩:=bS_ e;obtain⟨z,h3,e⟩:=bS_ e;obtain⟨y,h4,e⟩:=bS_ e;cases e;refine vU R h1 λv ad1 H1 R1 rv1 g1=>⟨_,x,z,R1.tr _,xl.vw R1 rv1 h2,h3,YE R1 h4 λw T' H' R' rv' g'=>q w T' ad1 H' R' rv'<|g1.trans g'⟩)
end
abbrev AF:=AS->Option (List RV×AS)
inductive RVs(K:zzA)(kd:KD)(F B:Addr->Prop)(ad:Ad)(σ:St)(H:Hp):List V->List RV->Prop
 |nil:RVs K kd F B ad σ H [] []
 |cons {v:V}{r:RV}{vs:List V}{rs:List RV}:xl K kd F B [] ad σ H v r->RVs K kd F B ad σ H vs rs->RVs K kd F B ad σ H (v::vs) (r::rs)
def pR(K:zzA)(kd:KD)(f:AF):TA:=λσ H Q=>∃F B ad as rs as',Rel K kd F B [] ad as σ H/\f as=some (rs,as')/\
 ∀vs ad' H',Rel K kd F B [] ad' as' σ H'->RVs K kd F B ad' σ H' vs rs->Grow (Gw [] ad) H (Gw [] ad') H'->Q vs H'
@[irreducible] def AA(X:Cx)(kd:KD)(es:List Expr)(f:AF):Prop:=PA X es<|pR X.K kd f
def aN:AF:=λas=>some ([],as)
noncomputable def aC(fa:EF)(fr:AF):AF:=λas=>(fa as).bind λp=>(fr p.2).bind λq=>some (p.1.frz::q.1,q.2)
def BM(h:PA X e t)(k:∀σ H Q,t' σ H Q->t σ H Q):PA X e t':=λpos pins s σ H Q I q=>h pos pins s σ H Q I<|k σ H Q q
abbrev DF:=AS->Option (List O×AS)
def bt(K:zzA)(kd:KD)(f:DF):TA:=λσ H Q=>∃F B ad as os as',Rel K kd F B [] ad as σ H/\f as=some (os,as')/\
 ∀vs T' ad' H',Rel K kd F B T' ad' as' σ H'->Za K kd F B (Gw T' ad') H' vs os T'->Grow (Gw [] ad) H (Gw T' ad') H'->Q vs H'
@[irreducible] def AD(X:Cx)(kd:KD)(es:List Expr)(f:DF):Prop:=PA X es<|bt X.K kd f
def dN:DF:=λas=>some ([],as)
def dC(fa:EF)(fr:DF):DF:=λas=>(fa as).bind λp=>(sH p.2 p.1).bind λx=>(fr x.2).bind λq=>some (x.1::q.1,q.2)
def views(as:AS):List RV->Option (List D×Option Bool)
 | []=>some ([],some true)
 |r::rs=>(r.view as).bind λx=>(views as rs).bind λy=>some (x.1::y.1,meet x.2 y.2)
def fP(fr:AF)(g:List D->Option R0):EF:=λas=>(fr as).bind λp=>(views p.2 p.1).bind λx=>(g x.1).bind λr=>(wrap x.2 r).bind λz=>some (z,p.2)
def ik(as:AS):RV->Option (Bool×D)
 | .ow o=>some (zB o.toD||o.str,o.toD)
 | .bo i=>match as[i]? with
  |some (some o)=>some (false,o.toD)
  |_=>none
def XW(as:AS):List RV->Option (List<|Bool×D)
 | []=>some []
 |r::rs=>(ik as r).bind λx=>(XW as rs).bind λy=>some (x::y)
def zj(fr:AF)(g:List (Bool×D)->Option O):EF:=λas=>(fr as).bind λp=>(XW p.2 p.1).bind λx=>(g x).bind λo=>some (.ow o,p.2)
def eI(K:zzA)(kd:KD)(F:Addr->Prop)(H:Hp)(Q:VK)(o:O):Prop:=
 ∀v T H',T.Nodup->(∀a ∈ T,H a=none)->(∀b u,H b=some u->H' b=some u)->(∀a ∈ T,H' a≠none)->Ro (λ_ v d=>Rp K kd (QL F (· ∈ T)) H' v d) (λa=>¬QL F (· ∈ T) a) H' v o T->Q v H'
inductive RpA(K:zzA)(kd:KD)(F:Addr->Prop)(H:Hp):List V->List (Bool×D)->Prop
 |nil:RpA K kd F H [] []
 |cons {v:V}{st:Bool}{d:D}{vs:List V}{ds:List (Bool×D)}:Rp K kd (λa=>st=true/\F a) H v d->RpA K kd F H vs ds->RpA K kd F H (v::vs) ((st,d)::ds)
def RD(K:zzA)(kd:KD)(g:List (Bool×D)->Option O):Sp:=λvs H Q _=>∃F ds o,(∀a,F a->H a≠none)/\RpA K kd F H vs ds/\g ds=some o/\eI K kd F H Q o
def UV(os:List O):O:=if os.all O.isLf=true then .lf (O.strs os) (.tup<|O.toDs os)else .nd .tp os
def yj(fr:DF):EF:=λas=>(fr as).bind λp=>if p.1.length<=sizeLine then some (.ow<|UV p.1,p.2)else none
noncomputable def yd(fr:DF):EF:=λas=>(fr as).bind λp=>if p.1.length<=sizeLine then some (.ow<|.nd .ls p.1,p.2)else none
section
variable{X:Cx}{kd:KD}{a b c:Expr}{fa fb:EF}{ta tb:TF}{pos:Pos}{es rest:List Expr}{fr:AF}{fd:DF}
theorem RpA.length{K}(h:RpA K kd F H vs ds):vs.length=ds.length:=by
 induction h with
 |nil=>rfl
 |cons _ _ ih=>exact congrArg (· + 1) ih
def zM:AA X kd [] aN:=by with_unfolding_all exact(BM Gg λσ H Q h=>by
 obtain⟨F,B,ad,as,rs,as',R,e,q⟩:=h;cases e;exact q [] ad H R .nil Grow.refl)
def sD(ha:AE X kd a fa)(hr:AA X kd es fr)(hs:starEach (a::es) X.env=(false,eval a X.env)::starEach es X.env):AA X kd (a::es) (aC fa fr):=by with_unfolding_all exact(BM (Vb ha hr hs) λσ H Q h=>by
 obtain⟨F,B,ad,as,rs,as',R,e,q⟩:=h;obtain⟨⟨p,as1⟩,h1,e⟩:=bS_<|e;obtain⟨⟨z,as2⟩,h2,e⟩:=bS_ e;cases e;refine vU R h1 λv ad1 H1 R1 rv1 g1=>⟨F,B,ad1,as1,z,_,R1,h2,λvs ad2 H2 R2 rv2 g2=>?_⟩;exact q _ ad2 H2 R2 (.cons (rv1.grow g2) rv2)<|g1.trans g2)
def Y5:AD X kd [] dN:=by with_unfolding_all exact(BM Gg λσ H Q h=>by
 obtain⟨F,B,ad,as,rs,as',R,e,q⟩:=h;cases e;exact q [] [] ad H R .nil Grow.refl)
def sZ(ha:AE X kd a fa)(hr:AD X kd es fd)(hs:starEach (a::es) X.env=(false,eval a X.env)::starEach es X.env):AD X kd (a::es) (dC fa fd):=by with_unfolding_all exact(BM (Vb ha hr hs) λσ H Q h=>by
 obtain⟨F,B,ad,as,rs,as',R,e,q⟩:=h;obtain⟨⟨p,as1⟩,h1,e⟩:=bS_<|e;obtain⟨⟨o,as2⟩,h2,e⟩:=bS_ e;obtain⟨⟨os,as3⟩,h3,e⟩:=bS_ e;cases e;refine⟨F,B,ad,as,p,as1,R,h1,λv T1 ad1 H1 R1 rv1 g1=>?_⟩;obtain⟨ad2,R2,ro2,le2⟩:=NT R1 rv1 h2;refine⟨F,_,ad2,as2,os,_,R2.hide,h3,λvs T3 ad3 H3 R3 ro3 g3=>?_⟩;have kT:=λa m u e=>g3.keep a u e λz=>z.elim (λy=>nomatch y) λ⟨i,y⟩=>R2.dis i a y m;have r1:=Xj.lv Gj<|Xj.grow g3 kT<|Xj.lv IB ro2;have r3:=Za.lv Gj ro3;refine q _ _ ad3 H3 (R3.unhide R2.tnd λa m z=>(R2.btr a z).2.2<|.inl m) (.cons r1 r3)<|(g1.trans<|Grow.less le2).trans ⟨λb u e n=>g3.keep b u e λz=>n<|Gw.drop b z,λb z=>?_⟩
 rcases z with z|z
 . rcases zzM.mp z with z|z
   . exact .inl<|.inl z
   . exact(g3.own b<|.inl z).elim (λy=>.inl<|Gw.drop b y) .inr
 . exact(g3.own b<|.inr z).elim (λy=>.inl<|Gw.drop b y) .inr)
def WB(h:AD X kd es fd):AE X kd (.Tuple es x1 pos) (yj fd):=by with_unfolding_all exact(yn (lR h) λσ H Q h=>by
 obtain⟨F,B,ad,as,r,as',R,e,q⟩:=h;obtain⟨⟨os,as1⟩,h1,e⟩:=bS_<|e;obtain⟨hz,e⟩:=zv e;cases e;refine⟨F,B,ad,as,os,_,R,h1,λvs T1 ad1 H1 R1 ro1 g1=>⟨by rw[ro1.length];exact hz,λp hp=>?_⟩⟩;have k:∀b o,H1 b=some o->upd H1 p (.tup vs) b=some o:=λb o hb=>by rw[zG<|zZ hb hp];exact hb
 obtain⟨R2,g2⟩:=R1.more k;have ro2:=Za.grow g2 (λa _ u h=>k a u h) ro1;have np:=λst z=>R1.trk st p z hp;refine q _ T1 ad1 _ R2 ?_<|g1.trans g2;unfold UV
 by_cases hl:os.all O.isLf=true
 . rw[if_pos hl];have:=uV ro2 hl;subst this;exact .lf<|.tup (np _) (.inl z_)<|T9 ro2 hl
 . rw[if_neg hl];exact .tp (np _) z_ ro2)
def AZ(h:AD X kd es fd):AE X kd (.List es pos) (yd fd):=by with_unfolding_all exact(yn (l_ h) λσ H Q h=>by
 obtain⟨F,B,ad,as,r,as',R,e,q⟩:=h;obtain⟨⟨os,as1⟩,h1,e⟩:=bS_<|e;obtain⟨hz,e⟩:=zv e;cases e;refine⟨F,B,ad,as,os,_,R,h1,λvs T1 ad1 H1 R1 ro1 g1=>⟨by rw[ro1.length];exact hz,λp hp=>?_⟩⟩;have k:∀b o,H1 b=some o->upd H1 p (.lst vs) b=some o:=λb o hb=>by rw[zG<|zZ hb hp];exact hb
 obtain⟨R2,g2⟩:=R1.add (N:=[p]) (by simp) (λa m=>by rw[zzR.mp m];exact hp) k (λa m=>by rw[zzR.mp m,z_];simp);exact q _ _ ad1 _ R2 (.ls z_<|Za.grow g2 (λa _ u h=>k a u h) ro1)<|g1.trans g2)
theorem VwL.less{K O O'}(g:∀a,O' a->O a)(h:VwL K kd O H vs ds):VwL K kd O' H vs ds:=by
 induction h with
 |nil=>exact .nil
 |cons h _ ih=>exact .cons (h.less g) ih
def Q9{K ad}(R:Rel K kd F B [] ad as σ H)(h:RVs K kd F B ad σ H vs rs)(e:views as rs=some (ds,lv)):VwL K kd (GK F B (Gw [] ad) lv) H vs ds:=by
 induction h generalizing ds lv with
 |nil=>cases e;exact .nil
 |cons h t ih=>
  obtain⟨⟨d,l⟩,h1,e⟩:=bS_<|e;obtain⟨⟨ds,l2⟩,h2,e⟩:=bS_ e;cases e;exact .cons ((xl.vw R h h1).less GK.meet1)<|(ih h2).less GK.meet2
def bq{R':List V->Hp->VK->Prop}(hr:∀vs H Q,(∃O ds r,(∀a,O a->H a≠none)/\VwL X.K kd O H vs ds/\g ds=some r/\RQ X.K kd O H Q r)->R' vs H Q)
 (h:al X.K kd (fP fr g) σ H Q):pR X.K kd fr σ H λvs H1=>R' vs H1 Q:=by
 obtain⟨F,B,ad,as,r,as',R,e,q⟩:=h;obtain⟨⟨p,as1⟩,h1,e⟩:=bS_<|e;obtain⟨⟨ds,lv⟩,h2,e⟩:=bS_ e;obtain⟨z,h3,e⟩:=bS_ e;obtain⟨y,h4,e⟩:=bS_ e;cases e;exact⟨F,B,ad,as,p,_,R,h1,λvs ad1 H1 R1 rv1 g1=>hr _ _ _ ⟨_,ds,z,R1.tr _,Q9 R1 rv1 h2,h3,YE R1 h4 λw T' H' R' rv' g'=>q w T' ad1 H' R' rv'<|g1.trans g'⟩⟩
def K5{K ad}(R:Rel K kd F B [] ad as σ H)(h:RVs K kd F B ad σ H vs rs)(e:XW as rs=some ds):RpA K kd (Lv F B (Gw [] ad) true) H vs ds:=by
 induction h generalizing ds with
 |nil=>cases e;exact .nil
 |cons h t ih=>
  rename_i v r vs rs;obtain⟨⟨st,d⟩,h1,e⟩:=bS_<|e;obtain⟨ds,h2,e⟩:=bS_ e;cases e;refine .cons ?_<|ih h2;cases r with
  |ow o=>
   cases h1;cases hf:zB o.toD with
   |true=>exact(LU h).flat hf
   |false=>
    refine(Lq h).less λa z=>?_;have zs:o.str=true:=z.1;rw[zs];exact z.2
  |bo i=>
   have e:(match as[i]? with|some (some o)=>some _|_=>none)=some (st,d):=h1;cases k:as[i]? with
   |none=>rw[k]at e;cases e
   |some s=>
    cases s with
    |none=>rw[k]at e;cases e
    |some o=>
     rw[k]at e;cases e;obtain⟨w,hw,ro⟩:=R.sl i _ k;rw[h.2]at hw;cases hw;exact(LU ro).less λa z=>nomatch z.1
def Od{K ad}(R:Rel K kd F B [] ad as σ H)(q:∀v T' H',Rel K kd F B T' ad as σ H'->xl K kd F B T' ad σ H' v (.ow o)->Grow (Gw [] ad) H (Gw T' ad) H'->Q v H'):
 eI K kd (Lv F B (Gw [] ad) true) H Q o:=λv T H' hn hl k h1 ro=>by
 obtain⟨R',g⟩:=R.news hn hl k h1;have le:∀st a,Lv F B (Gw T ad) st a->QL (Lv F B (Gw [] ad) true) (· ∈ T) a:=λst a z=>by
  rcases z with(z|z)|z|z
  . exact .inl<|.inl<|.inl ⟨rfl,z.2⟩
  . exact .inl<|.inl<|.inr z
  . exact .inr z
  . exact .inl<|.inr<|.inr z
 exact q v T H' R' (Ro.mono (λst v d r=>r.less<|le st) (λa vs n e=>⟨λz=>n<|le true a z,e⟩) (λ_ _ _ e=>e) ro) g
def mO(h:al X.K kd (zj fr g) σ H Q):oe (RD X.K kd g) [] E (pR X.K kd fr) σ H Q:=by
 obtain⟨F,B,ad,as,r,as',R,e,q⟩:=h;obtain⟨⟨p,as1⟩,h1,e⟩:=bS_<|e;obtain⟨ds,h2,e⟩:=bS_ e;obtain⟨o,h3,e⟩:=bS_ e;cases e;refine⟨F,B,ad,as,p,_,R,h1,λvs ad1 H1 R1 rv1 g1=>?_⟩;show RD X.K kd g _ H1 Q E;rw[zyE];exact⟨_,ds,o,R1.trk true,K5 R1 rv1 h2,h3,Od R1 λw T' H' R' rv' g'=>q w T' ad1 H' R' rv'<|g1.trans g'⟩
end
inductive Out where
 |nx (as:AS)|rt (o:O)|bk (as:AS)|ct (as:AS)
abbrev SF:=AS->Option Out
structure RetOk(K:zzA)(kd:KD)(F:Addr->Prop)(T:List Addr)(H:Hp)(v:V)(o:O):Prop where
 nd:T.Nodup
 tr:∀a ∈ T,H a≠none
 ro:Ro (λ_ v d=>Rp K kd (QL F (· ∈ T)) H v d) (λa=>¬QL F (· ∈ T) a) H v o T
def IG(K:zzA)(kd:KD)(F B:Addr->Prop)(ad:Ad)(H:Hp)(D:Ends):Out->Prop
 | .nx as'=>∀σ' ad' H',Rel K kd F B [] ad' as' σ' H'->Grow (Gw [] ad) H (Gw [] ad') H'->D.nx σ' H'
 | .bk as'=>∀σ' ad' H',Rel K kd F B [] ad' as' σ' H'->Grow (Gw [] ad) H (Gw [] ad') H'->D.bk σ' H'
 | .ct as'=>∀σ' ad' H',Rel K kd F B [] ad' as' σ' H'->Grow (Gw [] ad) H (Gw [] ad') H'->D.ct σ' H'
 | .rt o=>∀v T H',RetOk K kd F T H' v o->Grow (Gw [] ad) H (· ∈ T) H'->D.rt v H'
def be(K:zzA)(kd:KD)(f:SF):TS:=λD σ H=>∃F B ad as o,Rel K kd F B [] ad as σ H/\f as=some o/\IG K kd F B ad H D o
@[irreducible] def HK(X:Cx)(kd:KD)(st:Stmt)(f:SF):Prop:=PS X st<|be X.K kd f
@[irreducible] def JV(X:Cx)(kd:KD)(st:List Stmt)(f:SF):Prop:=FI X st<|be X.K kd f
def x6(h:PS X e t)(k:∀D σ H,t' D σ H->t D σ H):PS X e t':=λa s σ H D I q=>h a s σ H D I<|k D σ H q
def Xp(h:FI X e t)(k:∀D σ H,t' D σ H->t D σ H):FI X e t':=λa s σ H D I q=>h a s σ H D I<|k D σ H q
def IG.pre{K ad ad1 D}(g:Grow (Gw [] ad) H (Gw [] ad1) H1)(h:IG K kd F B ad H D o):IG K kd F B ad1 H1 D o:=by
 cases o with
 |nx as=>exact λσ' ad' H' R g'=>h σ' ad' H' R (g.trans g')
 |bk as=>exact λσ' ad' H' R g'=>h σ' ad' H' R (g.trans g')
 |ct as=>exact λσ' ad' H' R g'=>h σ' ad' H' R (g.trans g')
 |rt r=>exact λv T H' R g'=>h v T H' R<|g.trans g'
noncomputable def yX:SF:=λas=>some<|.nx as
def zh(f g:SF):SF:=λas=>(f as).bind λo=>match o with | .nx as'=>g as'|o=>some o
def y6(c:TF)(f g:SF):SF:=λas=>(c as).bind λp=>if p.1=true then f p.2 else g p.2
def yo(f:EF):SF:=λas=>(f as).bind λp=>some<|.nx p.2
noncomputable def DE(as:AS):RV->Option O
 | .ow o=>if o.str=true then some o else none
 | .bo i=>match as[i]? with
  |some (some o)=>if o.str=true then some o else none
  |_=>none
def zy(f:EF):SF:=λas=>(f as).bind λp=>(DE p.2 p.1).bind λo=>some<|.rt o
def zr(z:Bool)(i:Nat)(f:EF):SF:=λas=>(f as).bind λp=>(sH p.2 (if z=true then p.1.frz else p.1)).bind λx=>if i<x.2.length then some (.nx<|x.2.set i<|some x.1)else none
def Ro.strong(h:Ro L N H v o fp)(e:o.str=true):Ro (λst v d=>st=true/\L st v d) N H v o fp:=
 Ro.rec (motive_2:=λvs os fp _=>O.strs os=true->RoL (λst v d=>st=true/\L st v d) N H vs os fp)
  (λh e=>.lf ⟨e,h⟩) (λh _ r e=>.ls h<|r e) (λh l _ r e=>.dc h l<|r e) (λc h l _ r e=>.ob ⟨rfl,c⟩ h l<|r e) (λn h _ r e=>.tp n h<|r e) (λ_=>.nil) (λ_ _ h r e=>.cons (h ((zyC _ _).mp e).1)<|r ((zyC _ _).mp e).2) h e
section
variable{K:zzA}{kd:KD}{F B:Addr->Prop}{T:List Addr}{ad ad1:Ad}{as as1:AS}{σ:St}{H H1:Hp}{v:V}{r:RV}{o:O}
def Bk(R:Rel K kd F B T ad as σ H)(hn:T'.Nodup)(hs:∀a ∈ T',Gw T ad a)(h:Xj K kd F B (Gw T ad) H v o T')(e:o.str=true):RetOk K kd F T' H v o:=by
 have b:∀a,QL F (· ∈ T') a->Lv F B _ true a:=λa z=>z.elim (λy=>.inl<|.inl ⟨rfl,y⟩) λy=>.inr<|hs a y;exact⟨hn,λa m=>(R.gtr a<|hs a m).1,Ro.mono (λc v d r=>by obtain⟨rfl,r⟩:=r;exact r.less b) (λa f n e=>⟨λz=>n<|b a z,e⟩) (λ_ _ _ e=>e)<|Ro.strong h e⟩
def Rel.ret(R:Rel K kd F B T ad as σ H)(hr:xl K kd F B T ad σ H v r)(e:DE as r=some o):∃T',RetOk K kd F T' H v o/\∀b ∈ T',Gw T ad b:=by
 cases r with
 |ow g=>
  obtain⟨c,rfl⟩:=zv e;exact⟨T,Bk R R.tnd (λa m=>.inl m) hr c,λa m=>.inl m⟩
 |bo i=>
  have e:(match as[i]? with|some (some o)=>if o.str=true then some o else none|_=>none)=some o:=e;cases k:as[i]? with
  |none=>rw[k]at e;cases e
  |some s=>
   cases s with
   |none=>rw[k]at e;cases e
   |some h=>
    rw[k]at e;obtain⟨c,rfl⟩:=zv e;obtain⟨w,d,f⟩:=R.sl i _ k;rw[hr.2]at d;cases d;exact⟨ad i,Bk R (R.nd i) (λa m=>.inr ⟨i,m⟩) f c,λa m=>.inr ⟨i,m⟩⟩
end
section
variable{X:Cx}{kd:KD}{st:Stmt}{sts rest:List Stmt}{a b c e:Expr}{fa fb:EF}{ta:TF}{pos:Pos}{f g:SF}
def vQ:JV X kd [] yX:=by with_unfolding_all exact(Xp BP λD σ H h=>by
 obtain⟨F,B,a,as,o,R,e,q⟩:=h;cases e;exact q σ a H R Grow.refl)
def xG(h1:HK X kd st f)(h2:JV X kd rest g):JV X kd (st::rest) (zh f g):=by with_unfolding_all exact(Xp (Wi h1 h2) λD σ H h=>by
 obtain⟨F,B,ad,as,o,R,e,q⟩:=h;obtain⟨o1,e1,e⟩:=bS_<|e;refine⟨F,B,ad,as,o1,R,e1, ?_⟩;cases o1 with
 |nx as1=>exact λσ' ad' H' R' g'=>⟨F,B,ad',as1,o,R',e,q.pre g'⟩
 |bk as1=>cases e;exact q
 |ct as1=>cases e;exact q
 |rt r=>cases e;exact q)
def xf(h1:HK X kd st f):JV X kd [st] f:=by with_unfolding_all exact(PV h1)
def Ab:SF:=λ_=>none
def jk:HK X kd st Ab:=by with_unfolding_all exact(λa s σ H D I h=>by obtain⟨F,B,b,as,o,R,e,q⟩:=h;cases e)
def VZ(hc:AT X kd c ta)(ha:JV X kd sts f)(hb:JV X kd rest g):HK X kd (.If c sts rest pos) (y6 ta f g):=by with_unfolding_all exact(x6 (AX hc ha hb) λD σ H h=>by
 obtain⟨F,B,i,as,o,R,e,q⟩:=h;obtain⟨⟨p,a⟩,j,e⟩:=bS_<|e;refine⟨F,B,i,as,p,a,R,j,λb k d g=>?_⟩;cases p with
 |true=>exact⟨F,B,b,a,o,d,e,q.pre g⟩
 |false=>exact⟨F,B,b,a,o,d,e,q.pre g⟩)
def qm(he:AE X kd e fa)(hs:swapsWith e none pos.line X.env=pure false):HK X kd (.Expr e pos) (yo fa):=by with_unfolding_all exact(x6 (P2 he hs) λD σ H h=>by
 obtain⟨F,B,c,as,o,R,e,q⟩:=h;obtain⟨⟨p,a⟩,d,e⟩:=bS_<|e;cases e;exact⟨F,B,c,as,p,a,R,d,λv j b f i k g=>q σ b f i.drop<|g.trans<|Grow.less Gw.drop⟩)
def vv(he:AE X kd e fa):HK X kd (.Return (some e) pos) (zy fa):=by with_unfolding_all exact(x6 (uj he) λD σ H h=>by
 obtain⟨F,B,b,as,o,R,e,q⟩:=h;obtain⟨⟨p,a⟩,c,e⟩:=bS_<|e;obtain⟨r,d,e⟩:=bS_ e;cases e;refine⟨F,B,b,as,p,a,R,c,λv s f i j k g=>?_⟩;obtain⟨l,m,n⟩:=j.ret k d;exact q v l i m<|g.trans<|Grow.less n)
def HM{K ad}{i:Nat}(R:Rel K kd F B T ad as σ H)(rv:xl K kd F B T ad σ H v r)
 (h2:sH as (if z=true then r.frz else r)=some (o,as2)) (hl:i<as2.length):∃ad',Rel K kd F B [] ad' (as2.set i<|some o) (σ.set i<|some v) H/\∀a,Gw [] ad' a->Gw T ad a:=by
 cases z with
 |true=>
  obtain⟨b,c,d,e⟩:=NT R.drop (xl.drop R rv) h2;exact⟨_,c.put hl d,λa y=>Gw.drop a<|e a<|Ws a y⟩
 |false=>
  obtain⟨b,c,d,e⟩:=NT R rv h2;exact⟨_,c.put hl d,λa y=>e a<|Ws a y⟩
def Ag(hN:X.N.Nodup)(hi:X.N[i]? = some x)(hx:Loc X.env.scope x)(he:AE X kd e fa)(hs:swapsWith e (some<|.Name x pos') pos.line X.env=pure false)(hf:X.fn x=true\/X.env.scope.names.lookup x=some .local):
 HK X kd (.Assign [.Name x pos'] e pos) (zr z i fa):=by with_unfolding_all exact(x6 (D_ hN hi hx he hs hf) λD σ H h=>by
 obtain⟨F,B,c,as,o,R,e,q⟩:=h;obtain⟨⟨p,a⟩,d,e⟩:=bS_<|e;obtain⟨⟨y,f⟩,j,e⟩:=bS_ e;obtain⟨k,e⟩:=zv e;cases e;refine⟨F,B,c,as,p,a,R,d,λv t l m n r g=>?_⟩;obtain⟨b,R2,s⟩:=HM n r j k;exact q _ b m R2<|g.trans<|Grow.less s)
end
def Zr(n:Nat)(ds:List (Bool×D)):AS:=ds.map (λx=>some<|.lf x.1 x.2)++List.replicate (n-ds.length) none
noncomputable def eA:Out->Option O
 | .nx _=>some<|.lf true .non
 | .rt o=>some o
 |_=>none
def xJ(n m:Nat)(f:SF)(ds:List (Bool×D)):Option O:=if ds.length=m then(f<|Zr n ds).bind eA else none
theorem RpA.get{K}:∀{vs:List V}{ds:List (Bool×D)}{i:Nat}{x:Bool×D},RpA K kd F H vs ds->ds[i]? = some x->∃v,vs[i]? = some v/\Rp K kd (λa=>x.1=true/\F a) H v x.2
 |_,_,_,_,.nil,e=>by simp at e
 |_,_,0,_,.cons h _,e=>by simp at e;subst e;exact⟨_,rfl,h⟩
 |_,_,i+1,_,.cons _ r,e=>by
  obtain⟨v,b,c⟩:=RpA.get r (by simpa using e);exact⟨v,by simpa using b,c⟩
def IS{K}(ht:∀a,F a->H a≠none)(rp:RpA K kd F H vs ds):
 Rel K kd F (λ_=>False) [] (λ_=>[]) (Zr N.length ds) (L2.start N vs) H:=by
 have c:=rp.length;have f:∀a,¬Gw [] (λ_=>[]) a:=λa z=>z.elim (λy=>nomatch y) λ⟨_,y⟩=>nomatch y;refine⟨by unfold Zr L2.start;simp[c],λ_ _=>rfl,λ_=>zyJ,(λ_ _ _ z=>nomatch z),zyJ,(λ_ _ _ z=>nomatch z),ht,(λ_ z=>z.elim),λa z=>(f a z).elim,λi s e=>?_⟩;unfold Zr at e;unfold L2.start
 by_cases g:i<ds.length
 . rw[zyP (by rw[zzB];exact g),zzI]at e;obtain⟨d,h,b⟩:=zzX.mp e;subst b;obtain⟨v,j,k⟩:=rp.get h;rw[zyP (by rw[zzB,c];exact g),zzI,j];refine⟨v,rfl,.lf<|k.less λa z=>?_⟩
   rcases z with(z|z)|z
   . exact z
   . exact z.elim
   . exact(f a z).elim
 . rw[zyR<|by rw[zzB];exact q0L g]at e;have:=zyA e;have b:=(List.mem_replicate.mp this).2;subst b;rfl
section
variable{P:Program}{w:World}{K:zzA}{mg:Str->Option Value}{base:Heap}
def DT(q:eI K kd F H Q o)(ro:RetOk K kd F T H' v o)(g:Grow (Gw [] λ_=>[]) H (· ∈ T) H'):Q v H':=by
 have c:∀a,¬Gw [] (λ_=>[]) a:=λa z=>z.elim (λy=>nomatch y) λ⟨_,y⟩=>nomatch y;exact q v T H' ro.nd (λa m=>(g.own a m).resolve_left<|c a) (λb u h=>g.keep b u h<|c b) ro.tr ro.ro
def Zb{st}{k:Nat}(Fn:Fun K x qual st f fd)(S:FnScope N ps (zd st))
 (hb:∀(cdv:Value) (A:Around) (outer:List Env) (s:Shared) (H:Hp) (E:XK),Room k (A.deeper<|envOfC qual (zd st) s.heap.objs.size f cdv)->JV (L5 wV P w K mg base N qual (zd st) f cdv A outer s H E).nox kd (ZL st) c):
 FnOk P w K mg base wV (k+1) f fd ps (RD K kd<|xJ N.length ps.length c):=by
 with_unfolding_all (
 refine Fn.ok S (λvs H Q E h=>?_) λcdv A outer s H vs Q E hr h=>⟨_,hb cdv A outer s H E hr, ?_⟩
 . obtain⟨F,ds,r,_,rp,e,_⟩:=h;unfold xJ at e
   by_cases hl:ds.length=ps.length
   . rw[rp.length,hl]
   . rw[if_neg hl]at e;cases e
 . obtain⟨F,ds,r,ht,rp,e,q⟩:=h;unfold xJ at e
   by_cases hl:ds.length=ps.length
   . rw[if_pos hl]at e;obtain⟨o,e1,e⟩:=bS_ e;refine⟨F,λ_=>False,λ_=>[],Zr N.length ds,o,IS ht rp,e1, ?_⟩;cases o with
     |nx as=>cases e;exact λσ' ad' H' R g=>DT q ⟨zyJ,(λ_ m=>nomatch m),.lf .non⟩ (g.trans<|Grow.less (λ_ z=>nomatch z))
     |rt o=>cases e;exact λv T H' ro g=>DT q ro g
     |bk=>cases e
     |ct=>cases e
   . rw[if_neg hl]at e;cases e)
end
abbrev Zj:=Bool×D
abbrev GF:=Zj->AS->Option AS
abbrev pJ:=List Zj->AS->Option AS
def kids(st:Bool)(ds:List D):List Zj:=ds.map λd=>(zB d||st,d)
inductive RpI(K:zzA)(kd:KD)(F B G:Addr->Prop)(H:Hp):List V->List Zj->Prop
 |nil:RpI K kd F B G H [] []
 |cons {v:V}{x:Zj}{vs:List V}{ds:List Zj}:Rp K kd (Lv F B G x.1) H v x.2->RpI K kd F B G H vs ds->RpI K kd F B G H (v::vs) (x::ds)
def fg(K:zzA)(kd:KD)(S:List Nat)(g:GF):TG:=λv σ H Q=>∃F B ad as x as',Rel K kd F B [] ad as σ H/\Rp K kd (Lv F B (Gw [] ad) x.1) H v x.2/\g x as=some as'/\
 ∀σ' ad' H',Rel K kd F B [] ad' as' σ' H'->Grow (Gw [] ad) H (Gw [] ad') H'->(∀j,j ∉ S->σ'[j]? = σ[j]?)->Q σ' H'
def dy(K:zzA)(kd:KD)(S:List Nat)(g:pJ):lW:=λvs σ H Q=>∃F B ad as ds as',Rel K kd F B [] ad as σ H/\RpI K kd F B (Gw [] ad) H vs ds/\g ds as=some as'/\
 ∀σ' ad' H',Rel K kd F B [] ad' as' σ' H'->Grow (Gw [] ad) H (Gw [] ad') H'->(∀j,j ∉ S->σ'[j]? = σ[j]?)->Q σ' H'
@[irreducible] def AG(X:Cx)(kd:KD)(tg:Expr)(S:List Nat)(g:GF):Prop:=PG X tg<|fg X.K kd S g
@[irreducible] def pB(X:Cx)(kd:KD)(tg:List Expr)(S:List Nat)(g:pJ):Prop:=pQ X tg<|dy X.K kd S g
def lC(h:PG X e t)(k:∀v σ H Q,t' v σ H Q->t v σ H Q):PG X e t':=λa s σ H v u Q I r q=>h a s σ H v u Q I r<|k v σ H Q q
def Iv(h:pQ X e t)(k:∀v σ H Q,t' v σ H Q->t v σ H Q):pQ X e t':=λa s σ H v u Q I r q=>h a s σ H v u Q I r<|k v σ H Q q
noncomputable def gN(i:Nat):GF:=λx as=>if i<as.length then some (as.set i<|some<|.lf x.1 x.2)else none
def XI:pJ:=λds as=>match ds with | []=>some as|_::_=>none
noncomputable def yH(g:GF)(gs:pJ):pJ:=λds as=>match ds with | []=>none|d::r=>(g d as).bind λas1=>gs r as1
def gT(n:Nat)(gs:pJ):GF:=λx as=>match x.2 with
 | .tup ds=>if ds.length=n then gs (kids x.1 ds) as else none
 | .lst ds=>if ds.length=n then gs (kids x.1 ds) as else none
 |_=>none
section
variable{K:zzA}{kd:KD}{F B G G':Addr->Prop}{H H':Hp}
theorem RpI.length(h:RpI K kd F B G H vs ds):vs.length=ds.length:=by
 induction h with
 |nil=>rfl
 |cons _ _ a=>exact congrArg (· + 1) a
theorem RpI.grow(g:Grow G H G' H')(h:RpI K kd F B G H vs ds):RpI K kd F B G' H' vs ds:=by
 induction h with
 |nil=>exact .nil
 |cons h _ a=>exact .cons (Rp.grow g h) a
def RpI.get{i:Nat}(h:RpI K kd F B G H vs ds)(e:ds[i]? = some x):∃v,vs[i]? = some v/\Rp K kd (Lv F B G x.1) H v x.2:=by
 induction h generalizing i with
 |nil=>simp at e
 |cons h r a=>
  cases i with
  |zero=>simp at e;subst e;exact⟨_,rfl,h⟩
  |succ i=>
   obtain⟨v,b,c⟩:=a (by simpa using e);exact⟨v,by simpa using b,c⟩
def Q6{st}(h:RpL K kd (Lv F B G st) H vs ds):RpI K kd F B G H vs (kids st ds):=
 RpL.ind (P:=λa b=>RpI K kd F B G H a<|kids st b) .nil (λ{v d a b} h _ c=>by
  refine .cons (x:=(zB d||st,d)) ?_ c;cases e:zB d with
  |true=>exact h.flat e
  |false=>exact h) h
end
section
variable{prog:Program}{w:World}{A:Around}{E:Value->Shared->Prop}{s:Shared}
theorem Ey(hne:l≠it):∀(n i:Nat) (s:Shared) (Q:List Value->Shared->Prop),s.heap.IsListIter it l i->s.heap.IsList l items->i+n<=items.size->
 (∀h',h'.IsListIter it l (i+n)->Heap.SameBut it s.heap h'->Q ((items.toList.drop i).take n) {s with heap:=h'})->wpAny (model prog w) A (draw (.ref it) n) Q E s
 |0,i,s,Q,a,_,_,f=>by
  exact zxG (by simpa using f s.heap a (Heap.SameBut.refl ..))
 |n+1,i,s,Q,a,h,j,f=>by
  have b:i<items.size:=by omega
  refine zxF<|wpAny_pyNext_list_item a h (x:=items[i]) (by simp[b]) λo c d=>?_;refine zxF<|zxK<|Ey hne n (i+1) _ _ c (h.extBut d.extBut hne) (by omega) λk e g=>zxG ?_;have m:items.toList.drop i=items[i]::items.toList.drop (i+1):=by simp[zyQ,b]
  have:=f k (by rw[show i+(n+1)=i+1+n from q0e];exact e)<|d.trans g;rw[m,List.take_succ_cons]at this;exact this
def Ha(hh:A.handled=none)(ht:s.heap.IsList l items)
 (hn:targets.length=items.size) (hstar:targets.findIdx? (·.1)=none)
 (h:∀h',Heap.ExtBut s.heap.objs.size s.heap h'->wpAny (model prog w) A (assignInOrder (targets.map (·.2)) items.toList) Q E {s with heap:=h'}):
 wpAny (model prog w) A (unpack (.ref l) targets) Q E s:=by
 unfold unpack;rw[hn,hstar];refine zxF<|zxK ?_;have a:l≠s.heap.objs.size:=by obtain⟨o,k,_⟩:=ht;exact zzQ<|zxI k
 unfold unpackItems;refine zxF ?_;unfold notIterableAtAll;refine zxF<|wpAny_specialOf ht.typeIs PySem.F.slot_list_iter.lookup ?_;refine zxG ?_;simp only[Bool.false_eq_true,if_false];refine zxF<|zxK<|wpAny_pyIter_list ht ?_;refine zxF<|zxK<|Ey a items.size 0 _ _ ⟨_,zxJ _ rfl,rfl,rfl⟩ (ht.push _) (by omega) λm c d=>?_;have f:List.take items.size (List.drop 0 items.toList)=items.toList:=by
  rw[List.drop_zero];exact List.take_of_length_le (by simp)
 rw[f];rw[if_neg<|by simp];have g:=(ht.push _).extBut d.extBut a;refine zxF<|zxK<|wpAny_pyNext_list_end hh c g (by simp) λn i=>?_;simp only[Option.isSome_none,Bool.false_eq_true,if_false];exact zxG<|h n λb o j e=>i b o j<|d.extBut b o j<|zxH _ e
end
section
variable{X:Cx}{kd:KD}{a b c e tg iter:Expr}{es:List Expr}{body:List Stmt}{fa fb:EF}{pos:Pos}{g:GF}{gs:pJ}{f:SF}{ta:TF}{S S1 S2:List Nat}
def d5(K:zzA)(n:Nat)(t:lW):TG:=λv σ H Q=>∃a xs,v = .ref a/\VX K H a xs/\xs.length=n/\t xs σ H Q
def uh(hc:X.calm=true)(h:pQ X es t)(hn:(assignEach es X.env).length=n)(hst:(assignEach es X.env).findIdx? (·.1)=none):PG X (.Tuple es k pos) (d5 X.K n t):=by
 intro c s σ H v u Q I r d;obtain⟨a,g,i,j,l,d⟩:=d;subst i;cases r;obtain⟨m,f,p,y⟩:=I.list j;rw[assign_Tuple];refine zxF<|wpAny_standAt<|Ha (I.ok.hd hc) p.isList (by simp[hn,<-l,f.length]) hst λq w=>?_;have x:=I.kept (t':=s.toks) λb o e=>w b o (zzQ<|zxI e) e;exact h c _ σ H g _ Q x (by simpa using f) d
def Ie(hN:X.N.Nodup)(hi:X.N[i]? = some x)(hx:Loc X.env.scope x)(hf:X.fn x=true\/X.env.scope.names.lookup x=some .local):AG X kd (.Name x pos) [i] (gN i):=by with_unfolding_all exact(lC (rV hN hi hx hf) λv σ H Q h=>by
 obtain⟨F,B,f,as,y,a,R,b,e,q⟩:=h;obtain⟨c,e⟩:=zv e;cases e;exact q _ _ H (R.put c<|.lf b) (Grow.less Ws) λj d=>zzY λz=>d<|by rw[z];simp)
def Ll:pB X kd [] [] XI:=by with_unfolding_all exact(Iv sS λd σ H Q h=>by
 obtain⟨F,B,a,as,f,b,R,c,e,q⟩:=h;cases c with
 |nil=>cases e;exact⟨rfl,q σ a H R Grow.refl λ_ _=>rfl⟩
 |cons=>cases e)
def X2(h1:AG X kd a S1 g)(h2:pB X kd es S2 gs)(hs:(assignEach (a::es) X.env).map (·.2)=assign a X.env::(assignEach es X.env).map (·.2)):pB X kd (a::es) (S1++S2) (yH g gs):=by with_unfolding_all exact(Iv (uT h1 h2 hs) λx σ H Q h=>by
 obtain⟨F,B,l,as,y,c,R,m,e,q⟩:=h;cases m with
 |nil=>cases e
 |cons r n=>
  obtain⟨b,o,e⟩:=bS_<|e;refine⟨_,_,rfl,F,B,l,as,_,b,R,r,o,λA d C p i s=>?_⟩;exact⟨F,B,d,b,_,c,p,n.grow i,e,λt f u R2 v w=>q t f u R2 (i.trans v) λj k=>(w j λz=>k<|zzL _ z).trans<|s j λz=>k<|zzP _ z⟩)
def Bg{k n:Nat}(hc:X.calm=true)(h:pB X kd es S gs)(hn:(assignEach es X.env).length=n)(hst:(assignEach es X.env).findIdx? (·.1)=none):AG X kd (.Tuple es k pos) S (gT n gs):=by
 with_unfolding_all (
 intro pins s σ H v u Q I r hw;obtain⟨F,B,ad,as,⟨st,d⟩,as',R,rp,e,q⟩:=hw;cases d with
 |tup ds=>
  have e:(if ds.length=n then gs _ as else none)=some as':=e
  by_cases hl:ds.length=n
  . rw[if_pos hl]at e;have go:∃a xs,v = .ref a/\RF X.K H a xs/\RpL X.K kd (Lv F B (Gw [] ad) st) H xs ds:=by
     cases rp with
     |tup n h r=>exact⟨_,_,rfl,.inl h,r⟩
     |tupK a b c e f r=>exact⟨_,_,rfl,.inr ⟨_,_,_,a,b,c,e,f⟩,r⟩
    obtain⟨a,xs,rfl,hs,rl⟩:=go;exact nA hc h hn hst pins s σ H _ u Q I r ⟨a,xs,rfl,hs,by rw[rl.length,hl],F,B,ad,as,_,as',R,Q6 rl,e,q⟩
  . rw[if_neg hl]at e;cases e
 |lst ds=>
  have e:(if ds.length=n then gs _ as else none)=some as':=e
  by_cases hl:ds.length=n
  . rw[if_pos hl]at e;cases rp with
    |lstK a b c r'=>exact uh hc h hn hst pins s σ H _ u Q I r ⟨_,_,rfl,.inr ⟨_,_,_,a,rfl,rfl,rfl,b,c⟩,by rw[r'.length,hl],F,B,ad,as,_,as',R,Q6 r',e,q⟩
    |lst n h' r'=>exact uh hc h hn hst pins s σ H _ u Q I r ⟨_,_,rfl,.inl h',by rw[r'.length,hl],F,B,ad,as,_,as',R,Q6 r',e,q⟩
  . rw[if_neg hl]at e;cases e
 |_=>cases e)
def Rr(as:AS)(r:RV):Option (Zj×AS):=(sH as r.frz).bind λx=>match x.1 with | .lf st d=>some ((st,d),x.2)|_=>none
def Q1{K ad}(R:Rel K kd F B T ad as σ H)(h:xl K kd F B T ad σ H v r)(e:Rr as r=some (x,as')):
 ∃ad',Rel K kd F B [] ad' as' σ H/\Rp K kd (Lv F B (Gw [] ad') x.1) H v x.2/\∀a,Gw [] ad' a->Gw T ad a:=by
 obtain⟨⟨o,c⟩,f,e⟩:=bS_ e;obtain⟨b,g,i,j⟩:=NT R.drop (xl.drop R h) f;cases o with
 |lf l d=>
  cases e;refine⟨b,g, ?_,λa y=>Gw.drop a<|j a y⟩;have:=Lq i;exact this
 |nd k m=>cases e
def VW(f:EF)(g:GF):SF:=λas=>(f as).bind λp=>(Rr p.2 p.1).bind λq=>(g q.1 q.2).bind λas'=>some<|.nx as'
def nk(he:AE X kd e fa)(hg:AG X kd tg S g)(hs:swapsWithSole [tg] e pos.line X.env=pure false)(hw:swappedStores [tg] e X.env=pure none)(h1:(assignEach [tg] X.env).map (·.2)=[assign tg X.env]):
 HK X kd (.Assign [tg] e pos) (VW fa g):=by with_unfolding_all exact(x6 (l9 he hg hs hw h1) λD σ H h=>by
 obtain⟨F,B,ad,as,o,R,e,q⟩:=h;obtain⟨⟨p,as1⟩,h1,e⟩:=bS_<|e;obtain⟨⟨x,as2⟩,h2,e⟩:=bS_ e;obtain⟨as3,h3,e⟩:=bS_ e;cases e;refine⟨F,B,ad,as,p,as1,R,h1,λv T' ad' H' R' rv g1=>?_⟩;obtain⟨ad2,R2,rp,le⟩:=Q1 R' rv h2;exact⟨F,B,ad2,as2,_,as3,R2,rp,h3,λσ' ad' H' R' g' _=>q σ' ad' H' R'<|(g1.trans<|Grow.less le).trans g'⟩)
structure ItOk(K:zzA)(kd:KD)(F B:Addr->Prop)(ad:Ad)(H:Hp)(J:It)(ds:List Zj):Prop where
 all:∀(ad2:Ad) (H2:Hp),Grow (Gw [] ad) H (Gw [] ad2) H2->(∀st a,Lv F B (Gw [] ad2) st a->H2 a≠none)->∀i,(i<ds.length->J.go i H2)/\(ds.length<=i->J.stop i H2)/\
  ∀v H3,J.yld i H2 v H3->(∀b o,H2 b=some o->H3 b=some o)/\∀x,ds[i]? = some x->Rp K kd (Lv F B (Gw [] ad2) x.1) H3 v x.2
abbrev IF:=AS->Option (List Zj×AS)
def ak(K:zzA)(kd:KD)(f:IF):TI:=λσ H R=>∃F B ad as ds as',Rel K kd F B [] ad as σ H/\f as=some (ds,as')/\
 ∀J ad' H',Rel K kd F B [] ad' as' σ H'->Grow (Gw [] ad) H (Gw [] ad') H'->ItOk K kd F B ad' H' J ds->R J H'
@[irreducible] def AI(X:Cx)(kd:KD)(tg iter:Expr)(f:IF):Prop:=PI X tg iter<|ak X.K kd f
noncomputable def forL(g:GF)(f:SF):List Zj->AS->Option Out
 | [],as=>some (.nx as)
 |d::r,as=>(g d as).bind λas1=>(f as1).bind λo=>match o with
  | .nx as'=>forL g f r as'
  | .ct as'=>forL g f r as'
  | .bk as'=>some<|.nx as'
  | .rt r=>some<|.rt r
def yC(fi:IF)(g:GF)(f:SF):SF:=λas=>(fi as).bind λp=>forL g f p.1 p.2
def nE(hp:PassesOwn (model X.prog X.w) X.A X.env X.xe)(hc:X.calm=true)(hi:AI X kd tg iter fi)(hg:AG X kd tg S g)(hb:JV X kd body f)(hs:∀x,foldedSetIterable iter X.env x=pure x):
 HK X kd (.For tg iter body [] pos) (yC fi g f):=by with_unfolding_all exact(x6 (D8 hp hc hi hg hb hs) λD σ H h=>by
 obtain⟨F,B,ad,as,o,R,e,q⟩:=h;obtain⟨⟨ds,as1⟩,h1,e⟩:=bS_<|e;refine⟨F,B,ad,as,ds,as1,R,h1,λJ ad1 H1 R1 g1 it=>?_⟩;refine⟨λi m σ2 H2=>m+i=ds.length/\∃ad2 as2,Rel X.K kd F B [] ad2 as2 σ2 H2/\Grow _ H1 (Gw [] ad2) H2/\forL g f (ds.drop i) as2=some o,⟨ds.length,rfl,ad1,as1,R1,Grow.refl,e⟩, ?_⟩
 rintro i m σ2 H2 ⟨hm,ad2,as2,R2,g2,e2⟩
 obtain⟨k1,k2,k3⟩:=it.all ad2 H2 g2 R2.trk i
 by_cases hi:i<ds.length
 . refine .inr ⟨k1 hi,λσ3 H3=>∃ad3 as3,Rel X.K kd F B [] ad3 as3 σ3 H3/\Grow _ H1 _ H3/\forL g f _ as3=some o,λσ3 H3 ⟨ad3,as3,R3,g3,e3⟩=>⟨m-1,q0q hm hi,q0k hm hi,ad3,as3,R3,g3,e3⟩,λv H3 hy=>?_⟩;obtain⟨kp,rp⟩:=k3 v H3 hy;rw[zyQ hi]at e2;obtain⟨as3,e3,e2⟩:=bS_<|e2;obtain⟨o3,e4,e2⟩:=bS_ e2;obtain⟨R3,g3⟩:=R2.more kp;refine⟨F,B,ad2,as2,_,as3,R3,rp _<|zzE hi,e3,λσ4 ad4 H4 R4 g4 _=>?_⟩;refine⟨F,B,ad4,as3,o3,R4,e4, ?_⟩;have gg:=(g2.trans g3).trans g4;cases o3 with
   |nx as5=>exact λσ5 ad5 H5 R5 g5=>⟨ad5,as5,R5,gg.trans g5,e2⟩
   |ct as5=>exact λσ5 ad5 H5 R5 g5=>⟨ad5,as5,R5,gg.trans g5,e2⟩
   |bk as5=>
    cases e2;exact λσ5 ad5 H5 R5 g5=>q σ5 ad5 H5 R5 (g1.trans<|gg.trans g5)
   |rt r=>
    cases e2;exact λv T H5 ro g5=>q v T H5 ro<|g1.trans<|gg.trans g5
 . refine .inl ⟨k2<|q0n hm hi, ?_⟩;rw[List.drop_eq_nil_of_le<|q0n hm hi]at e2;cases e2;exact q σ2 ad2 H2 R2<|g1.trans g2)
def Gy:Zj->Option (List Zj)
 |(st,.lst ds)=>some (kids st ds)
 |(st,.tup ds)=>some (kids st ds)
 |_=>none
def Zq(f:EF):IF:=λas=>(f as).bind λp=>(Rr p.2 p.1).bind λq=>(Gy q.1).bind λds=>some (ds,q.2)
def II{K ad a}(hs:∀(ad3:Ad) (H3:Hp),Grow (Gw [] ad) H (Gw [] ad3) H3->VX K H3 a vs)(r:RpI K kd F B (Gw [] ad) H vs ds):ItOk K kd F B ad H (fJ K a) ds:=⟨λc j h _ i=>by
 have b:=hs c j h;have e:=r.grow h;refine⟨λf=>?_,λf=>⟨_,b,by rw[r.length];exact f⟩,λv o k=>?_⟩
 . obtain⟨u,g,_⟩:=r.get<|zzE f;exact⟨_,u,b,g⟩
 . obtain⟨rfl,l⟩:=k;refine⟨λ_ _ z=>z,λd m=>?_⟩;obtain⟨u,g,n⟩:=e.get m;have:=l _ b;rw[g]at this;cases this;exact n⟩
def m5{K ad a}(hs:∀(ad3:Ad) (H3:Hp),Grow (Gw [] ad) H (Gw [] ad3) H3->RF K H3 a vs)(r:RpI K kd F B (Gw [] ad) H vs ds):ItOk K kd F B ad H (g_ K a) ds:=⟨λc j h _ i=>by
 have b:=hs c j h;have e:=r.grow h;refine⟨λf=>?_,λf=>⟨_,b,by rw[r.length];exact f⟩,λv o k=>?_⟩
 . obtain⟨u,g,_⟩:=r.get<|zzE f;exact⟨_,u,b,g⟩
 . obtain⟨rfl,l⟩:=k;refine⟨λ_ _ z=>z,λd m=>?_⟩;obtain⟨u,g,n⟩:=e.get m;have:=l _ b;rw[g]at this;cases this;exact n⟩
def OA(he:AE X kd e fa):AI X kd tg e (Zq fa):=by
 with_unfolding_all (
 intro pins s σ H R I h;obtain⟨F,B,ad,as,ds,as',Rl,e,q⟩:=h;obtain⟨⟨p,as1⟩,h1,e⟩:=bS_<|e;obtain⟨⟨⟨st,x⟩,as2⟩,h2,e⟩:=bS_ e;obtain⟨ys,h3,e⟩:=bS_ e;cases e;cases x with
 |lst xs=>
  cases h3;refine Fx he pins s σ H R I ⟨F,B,ad,as,p,as1,Rl,h1,λv T1 ad1 H1 R1 rv1 g1=>?_⟩;obtain⟨ad2,R2,rp,le⟩:=Q1 R1 rv1 h2;cases rp with
  |lst hn hr rl=>exact⟨_,rfl,⟨_,.inl hr⟩,q _ ad2 H1 R2 (g1.trans<|Grow.less le)<|II (λad3 H3 g3=>.inl<|RO g3 (λz=>hn<|.inr z) hr)<|Q6 rl⟩
  |lstK a b c rl=>exact⟨_,rfl,⟨_,.inr ⟨_,_,_,a,rfl,rfl,rfl,b,c⟩⟩,q _ ad2 H1 R2 (g1.trans<|Grow.less le)<|II (λad3 H3 g3=>.inr ⟨_,_,_,a,rfl,rfl,rfl,b,c⟩)<|Q6 rl⟩
 |tup xs=>
  cases h3;refine Os he pins s σ H R I ⟨F,B,ad,as,p,as1,Rl,h1,λv T1 ad1 H1 R1 rv1 g1=>?_⟩;obtain⟨ad2,R2,rp,le⟩:=Q1 R1 rv1 h2;have go:∃a ys,v = .ref a/\(∀(ad3:Ad) (H3:Hp),Grow (Gw [] ad2) H1 (Gw [] ad3) H3->RF X.K H3 a ys)/\RpL X.K kd (Lv F B (Gw [] ad2) st) H1 ys xs:=by
   cases rp with
   |tup n h r=>exact⟨_,_,rfl,λad3 H3 g3=>.inl<|RO g3 (λz=>n<|.inr z) h,r⟩
   |tupK a b c e f r=>exact⟨_,_,rfl,λad3 H3 g3=>.inr ⟨_,_,_,a,b,c,e,f⟩,r⟩
  obtain⟨a,ys,rfl,hs,rl⟩:=go;exact⟨_,rfl,⟨_,hs ad2 H1 Grow.refl⟩,q _ ad2 H1 R2 (g1.trans<|Grow.less le)<|m5 hs<|Q6 rl⟩
 |_=>cases h3)
noncomputable def yY(lo:Int)(n:Nat):List Zj:=(List.range n).map λ(i:Nat)=>(true,D.int<|lo+(i:Int))
def A2{K ad}(lo)(n:Nat):ItOk K kd F B ad H (kj lo n) (yY lo n):=⟨λe h g _ i=>by
 have c:(yY lo n).length=n:=by unfold yY;simp
 refine⟨λa=>by rw[c]at a;exact a,λa=>by rw[c]at a;exact a,λv j f=>?_⟩;obtain⟨rfl,rfl⟩:=f;refine⟨λ_ _ z=>z,λd b=>?_⟩;have a:i<n:=by rw[<-c];exact(zzG.mp b).1
 unfold yY at b;rw[zzI,List.getElem?_range a]at b;cases b;exact .int _⟩
def jt:List D->Option D
 | [x]=>some x
 |_=>none
def sA(h:jt ds=some d):ds=[d]:=by
 cases ds with
 |nil=>cases h
 |cons x r=>
  cases r with
  |nil=>cases h;rfl
  |cons _ _=>cases h
def yS(ds:List D):Option (List Zj):=((jt ds).bind CN).bind λj=>if -(2 ^ 62)<=j/\j<2 ^ 62 then some (yY 0 j.toNat)else none
def Cy(h:yS ds=some xs):∃j,ds=[.int j]/\(if -(2 ^ 62)<=j/\j<2 ^ 62 then some (yY 0 j.toNat)else none)=some xs:=by
 obtain⟨j,a,h⟩:=bS_ h;obtain⟨d,b,a⟩:=bS_ a;cases uc a;exact⟨j,sA b,h⟩
def sR:List D->Option (List Zj)
 | [.int i,.int j]=>if -(2 ^ 62)<=i/\i<2 ^ 62 /\ -(2 ^ 62)<=j/\j<2 ^ 62 then some (yY i (j-i).toNat)else none
 |_=>none
def yG(fr:AF)(h:List D->Option (List Zj)):IF:=λas=>(fr as).bind λp=>(views p.2 p.1).bind λds=>(h ds.1).bind λxs=>some (xs,p.2)
def JB(hg:Gl X "range")(hm:X.mg "range"=none)(ha:AA X kd [a] fr)(hs:starEach [a] X.env=[(false,eval a X.env)]):AI X kd tg (.Call (.Name "range" p) [a] [] pos) (yG fr yS):=by
 with_unfolding_all (
 intro b s σ H R I h;obtain⟨F,B,k,as,A,l,m,e,q⟩:=h;obtain⟨⟨n,o⟩,r,e⟩:=bS_<|e;obtain⟨⟨C,D⟩,t,e⟩:=bS_ e;obtain⟨E,c,e⟩:=bS_ e;cases e;obtain⟨j,rfl,c⟩:=Cy c
 . obtain⟨g,u⟩:=zv c;cases u;refine En hg hm ha hs b s σ H R I ⟨F,B,k,as,n,_,m,r,λG d v i f w=>?_⟩;have x:=Q9 i f t;cases x with
   |cons y z=>
    cases z;cases y;exact⟨j,rfl,g.1,g.2,q _ d v i w<|A2 0 _⟩)
def IZ(hg:Gl X "range")(hm:X.mg "range"=none)(ha:AA X kd [a,b] fr)(hs:starEach [a,b] X.env=[(false,eval a X.env),(false,eval b X.env)])(hs2:starEach [b] X.env=[(false,eval b X.env)]):AI X kd tg (.Call (.Name "range" p) [a,b] [] pos) (yG fr sR):=by
 with_unfolding_all (
 intro c s σ H R I h;obtain⟨F,B,n,as,o,r,t,e,q⟩:=h;obtain⟨⟨u,v⟩,w,e⟩:=bS_<|e;obtain⟨⟨x,J⟩,d,e⟩:=bS_ e;obtain⟨K,f,e⟩:=bS_ e;cases e
 match x,f,d with
 | [.int i,.int j],f,d=>
  obtain⟨y,z⟩:=zv<|f;cases z;refine JJ hg hm ha hs hs2 c s σ H R I ⟨F,B,n,as,u,_,t,w,λL g A m k C=>?_⟩;have D:=Q9 m k d;cases D with
  |cons E l=>
   cases l with
   |cons l G=>
    cases G;cases E;cases l;exact⟨i,j,rfl,y,q _ g A m C<|A2 i _⟩)
def Rel.mut{K ad}{i:Nat}(R:Rel K kd F B T ad as σ H)(hi:i<as.length)(hl:ad i=l::fp)(hs:σ[i]? = some (some<|.ref l))
 (hsub:∀a ∈ fp'++fo,a ∈ fp++T) (hnd:(fp'++fo).Nodup) (hu:H l≠none)
 (ro:∀(H':Hp) (G':Addr->Prop),H' l=some u->Grow (Gw T ad) H G' H'->(∀a ∈ fp',∀w,H a=some w->H' a=some w)->Xj K kd F B G' H' (.ref l) n (l::fp')):
 Rel K kd F B fo (Yk ad i (l::fp')) (as.set i<|some n) σ (upd H l u)/\Grow (Gw T ad) H (Gw fo<|Yk ad i (l::fp')) (upd H l u):=by
 have hli:l ∈ ad i:=by rw[hl];exact zzF
 have lT:=R.dis i l hli;have lfp:l ∉ fp:=by have:=R.nd i;rw[hl]at this;exact(zzW.mp this).1
 have lsub:∀a ∈ fp'++fo,a≠l:=λa m e=>by
  subst e
  rcases zzM.mp (hsub _ m)with z|z
  . exact lfp z
  . exact lT z
 have sub:∀a ∈ fp'++fo,Gw T ad a:=λa m=>by
  rcases zzM.mp (hsub a m)with z|z
  . exact .inr ⟨i,by rw[hl];exact zzD _ z⟩
  . exact .inl z
 have gsub:∀a,Gw fo (Yk ad i (l::fp')) a->Gw T ad a:=λa z=>by
  rcases z with z|⟨j,z⟩
  . exact sub a<|zzL _ z
  . by_cases e:j=i
    . subst e;rw[zX]at z
      rcases zzC.mp z with z|z
      . subst z;exact .inr ⟨j,hli⟩
      . exact sub a<|zzP _ z
    . rw[yb e]at z;exact .inr ⟨j,z⟩
 have g:Grow _ H _ (upd H l u):=⟨λb w h n=>by rw[zG λe=>n<|by subst e;exact .inr ⟨i,hli⟩];exact h,λb z=>.inl<|gsub b z⟩;have kn:∀a,H a≠none->upd H l u a≠none:=λa z=>by
  by_cases e:a=l
  . subst e;rw[z_];simp
  . rw[zG e];exact z
 obtain⟨hnd1,hnd2,hnd3⟩:=zxE.mp hnd;have inT:∀j a,j≠i->a ∈ ad j->a ∈ fp'++fo->False:=λj a hj m m'=>by
  rcases zzM.mp (hsub a m')with z|z
  . exact hj (R.inj j i a m<|by rw[hl];exact zzD _ z)
  . exact R.dis j a m z
 refine⟨⟨by rw[zzU];exact R.len,λj hj=>?_,λj=>?_,λj k a h1 h2=>?_,hnd2,λj a h1 h2=>?_,λa z=>kn a<|R.ftr a z,λa z=>?_,λa z=>⟨kn a (R.gtr a<|gsub a z).1,(R.gtr a<|gsub a z).2⟩,λj s e=>?_⟩,g⟩
 . rw[zzU]at hj;rw[yb<|q0x hi hj];exact R.out j hj
 . by_cases e:j=i
   . subst e;rw[zX];exact zzW.mpr ⟨λm=>lsub l (zzP _ m) rfl,hnd1⟩
   . rw[yb e];exact R.nd j
 . by_cases e:j=i
   . subst e
     by_cases e':k=j
     . exact e'.symm
     . rw[zX]at h1;rw[yb e']at h2
       rcases zzC.mp h1 with z|z
       . subst z;exact R.inj j k a hli h2
       . exact(inT k a e' h2<|zzP _ z).elim
   . rw[yb e]at h1
     by_cases e':k=i
     . subst e';rw[zX]at h2
       rcases zzC.mp h2 with z|z
       . subst z;exact R.inj j k a h1 hli
       . exact(inT j a e h1<|zzP _ z).elim
     . rw[yb e']at h2;exact R.inj j k a h1 h2
 . by_cases e:j=i
   . subst e;rw[zX]at h1
     rcases zzC.mp h1 with z|z
     . subst z;exact lsub a (zzL _ h2) rfl
     . exact hnd3 a z a h2 rfl
   . rw[yb e]at h1;exact inT j a e h1<|zzL _ h2
 . obtain⟨b1,b2,b3⟩:=R.btr a z;exact⟨kn a b1,b2,λy=>b3<|gsub a y⟩
 . by_cases q:j=i
   . subst q;rw[zyK hi]at e;cases e;rw[zX];refine⟨_,hs,ro _ _ z_ g λa m w h=>?_⟩;rw[zG<|lsub a<|zzP _ m];exact h
   . rw[zzY<|Ne.symm q]at e;rw[yb q];refine(R.sl j s e).grow g λa m w h=>?_;rw[zG λz=>q<|R.inj j i l (by rw[<-z];exact m) hli];exact h
abbrev MG:=List O->List O->Option (List O×O)
noncomputable def ZQ(i:Nat)(fr:DF)(g:MG):EF:=λas=>match as[i]? with
 |some (some (.nd .ls _))=>(fr as).bind λp=>match p.2[i]? with
  |some (some (.nd .ls os))=>(g os p.1).bind λz=>some (.ow z.2,p.2.set i<|some<|.nd .ls z.1)
  |_=>none
 |_=>none
def fz(X:Cx)(kd:KD)(r:V->List V->Hp->VK->Prop)(g:MG):Prop:=
 ∀(F B G:Addr->Prop) (l:Addr) (vs ws:List V) (os es os':List O) (o:O) (fp fq:List Addr) (H:Hp) (Q:VK),H l=some (.lst vs)->Za X.K kd F B G H vs os fp->Za X.K kd F B G H ws es fq->(fp++fq).Nodup->g os es=some (os',o)->
  (∀v vs' fp' fo,Za X.K kd F B G H vs' os' fp'->Xj X.K kd F B G H v o fo->(∀a ∈ fp'++fo,a ∈ fp++fq)->(fp'++fo).Nodup->Q v (upd H l<|.lst vs'))->r (.ref l) ws H Q
def g8{i:Nat}{fr g r}(hr:fz X kd r g)
 (h:al X.K kd (ZQ i fr g) σ H Q):cj X.K "list" r (Ry i) (bt X.K kd fr) σ H Q:=by
 obtain⟨F,B,U,as,z,as',R,e,q⟩:=h;unfold ZQ at e;cases k:as[i]? with
 |none=>rw[k]at e;cases e
 |some a0=>
  rw[k]at e
  match a0,e,k with
  |some (.nd .ls os0),e,k=>
   obtain⟨⟨G,s⟩,h1,e⟩:=bS_<|e;obtain⟨v0,f,t⟩:=R.sl i _ k;generalize W:U i=fp0 at t;cases t with
   |ls I rl0=>
   rename_i l vs0 Y;refine⟨_,f,.inl ⟨rfl,_,.inl<|.inl I⟩,F,B,U,as,G,s,R,h1,λws J x L j M g1=>?_⟩;cases p:s[i]? with
   |none=>rw[p]at e;cases e
   |some a2=>
    rw[p]at e
    match a2,e,p with
    |some (.nd .ls Z),e,p=>
     obtain⟨⟨y,o⟩,h3,e⟩:=bS_<|e;cases e;obtain⟨v1,A,C⟩:=j.sl i _ p;rw[f]at A;cases A;generalize c:x i=fp1 at C;cases C with
     |ls hH rl=>
     rename_i vs fp;have N:=zxE.mpr ⟨by have:=j.nd i;rw[c]at this;exact(zzW.mp this).2,j.tnd,λa m b m' e=>by
          subst e;exact j.dis i a (by rw[c];exact zzD _ m) m'⟩
     refine hr F B (Gw J x) _ vs ws Z G y o fp J L Q hH rl M N h3 λv D fp' fo O P d E=>?_;obtain⟨R3,g3⟩:=j.mut (zzG.mp p).1 c f d E (by rw[hH];simp) λH' G' S gr kp=>.ls S<|Za.grow gr kp O;have T:∀a ∈ fo,∀w,L a=some w->upd L l (.lst D) a=some w:=λa m w h=>by
          rw[zG λe=>?_]
          . exact h
          . subst e
            rcases zzM.mp (d _<|zzL _ m)with z|z
            . have:=j.nd i;rw[c]at this;exact(zzW.mp this).1 z
            . exact j.dis i _ (by rw[c];exact zzF) z
     exact q v fo _ _ R3 (Xj.grow g3 T P)<|g1.trans g3
end
end PF
end
section
set_option exponentiation.threshold 5000
namespace PF
open PySem PySem.Spec PyProof.Rows L2
section
variable{K:zzA}{kd:KD}{O:Addr->Prop}{H:Hp}{Q:VK}
def yc(q:RQ K kd O H Q (.im d))(r:Rp K kd O H v d):Q v H:=q v H (λ_ _ z=>z) r
def Cr(hp:H p=none)(r:RpL K kd O H vs ds):RpL K kd (QL O (· = p)) (upd H p o) vs ds:=
 RpL.grow ⟨λb u q _=>by rw[zG<|zZ q hp];exact q,λb z=>.inr<|by rw[z];exact hp⟩ (r.less λa z=>z.elim id False.elim)
def r6(hp:H p=none)(r:RpM K kd O H vs ds):RpM K kd (QL O (· = p)) (upd H p o) vs ds:=
 RpM.grow ⟨λb u q _=>by rw[zG<|zZ q hp];exact q,λb z=>.inr<|by rw[z];exact hp⟩ (r.less λa z=>z.elim id False.elim)
def xF{p o}(hp:H p=none):∀b u,H b=some u->upd H p o b=some u:=λb u q=>by rw[zG<|zZ q hp];exact q
def Tv{vs ds}(q:RQ K kd O H Q (.fl ds))(r:RpL K kd O H vs ds):∀p,H p=none->Q (.ref p) (upd H p<|.lst vs):=λp hp=>
 q p vs _ hp (xF hp) z_ (Cr hp r)
def ue{vs ds}(q:RQ K kd O H Q (.fd ds))(r:RpM K kd O H vs ds):∀p,H p=none->Q (.ref p) (upd H p<|.dK vs):=λp hp=>
 q p vs _ hp (xF hp) z_ (r6 hp r)
def Mh{vs ds}(ht:∀a,O a->H a≠none)(q:RQ K kd O H Q (.im<|.tup ds))(r:RpL K kd O H vs ds):∀p,H p=none->Q (.ref p) (upd H p<|.tup vs):=λp hp=>
 q _ _ (xF hp) (.tup (λz=>ht p z hp) (.inl z_)<|(Cr hp r).less λa z=>.inl z)
end
def big:Nat:=2 ^ 4000
def Hb(h:i.natAbs<big):Builtin.Int.intBits i<=2 ^ 20:=by
 unfold Builtin.Int.intBits
 split
 . exact Nat.zero_le _
 . have:i.natAbs.log2<4000:=by
    rcases Nat.eq_zero_or_pos i.natAbs with a|b
    . rw[a];decide
    . exact(Nat.log2_lt<|Nat.ne_of_gt b).mpr h
   have e:(2:Nat) ^ 20=1048576:=by decide
   omega
def qM{i}(h:i.natAbs<2 ^ 64):Builtin.Int.intBits i<=64:=by
 unfold Builtin.Int.intBits
 split
 . exact Nat.zero_le _
 . rcases Nat.eq_zero_or_pos i.natAbs with h0|hp
   . rw[h0];decide
   . exact(Nat.log2_lt<|Nat.ne_of_gt hp).mpr h
def pF(f:Int->Int->Option R0)(x y:D):Option R0:=(CN x).bind λi=>(CN y).bind λj=>f i j
def dE(x y:D):Option R0:=match x with
 | .int i=>(CN y).bind λj=>some<|.im<|.int<|i+j
 | .str x=>(cu y).bind λy=>if x.length+y.length<=sizeLine then some (.im<|.str<|x++y)else none
 | .lst xs=>(nM y).bind λys=>if xs.length+ys.length<=sizeLine then some (.fl<|xs++ys)else none
 | .tup xs=>(eg y).bind λys=>if xs.length+ys.length<=sizeLine then some (.im<|.tup<|xs++ys)else none
 |_=>none
def eQ(x y:D):Option R0:=match x with
 | .int i=>(CN y).bind λj=>if(i.natAbs<big/\j.natAbs<big)\/j.natAbs<2 ^ 64 then some (.im<|.int<|i*j)else none
 | .lst xs=>(CN y).bind λk=>if -(2 ^ 63)<=k/\k<2 ^ 63/\xs.length*k.toNat<=sizeLine then some (.fl (List.replicate k.toNat xs).flatten)else none
 | .tup xs=>(CN y).bind λk=>if 1<=k/\k<2 ^ 63/\xs.length≠0/\xs.length*k.toNat<=sizeLine then some (.im<|.tup (List.replicate k.toNat xs).flatten)else none
 |_=>none
def Y4(o:Operator)(x y:D):Option R0:=match o with
 | .Add=>dE x y
 | .Sub=>pF (λi j=>some<|.im<|.int<|i-j) x y
 | .Mult=>eQ x y
 | .FloorDiv=>pF (λi j=>if 0<j/\j.natAbs<big then some (.im<|.int<|i/j)else none) x y
 | .Mod=>pF (λi j=>if 0<j then some (.im<|.int<|i%j)else none) x y
 | .Pow=>pF (λi j=>if 0<=j/\j<=1000000/\i.natAbs<2 ^ 64 then some (.im<|.int<|i ^ j.toNat)else none) x y
 |_=>none
def W_{K kd O H v d i}(h:Vw K kd O H v d)(e:CN d=some i):d = .int i/\v = .int i:=by
 cases h with
 |int j=>cases e;exact⟨rfl,rfl⟩
 |_=>cases e
def lE{K kd O H v d i}(h:Vw K kd O H v d)(e:cu d=some i):d = .str i/\v = .str i:=by
 cases h with
 |str j=>cases e;exact⟨rfl,rfl⟩
 |_=>cases e
def Wt{K kd O H v w d e f r}(vx:Vw K kd O H v d)(vy:Vw K kd O H w e)(h:pF f d e=some r):∃i j,v = .int i/\w = .int j/\f i j=some r:=by
 obtain⟨i,a,h⟩:=bS_<|h;obtain⟨j,b,h⟩:=bS_ h;exact⟨i,j,(W_ vx a).2,(W_ vy b).2,h⟩
section
variable{X:Cx}{kd:KD}
def qI:Gf X (binaryOp .Add) (λx y H Q=>∃l b xs zs,x = .ref l/\y = .ref b/\uX X.K H l xs/\uX X.K H b zs/\xs.length+zs.length<=sizeLine/\∀p,H p=none->Q (.ref p) (upd H p<|.lst<|xs++zs)):=by
 intro d s σ H x y v u Q I g i h;obtain⟨l,b,w,A,rfl,rfl,j,k,B,q⟩:=h;cases g;cases i;obtain⟨z,c,n,r,e⟩:=HW I j;obtain⟨C,a,D,f,m⟩:=HW I k;have E:=r.length;have o:=f.length;refine PySem.P.add_list e m ?_ (by rw[zzH,zzH];omega);have t:c.toArray++a.toArray=(c++a).toArray:=by simp
 rw[t];exact⟨.ref _,_,I.lnew (t':=s.toks) (r.append f) (by rw[zzJ];omega),rfl,q _ I.fresh⟩
def r9:Gf X (binaryOp .Mult) (λx y H Q=>∃l k xs,x = .ref l/\y = .int k/\uX X.K H l xs /\ -(2 ^ 63)<=k/\k<2 ^ 63/\xs.length*k.toNat<=sizeLine/\
 ∀p,H p=none->Q (.ref p) (upd H p<|.lst (List.replicate k.toNat xs).flatten)):=by
 intro w s σ H x y v u Q I B C h;obtain⟨l,k,N,rfl,rfl,D,E,G,A,q⟩:=h;cases B;obtain⟨t,rfl⟩:=C;obtain⟨z,b,n,r,e⟩:=HW I D;have J:=r.length;have d:b.toArray.size*k.toNat<=sizeLine:=by rw[zzH,<-J];exact A
 have f:¬b.toArray.size*k.toNat > (2 ^ 63-1)/8:=by
  have:sizeLine<=(2 ^ 63-1)/8:=by decide
  omega
 have g:¬(!Builtin.List.listFitsIndex k)=true:=by
  rw[fitsIndex_both E G];exact zyV
 have c:¬Builtin.List.listTooLong (b.toArray.size*k.toNat)=true:=by
  rw[uU d];exact zyV
 have i:List.foldl (λj o=>j++o) #[] (List.replicate (if b.toArray.isEmpty=true then 0 else k.toNat) b.toArray)=(List.replicate k.toNat b).flatten.toArray:=by
  have L:=λm=>by
   have:=foldl_rep b m [];rw[List.nil_append]at this;exact this
  rw[L];cases b with
  |nil=>simp
  |cons a O=>rw[if_neg<|by simp]
 refine wpAny_binaryOp_repeat_ref (by decide) ⟨_,e,rfl⟩ (λM=>typeIs_int M k t) noFill_list_mul F.fills_int_mul F.slot_int_rmul repeat_list F.slot_int_index.lookup
  (call_meets F.slot_int_rmul (typeIs_int s k t) F.entry_int_rmul (F.args_int_rmul_2 _ _) (int___rmul___int_list k t l b.toArray n)
   ⟨e,rfl,⟨_,e,rfl⟩,call_meets F.slot_list_mul ⟨_,e,rfl⟩ F.entry_list_mul (F.args_list_mul_2 _ _) (AutoListH.list___mul___list_int_3 l b.toArray n k t g f c) ⟨e, ?_⟩⟩)
 rw[i];refine⟨.ref _,_,I.lnew (t':=s.toks) (r.rep k.toNat) ?_,rfl,q _ I.fresh⟩;rw[len_rep,Nat.mul_comm];exact A
def tuple_addW0(l b)(items items2)(n n2:Nat)(dd dd2)(sl sl2)(h0:items.isEmpty=true):
 Meets (Builtin.«tuple.__add__» {pos:=[.ref l,.ref b]}) (λ_ R s=>s.heap.get? l=some {cls:=.type "tuple",dict:=dd,data:=.seq items n,slots:=sl}/\s.heap.get? b=some {cls:=.type "tuple",dict:=dd2,data:=.seq items2 n2,slots:=sl2}/\R (.ok<|.ret<|.ref b) s):=
 .of_wp λa w A R s h=>by
  obtain⟨f,g,d,i,j⟩:=s;obtain⟨c,e,h⟩:=h;have f2:=AutoSeq1.sub_tuple_tuple
  wp_walk using wpAny_loadPart' c,wpAny_loadPart' e
  exact⟨_,rfl,h⟩
def Hw(l)(items)(n:Nat)(dd)(sl)(u):
 Meets (Builtin.«tuple.__mul__» {pos:=[.ref l,.int 1 u]}) (λ_ R s=>s.heap.get? l=some {cls:=.type "tuple",dict:=dd,data:=.seq items n,slots:=sl}/\R (.ok<|.ret<|.ref l) s):=
 .of_wp λa w A R s h=>by
  obtain⟨c,g,d,e,f⟩:=s;obtain⟨b,h⟩:=h;have f2:=AutoSeq1.sub_tuple_tuple
  wp_walk using wpAny_loadPart' b
  exact⟨_,rfl,h⟩
def SD(l)(items its2:Array Value)(n:Nat)(dd)(sl)(x)(u)(c1:¬(decide (x < -2 ^ 63)||decide (x ≥ 2 ^ 63))=true)(c2:¬(items.isEmpty||x==1)=true)(c3:¬(decide (x<=0)||items.isEmpty)=true)
 (hcap:¬(items.size:Int)*x > (2 ^ 63-1)/8) (ht:¬Builtin.Tuple.tupleTooMany (items.size*x)=true) (hz:¬(List.foldl (λx1 x2=>x1++x2) #[] (List.replicate x.toNat items)).size > sizeLine):
 Meets (Builtin.«tuple.__mul__» {pos:=[.ref l,.int x u]}) (λ_ R s=>s.heap.get? l=some {cls:=.type "tuple",dict:=dd,data:=.seq items n,slots:=sl}/\R (.ok<|.ret<|.ref s.heap.objs.size) {s with heap:=s.heap.push {cls:=.type "tuple",data:=.seq (List.foldl (λx1 x2=>x1++x2) #[] (List.replicate x.toNat items))}}):=
 .of_wp λa w A R s h=>by
  obtain⟨c,g,d,e,f⟩:=s;obtain⟨b,h⟩:=h;have f2:=AutoSeq1.sub_tuple_tuple
  wp_walk using wpAny_loadPart' b
  rw[if_neg c1]
  wp_walk using wpAny_loadPart' b
  rw[if_neg hcap]
  wp_walk
  exact⟨_,rfl,h⟩
def TV:fillsNumberSlot (Value.type "tuple") "mul"=pure false:=PySem.fillsNumberSlot_seq rfl rfl rfl rfl
def Fi:seqRepeat? (Value.type "tuple")=pure (some<|Value.builtin "tuple.__mul__"):=W.of_pureOf rfl
def Lz(a)(t)(l)(items)(n:Nat)(dd)(sl):
 Meets (Builtin.«int.__rmul__» {pos:=[.int a t,.ref l]}) (λ_ R s=>s.heap.get? l=some {cls:=.type "tuple",dict:=dd,data:=.seq items n,slots:=sl}/\R (.ok<|.ret .notImplemented) s):=
 .of_wp λb w A R s h=>by
  obtain⟨e,g,d,f,i⟩:=s;obtain⟨c,h⟩:=h
  wp_walk using wpAny_load' c,wpAny_loadPart' c
  exact⟨_,rfl,h⟩
def sx:Gf X (binaryOp .Add) (λx y H Q=>∃a b ys,x = .ref a/\y = .ref b/\RF X.K H a []/\RF X.K H b ys/\Q (.ref b) H):=by
 intro j s σ H x y v u Q I t w h;obtain⟨a,b,M,rfl,rfl,z,A,q⟩:=h;cases t;cases w;obtain⟨B,C,D,_⟩:=I.tuple z;obtain⟨k,N,E,_⟩:=I.tuple A;cases C;obtain⟨⟨cls,G,l,J⟩,m,o,n,p⟩:=id D;obtain⟨⟨r,f,g,i⟩,c,d,L,e⟩:=id E;simp only at o p d e;subst o p d e;exact concat_meets ⟨_,m,rfl⟩ ⟨_,c,rfl⟩ noFill_tuple_add seq_tuple_add PySem.F.slot_tuple_add PySem.F.entry_tuple_add (PySem.F.args_tuple_add_2 _ _) (tuple_addW0 a b _ _ n L G f J i rfl) ⟨m,c,⟨.ref b,H,I,rfl,q⟩⟩
def qN:Gf X (binaryOp .Mult) (λx y H Q=>∃l k xs,x = .ref l/\y = .int k/\RF X.K H l xs/\xs≠[]/\1<=k/\k<2 ^ 63/\xs.length*k.toNat<=sizeLine/\(k=1->Q (.ref l) H)/\
 (2<=k->∀p,H p=none->Q (.ref p) (upd H p<|.tup (List.replicate k.toNat xs).flatten))):=by
 intro A s σ H x y v u Q I M N h;obtain⟨l,k,B,rfl,rfl,O,i,Y,Z,C,P,R⟩:=h;cases M;obtain⟨t,rfl⟩:=N;obtain⟨c,r,p,_⟩:=I.tuple O;have j:=r.length;have f:c.toArray.size*k.toNat<=sizeLine:=by rw[zzH,<-j];exact C
 have g:((c.toArray.size:Int)*k)=((c.toArray.size*k.toNat:Nat):Int):=by
  rw[zzV,zyY<|by omega]
 have D:c.toArray.isEmpty=false:=by
  cases c with
  |nil=>rw[List.length_nil]at j;exact absurd (List.length_eq_zero_iff.mp j) i
  |cons a r'=>rfl
 have d:List.foldl (λS V=>S++V) #[] (List.replicate k.toNat c.toArray)=(List.replicate k.toNat c).flatten.toArray:=by
  have:=foldl_rep c k.toNat [];rw[List.nil_append]at this;exact this
 obtain⟨⟨cls,m,E,w⟩,e,G,n,J⟩:=id p;simp only at G J;subst G J;refine wpAny_binaryOp_repeat_ref (by decide) ⟨_,e,rfl⟩ (λW=>typeIs_int W k t) TV F.fills_int_mul F.slot_int_rmul Fi F.slot_int_index.lookup
  (call_meets F.slot_int_rmul (typeIs_int s k t) F.entry_int_rmul (F.args_int_rmul_2 _ _) (Lz k t l c.toArray n m w) ⟨e,rfl,⟨_,e,rfl⟩, ?_⟩)
 by_cases L:k=1
 . subst L;exact call_meets F.slot_tuple_mul ⟨_,e,rfl⟩ F.entry_tuple_mul (F.args_tuple_mul_2 _ _) (Hw l c.toArray n m w t) ⟨e,⟨.ref l,H,I,rfl,P rfl⟩⟩
 . have z:(List.replicate k.toNat B).flatten.length<=sizeLine:=by rw[len_rep,Nat.mul_comm];exact C
   refine call_meets F.slot_tuple_mul ⟨_,e,rfl⟩ F.entry_tuple_mul (F.args_tuple_mul_2 _ _) (SD l c.toArray #[] n m w k t (by simp;omega) (by rw[D];simpa using L) (by rw[D];simp;omega) ?_ ?_ ?_) ⟨e, ?_⟩
   . rw[g];have:(sizeLine:Int)<=(2 ^ 63-1)/8:=by decide
     omega
   . unfold Builtin.Tuple.tupleTooMany;rw[g];simp only[gt_iff_lt,decide_eq_true_eq];omega
   . rw[d,zzH,len_rep,Nat.mul_comm];rw[zzH]at f;omega
   . rw[d];refine⟨.ref s.heap.objs.size,_,I.laid (t':=s.toks) (λb ob q=>zxH _ q) (zzN _) ?_,rfl,R (by omega) _<|I.hok.fresh<|zzN _⟩;exact⟨z,_,r.rep k.toNat,IsTup.new _ _⟩
def mH(op):nK X kd (binaryOp op) (Y4 op):=by
 intro pins s σ H x y v u Q I rx ry h;obtain⟨O,d,e,r,ht,vx,vy,he,q⟩:=h;cases op with
 |Add=>
  cases vx with
  |int i=>
   obtain⟨j,h1,he⟩:=bS_<|he;obtain⟨rfl,rfl⟩:=W_ vy h1;cases he;exact m_ pins s σ H _ _ v u Q I rx ry ⟨_,_,rfl,rfl,yc q<|.int _⟩
  |str i=>
   obtain⟨j,h1,he⟩:=bS_<|he;obtain⟨rfl,rfl⟩:=lE vy h1;obtain⟨c,rfl⟩:=zv he;exact OC pins s σ H _ _ v u Q I rx ry ⟨_,_,rfl,rfl,c,yc q<|.str _⟩
  |lst hx rx'=>
   obtain⟨j,h1,he⟩:=bS_<|he;cases TX h1;obtain⟨c,rfl⟩:=zv he;cases vy with
   |lst hy ry'=>exact qI pins s σ H _ _ v u Q I rx ry ⟨_,_,_,_,rfl,rfl,hx,hy,by rw[rx'.length,ry'.length];exact c,Tv q<|rx'.append ry'⟩
  | @tup a1 vs1 ds1 r1 hx rx'=>
   obtain⟨j,h1,he⟩:=bS_<|he;cases DO h1;obtain⟨c,rfl⟩:=zv he;cases vy with
   |tup r2 hy ry'=>
    by_cases h0:vs1=([]:List V)
    . subst h0;cases rx';exact sx pins s σ H _ _ v u Q I rx ry ⟨_,_,_,rfl,rfl,hx,hy,yc q r2⟩
    refine su pins s σ H _ _ v u Q I rx ry ⟨_,_,_,_,rfl,rfl,hx,hy,h0,by rw[rx'.length,ry'.length];exact c,λhn=>?_,λhn=>Mh ht q<|rx'.append ry'⟩
    . subst hn;cases ry';rw[zyE]at q;exact yc q r1
  |_=>cases he
 |Sub=>
  obtain⟨i,j,rfl,rfl,he⟩:=Wt vx vy he;cases he;exact lq pins s σ H _ _ v u Q I rx ry ⟨_,_,rfl,rfl,yc q<|.int _⟩
 |Mult=>
  cases vx with
  |int i=>
   obtain⟨j,h1,he⟩:=bS_<|he;obtain⟨rfl,rfl⟩:=W_ vy h1;obtain⟨c,rfl⟩:=zv he;obtain⟨t,rfl⟩:=rx;obtain⟨t',rfl⟩:=ry;exact mul_int ⟨.int _,H,I.tok _,⟨_,rfl⟩,yc q<|.int _⟩ (c.elim (λc=>IntMulOk.of_bits (Hb c.1)<|Hb c.2) λc=>IntMulOk.of_right<|qM c)
  |lst hx rx'=>
   obtain⟨j,h1,he⟩:=bS_<|he;obtain⟨rfl,rfl⟩:=W_ vy h1;obtain⟨c,rfl⟩:=zv he;exact r9 pins s σ H _ _ v u Q I rx ry ⟨_,_,_,rfl,rfl,hx,c.1,c.2.1,by rw[rx'.length];exact c.2.2,Tv q<|rx'.rep _⟩
  |tup r1 hx rx'=>
   obtain⟨j,h1,he⟩:=bS_<|he;obtain⟨rfl,rfl⟩:=W_ vy h1;obtain⟨c,rfl⟩:=zv he;refine qN pins s σ H _ _ v u Q I rx ry ⟨_,_,_,rfl,rfl,hx,λe=>?_,c.1,c.2.1,by rw[rx'.length];exact c.2.2.2,λe=>?_,λ_=>Mh ht q<|rx'.rep _⟩
   . have:=rx'.length;rw[e]at this;exact c.2.2.1 this.symm
   . subst e;refine yc q ?_;rw[show(1:Int).toNat=1 from rfl,List.replicate_one,List.flatten_cons,List.flatten_nil,zyE];exact r1
  |_=>cases he
 |FloorDiv=>
  obtain⟨i,j,rfl,rfl,he⟩:=Wt vx vy he;obtain⟨c,rfl⟩:=zv he;obtain⟨t,rfl⟩:=rx;obtain⟨t',rfl⟩:=ry;refine floordiv_int (by omega) ?_<|.inl<|PyProof.noPylong_of_log2 ?_
  . rw[Int.fdiv_eq_ediv_of_nonneg _<|by omega];exact⟨.int _,H,I.tok _,⟨_,rfl⟩,yc q<|.int _⟩
  . exact zzK ((Nat.log2_lt<|by have:=c.1;omega).mpr<|c.2) (by decide)
 |Mod=>
  obtain⟨i,j,rfl,rfl,he⟩:=Wt vx vy he;obtain⟨c,rfl⟩:=zv he;exact nR pins s σ H _ _ v u Q I rx ry ⟨_,_,rfl,rfl,c,yc q<|.int _⟩
 |Pow=>
  obtain⟨i,j,rfl,rfl,he⟩:=Wt vx vy he;obtain⟨c,rfl⟩:=zv he;exact nB pins s σ H _ _ v u Q I rx ry ⟨_,_,rfl,rfl,c,yc q<|.int _⟩
 |_=>cases he
end
noncomputable def qT(f:D->D->Option Bool):List D->List D->Option Bool
 | [],[]=>some true
 |x::r,y::t=>(f x y).bind λb=>(qT f r t).bind λc=>some (b&&c)
 |_,_=>some false
def Xi:Nat->D->D->Option Bool
 |0,_,_=>none
 |_+1,.non,.non=>some true
 |_+1,.bl a,.bl b=>some (a==b)
 |_+1,.int a,.int b=>some (a==b)
 |_+1,.str a,.str b=>some (a==b)
 |_+1,.bl a,.int b=>some ((if a then 1 else 0)==b)
 |_+1,.int a,.bl b=>some (a==(if b then 1 else 0))
 |n+1,.lst xs,.lst ys=>qT (Xi n) xs ys
 |n+1,.tup xs,.tup ys=>qT (Xi n) xs ys
 |_+1,.dct _,_=>none
 |_+1,.cl _,_=>none
 |_+1,.ob _ _ _,_=>none
 |_+1,_,.dct _=>none
 |_+1,_,.cl _=>none
 |_+1,_,.ob _ _ _=>none
 |_+1,_,_=>some false
noncomputable def u5(f:D->D->Option Bool)(xs ys:List D)(j:Nat):Bool:=match xs[j]?,ys[j]? with
 |some d,some e=>(f d e).getD false
 |_,_=>false
theorem LX:∀{xs ys:List D}{b:Bool},qT f xs ys=some b->(∀(j:Nat) d e,xs[j]? = some d->ys[j]? = some e->∃c,f d e=some c)/\
 b=((List.range<|min xs.length ys.length).all (u5 f xs ys)&&xs.length==ys.length)
 | [],[],b,h=>by cases h;exact⟨λj d e h=>by simp at h,by simp⟩
 | [],y::t,b,h=>by cases h;exact⟨λj d e h=>by simp at h,by simp⟩
 |x::r,[],b,h=>by cases h;exact⟨λj d e _ h=>by simp at h,by simp⟩
 |x::r,y::t,b,h=>by
  obtain⟨b1,h1,h⟩:=bS_<|h;obtain⟨c1,h2,h⟩:=bS_ h;cases h;obtain⟨k1,k2⟩:=LX h2;refine⟨λj d e hd he=>?_, ?_⟩
  . cases j with
    |zero=>simp at hd he;subst hd he;exact⟨b1,h1⟩
    |succ j=>exact k1 j d e (by simpa using hd) (by simpa using he)
  . have e0:min (x::r).length (y::t).length=min r.length t.length+1:=by simp only[zzT];omega
    rw[e0,List.range_succ_eq_map,List.all_cons,List.all_map,k2];have e1:u5 f (x::r) (y::t) 0=b1:=by show(f x y).getD false=b1;rw[h1];rfl
    have e2:(u5 f (x::r) (y::t)∘Nat.succ)=u5 f r t:=by
     funext j;unfold u5;simp
    have e3:((x::r).length==(y::t).length)=(r.length==t.length):=by
     by_cases hh:r.length=t.length<;>simp[hh]
    rw[e1,e2,e3,Bool.and_assoc]
structure EqAll(A:Around)(s:Shared)(u v:Value)(b:Bool):Prop where
 rc:SeqAt.RcAt A s u v b
 ne:SeqAt.RcNeAt A s u v (!b)
 eq:SeqAt.EqAt A s u v b
section
variable{X:Cx}{kd:KD}{pins:List (Addr×Obj)}{σ:St}{H:Hp}{s:Shared}{O:Addr->Prop}
def Cv(I:Inv X pins σ H s)(h:RF X.K H a xs)(h':VX X.K H a ys):False:=by
 obtain⟨_,_,⟨o,e,c,_⟩,_⟩:=I.tuple h;obtain⟨_,_,⟨f,n,b,d,_⟩,_⟩:=I.list h';rw[e]at b;cases b;rw[c]at d;exact absurd d (by decide)
theorem C6(I:Inv X pins σ H s):∀(n:Nat) (v:V) (d e:D) (b:Bool),Vw X.K kd O H v d->Vw X.K kd O H v e->Xi n d e=some b->b=true
 |0,_,_,_,_,_,_,h=>by cases h
 |n+1,v,d,e,b,p,f,h=>by
  have lst:∀(i:List V) (l m:List D) (b:Bool),RpL X.K kd O H i l->RpL X.K kd O H i m->qT (Xi n) l m=some b->b=true:=by
   intro i
   induction i with
   |nil=>intro l m b g a h;cases g;cases a;cases h;rfl
   |cons v i q=>
    intro l m b g a h;cases g with
    |cons r g=>
     cases a with
     | cons t a=>
            obtain⟨y,u,h⟩:=bS_<|h;obtain⟨z,w,h⟩:=bS_ h;cases h;rw[C6 I n _ _ _ _ r.vw t.vw u,q _ _ _ g a w];rfl
  cases p with
  |non=>cases f;cases h;rfl
  |bl x=>cases f;cases h;simp
  |int x=>cases f;cases h;simp
  |str x=>cases f;cases h;simp
  |tup g j o=>
   cases f with
   |tup a c k=>
    have:=I.tuple_inj j c;subst this;exact lst _ _ _ _ o k h
   |lst c k=>exact(Cv I j c.sq).elim
   |_=>cases h
  |lst j o=>
   cases f with
   |tup a c k=>exact(Cv I c j.sq).elim
   |lst c k=>
    have:=I.list_inj j.sq c.sq;subst this;exact lst _ _ _ _ o k h
   |_=>cases h
  |_=>cases h
theorem BG(I:Inv X pins σ H s):∀(n:Nat) (A:Around) (x y:V) (d e:D) (u v:Value) (b:Bool),A.units+n<cLine->Vw X.K kd O H x d->Vw X.K kd O H y e->RelV x u->RelV y v->Xi n d e=some b->EqAll A s u v b
 |0,_,_,_,_,_,_,_,_,_,_,_,_,_,h=>by cases h
 |n+1,A,x,y,d,e,u,v,b,hu,h1,E,R,k,h=>by
  have f:A.units<cLine:=by omega
  have W:∀{vs ws:List V}{l g:List Value}{S T:List D},RpL X.K kd O H vs S->RpL X.K kd O H ws T->zS vs l->zS ws g->(∀(j:Nat) d e,S[j]? = some d->T[j]? = some e->∃c,Xi n d e=some c)->
   ∀j h1 (E:j<g.toArray.size),SeqAt.EqAt A.in1 s l.toArray[j] g.toArray[j] (u5 (Xi n) S T j):=by
   intro vs ws l g S T F q v1 v2 hd j j1 j2;have q1:j<S.length:=by rw[<-F.length,v1.length];simpa using j1
   have q2:j<T.length:=by rw[<-q.length,v2.length];simpa using j2
   obtain⟨L,ha1,ra1⟩:=F.get<|zzE q1;obtain⟨M,ha2,ra2⟩:=q.get<|zzE q2;obtain⟨u1,hu1,ru1⟩:=v1.get ha1;obtain⟨u2,hu2,ru2⟩:=v2.get ha2;obtain⟨c,hc⟩:=hd j _ _ (zzE q1)<|zzE q2;have e1:l.toArray[j]=u1:=by
    have:=(zzG.mp hu1).2;simpa using this
   have e2:g.toArray[j]=u2:=by
    have:=(zzG.mp hu2).2;simpa using this
   rw[e1,e2];have e3:u5 (Xi n) S T j=c:=by
    unfold u5;rw[zzE q1,zzE q2];show(Xi n _ _).getD false=c;rw[hc];rfl
   rw[e3];exact(BG I n A.in1 L M _ _ u1 u2 c (by show A.units+1+n<cLine;omega) ra1.vw ra2.vw ru1 ru2 hc).eq
  have G:∀{a a':Addr},x = .ref a->y = .ref a'->a=a'->b=true:=by
   intro a a' e1 e2 e3;subst e1 e2 e3;exact C6 I (n+1) _ _ _ _ h1 E h
  cases h1 with
  |non=>
   cases R;cases E with
   |non=>cases k;cases h;exact⟨SeqAt.RcAt.none_none,SeqAt.RcNeAt.none_none,SeqAt.EqAt.same _⟩
   |bl=>cases k;cases h;exact⟨SeqAt.RcAt.none_bool _,SeqAt.RcNeAt.none_bool _,SeqAt.EqAt.none_bool _⟩
   |int=>obtain⟨t,rfl⟩:=k;cases h;exact⟨SeqAt.RcAt.none_int _ _,SeqAt.RcNeAt.none_int _ _,SeqAt.EqAt.none_int _ _⟩
   |str=>obtain⟨t,rfl⟩:=k;cases h;exact⟨SeqAt.RcAt.none_str _ _,SeqAt.RcNeAt.none_str _ _,SeqAt.EqAt.none_str _ _⟩
   |tup r o q=>
    cases k;cases h;obtain⟨l,J,p,_⟩:=I.tuple o;exact⟨SeqAt.RcAt.none_tuple p f,SeqAt.RcNeAt.none_tuple p f,SeqAt.EqAt.none_tuple p f⟩
   |lst o q=>
    cases k;cases h;obtain⟨l,J,p,_⟩:=I.list o.sq;exact⟨SeqAt.RcAt.none_list p.isList f,SeqAt.RcNeAt.none_list p.isList f,SeqAt.EqAt.none_list p.isList f⟩
   |_=>cases h
  |bl c=>
   cases R;cases E with
   |non=>cases k;cases h;exact⟨SeqAt.RcAt.bool_none _,SeqAt.RcNeAt.bool_none _,SeqAt.EqAt.bool_none _⟩
   |bl=>cases k;cases h;exact⟨SeqAt.RcAt.bool_bool _ _,SeqAt.RcNeAt.bool_bool _ _,SeqAt.EqAt.bool_bool _ _⟩
   |int=>obtain⟨t,rfl⟩:=k;cases h;exact⟨SeqAt.RcAt.bool_int _ _ _,SeqAt.RcNeAt.bool_int _ _ _,SeqAt.EqAt.bool_int _ _ _⟩
   |str=>obtain⟨t,rfl⟩:=k;cases h;exact⟨SeqAt.RcAt.bool_str _ _ _,SeqAt.RcNeAt.bool_str _ _ _,SeqAt.EqAt.bool_str _ _ _⟩
   |tup r o q=>
    cases k;cases h;obtain⟨l,J,p,_⟩:=I.tuple o;exact⟨SeqAt.RcAt.bool_tuple _ p f,SeqAt.RcNeAt.bool_tuple _ p f,SeqAt.EqAt.bool_tuple _ p f⟩
   |lst o q=>
    cases k;cases h;obtain⟨l,J,p,_⟩:=I.list o.sq;exact⟨SeqAt.RcAt.bool_list _ p.isList f,SeqAt.RcNeAt.bool_list _ p.isList f,SeqAt.EqAt.bool_list _ p.isList f⟩
   |_=>cases h
  |int c=>
   obtain⟨t0,rfl⟩:=R;cases E with
   |non=>cases k;cases h;exact⟨SeqAt.RcAt.int_none _ _,SeqAt.RcNeAt.int_none _ _,SeqAt.EqAt.int_none _ _⟩
   |bl=>cases k;cases h;exact⟨SeqAt.RcAt.int_bool _ _ _,SeqAt.RcNeAt.int_bool _ _ _,SeqAt.EqAt.int_bool _ _ _⟩
   |int=>obtain⟨t,rfl⟩:=k;cases h;exact⟨SeqAt.RcAt.int_int _ _ _ _,SeqAt.RcNeAt.int_int _ _ _ _,SeqAt.EqAt.int_int _ _ _ _⟩
   |str=>obtain⟨t,rfl⟩:=k;cases h;exact⟨SeqAt.RcAt.int_str _ _ _ _,SeqAt.RcNeAt.int_str _ _ _ _,SeqAt.EqAt.int_str _ _ _ _⟩
   |tup r o q=>
    cases k;cases h;obtain⟨l,J,p,_⟩:=I.tuple o;exact⟨SeqAt.RcAt.int_tuple _ _ p f,SeqAt.RcNeAt.int_tuple _ _ p f,SeqAt.EqAt.int_tuple _ _ p f⟩
   |lst o q=>
    cases k;cases h;obtain⟨l,J,p,_⟩:=I.list o.sq;exact⟨SeqAt.RcAt.int_list _ _ p.isList f,SeqAt.RcNeAt.int_list _ _ p.isList f,SeqAt.EqAt.int_list _ _ p.isList f⟩
   |_=>cases h
  |str c=>
   obtain⟨t0,rfl⟩:=R;cases E with
   |non=>cases k;cases h;exact⟨SeqAt.RcAt.str_none _ _,SeqAt.RcNeAt.str_none _ _,SeqAt.EqAt.str_none _ _⟩
   |bl=>cases k;cases h;exact⟨SeqAt.RcAt.str_bool _ _ _,SeqAt.RcNeAt.str_bool _ _ _,SeqAt.EqAt.str_bool _ _ _⟩
   |int=>obtain⟨t,rfl⟩:=k;cases h;exact⟨SeqAt.RcAt.str_int _ _ _ _,SeqAt.RcNeAt.str_int _ _ _ _,SeqAt.EqAt.str_int _ _ _ _⟩
   |str=>obtain⟨t,rfl⟩:=k;cases h;exact⟨SeqAt.RcAt.str_str _ _ _ _,SeqAt.RcNeAt.str_str _ _ _ _,SeqAt.EqAt.str_str _ _ _ _⟩
   |tup r o q=>
    cases k;cases h;obtain⟨l,J,p,_⟩:=I.tuple o;exact⟨SeqAt.RcAt.str_tuple _ _ p f,SeqAt.RcNeAt.str_tuple _ _ p f,SeqAt.EqAt.str_tuple _ _ p f⟩
   |lst o q=>
    cases k;cases h;obtain⟨l,J,p,_⟩:=I.list o.sq;exact⟨SeqAt.RcAt.str_list _ _ p.isList f,SeqAt.RcNeAt.str_list _ _ p.isList f,SeqAt.EqAt.str_list _ _ p.isList f⟩
   |_=>cases h
  | @tup L vs1 N r s1 F=>
   cases R;obtain⟨m,z,i,_⟩:=I.tuple s1;cases E with
   |non=>cases k;cases h;exact⟨SeqAt.RcAt.tuple_none i f,SeqAt.RcNeAt.tuple_none i f,SeqAt.EqAt.tuple_none i f⟩
   |bl=>cases k;cases h;exact⟨SeqAt.RcAt.tuple_bool _ i f,SeqAt.RcNeAt.tuple_bool _ i f,SeqAt.EqAt.tuple_bool _ i f⟩
   |int=>obtain⟨t,rfl⟩:=k;cases h;exact⟨SeqAt.RcAt.tuple_int _ _ i f,SeqAt.RcNeAt.tuple_int _ _ i f,SeqAt.EqAt.tuple_int _ _ i f⟩
   |str=>obtain⟨t,rfl⟩:=k;cases h;exact⟨SeqAt.RcAt.tuple_str _ _ i f,SeqAt.RcNeAt.tuple_str _ _ i f,SeqAt.EqAt.tuple_str _ _ i f⟩
   | @tup M vs2 P r' o q=>
    cases k;obtain⟨g,w,B,_⟩:=I.tuple o;obtain⟨k1,k2⟩:=LX h;have Y:=W F q z w k1;have Z:((List.range<|min m.toArray.size g.toArray.size).all (u5 (Xi n) N P)&&m.toArray.size==g.toArray.size)=b:=by
     rw[k2,zzH,zzH,<-z.length,<-w.length,F.length,q.length]
    have U:=SeqAt.RcAt.tuples i B f Y;have b2:=SeqAt.RcNeAt.tuples i B f Y;rw[Z]at U b2;refine⟨U,b2, ?_⟩
    by_cases Q:L=M
    . have hb:=G rfl rfl Q;subst Q;rw[hb];exact SeqAt.EqAt.same _
    . exact SeqAt.EqAt.of_refs Q U
   |lst o q=>
    cases k;cases h;obtain⟨l,J,p,_⟩:=I.list o.sq;exact⟨SeqAt.RcAt.tuple_list i p.isList f,SeqAt.RcNeAt.tuple_list i p.isList f,SeqAt.EqAt.tuple_list i p.isList f⟩
   |_=>cases h
  | @lst L vs1 N s1 F=>
   cases R;obtain⟨m,z,i,_⟩:=I.list s1.sq;cases E with
   |non=>cases k;cases h;exact⟨SeqAt.RcAt.list_none i.isList f,SeqAt.RcNeAt.list_none i.isList f,SeqAt.EqAt.list_none i.isList f⟩
   |bl=>cases k;cases h;exact⟨SeqAt.RcAt.list_bool _ i.isList f,SeqAt.RcNeAt.list_bool _ i.isList f,SeqAt.EqAt.list_bool _ i.isList f⟩
   |int=>obtain⟨t,rfl⟩:=k;cases h;exact⟨SeqAt.RcAt.list_int _ _ i.isList f,SeqAt.RcNeAt.list_int _ _ i.isList f,SeqAt.EqAt.list_int _ _ i.isList f⟩
   |str=>obtain⟨t,rfl⟩:=k;cases h;exact⟨SeqAt.RcAt.list_str _ _ i.isList f,SeqAt.RcNeAt.list_str _ _ i.isList f,SeqAt.EqAt.list_str _ _ i.isList f⟩
   |tup r' o q=>
    cases k;cases h;obtain⟨g,w,B,_⟩:=I.tuple o;exact⟨SeqAt.RcAt.list_tuple i.isList B f,SeqAt.RcNeAt.list_tuple i.isList B f,SeqAt.EqAt.list_tuple i.isList B f⟩
   | @lst M vs2 P o q=>
    cases k;obtain⟨g,w,B,_⟩:=I.list o.sq;obtain⟨k1,k2⟩:=LX h;have Y:=W F q z w k1;have ez1:=zzH.trans<|z.length.symm.trans F.length;have ez2:=zzH.trans<|w.length.symm.trans q.length;have C:SeqAt.RcAt A s (.ref L) (.ref M) b/\SeqAt.RcNeAt A s (.ref L) (.ref M) (!b):=by
     by_cases hz:m.toArray.size=g.toArray.size
     . have U:=SeqAt.RcAt.lists i.isList B.isList hz f Y;have b2:=SeqAt.RcNeAt.lists i.isList B.isList hz f Y;have Z:(List.range m.toArray.size).all (u5 (Xi n) N P)=b:=by
        rw[k2,<-ez1,<-ez2,<-hz,Nat.min_self];simp
       rw[Z]at U b2;exact⟨U,b2⟩
     . have hz':(m.toArray.size != g.toArray.size)=true:=by simpa using hz
       have Z:b=false:=by
        rw[k2,<-ez1,<-ez2];have:(m.toArray.size==g.toArray.size)=false:=by simpa using hz
        rw[this,Bool.and_false]
       rw[Z];exact⟨SeqAt.RcAt.lists_lengths i.isList B.isList hz' f,SeqAt.RcNeAt.lists_lengths i.isList B.isList hz' f⟩
    refine⟨C.1,C.2, ?_⟩
    by_cases Q:L=M
    . have hb:=G rfl rfl Q;subst Q;rw[hb];exact SeqAt.EqAt.same _
    . exact SeqAt.EqAt.of_refs Q C.1
   |_=>cases h
  |_=>cases h
end
structure DkAt(P:Program)(w:World)(h:Heap)(a:Addr)(kvs:List (Key×V)):Prop where
 le:kvs.length<=sizeLine
 ns:(a==sysModules)=false
 ex:∃vs,KV kvs vs/\h.DictOf (wu P w) a vs
structure KdOk(X:Cx)(kd:KD):Prop where
 inj:∀a k k',kd a k->kd a k'->k=k'
 inK:∀a k,kd a k->∃o,X.K.lookup a=some o
 at_:∀a k h,kd a k->X.K.In h->DkAt X.prog X.w h a k
section
variable{X:Cx}{kd:KD}{pins:List (Addr×Obj)}{σ:St}{H:Hp}{s:Shared}{O:Addr->Prop}
def Nc(I:Inv X pins σ H s)(hk:KdOk X kd)(h:Rd H a (.dK kvs)\/kd a kvs):DkAt X.prog X.w s.heap a kvs:=by
 rcases h with h|h
 . obtain⟨z,hd,vs,rel,dd⟩:=gz I.hok h;exact⟨z,hd,vs,rel,dd⟩
 . exact hk.at_ _ _ _ h I.kIn
theorem A9(I:Inv X pins σ H s):∀(n:Nat) (v:V) (d e x:D) (b c:Bool),Vw X.K kd O H v d->Vw X.K kd O H v e->Xi n d x=some b->Xi n e x=some c->b=c
 |0,_,_,_,_,_,_,_,_,h,_=>by cases h
 |n+1,v,d,e,x,b,c,h1,h2,h,h'=>by
  have lst:∀(vs:List V) (ds es xs:List D) (b c:Bool),RpL X.K kd O H vs ds->RpL X.K kd O H vs es->qT (Xi n) ds xs=some b->qT (Xi n) es xs=some c->b=c:=by
   intro vs
   induction vs with
   |nil=>intro ds es xs b c r1 r2 h h';cases r1;cases r2;exact zzZ (h.symm.trans h')
   |cons v vs ih=>
    intro ds es xs b c r1 r2 h h';cases r1 with
    |cons a1 r1=>
     cases r2 with
     | cons a2 r2=>
            cases xs with
            |nil=>cases h;cases h';rfl
            |cons x xs=>
             obtain⟨b1,k1,h⟩:=bS_<|h;obtain⟨c1,k2,h⟩:=bS_ h;obtain⟨b2,k3,h'⟩:=bS_<|h';obtain⟨c2,k4,h'⟩:=bS_ h';cases h;cases h';rw[A9 I n _ _ _ _ _ _ a1.vw a2.vw k1 k3,ih _ _ _ _ _ r1 r2 k2 k4]
  cases h1 with
  |tup r1 s1 l1=>
   cases h2 with
   |tup r2 s2 l2=>
    have:=I.tuple_inj s1 s2;subst this;cases x with
    |tup xs=>exact lst _ _ _ _ _ _ l1 l2 h h'
    |_=>exact zzZ (h.symm.trans h')
   |lst s2 l2=>exact(Cv I s1 s2.sq).elim
   |_=>cases h'
  |lst s1 l1=>
   cases h2 with
   |tup r2 s2 l2=>exact(Cv I s2 s1.sq).elim
   |lst s2 l2=>
    have:=I.list_inj s1.sq s2.sq;subst this;cases x with
    |lst xs=>exact lst _ _ _ _ _ _ l1 l2 h h'
    |_=>exact zzZ (h.symm.trans h')
   |_=>cases h'
  |dct s1 l1=>cases h
  |cl=>cases h
  |ob=>cases h
  |_=>cases h2;exact zzZ<|h.symm.trans h'
end
def sE:D->Option Key
 | .int i=>some<|.inl i
 | .str x=>some (.inr x)
 |_=>none
def PM(kvs:List (Key×D))(k:Key):Option D:=(kvs.find? λkv=>decide (kv.1=k)).map (·.2)
def BD{K O}(k)(h:RpM K kd O H vs ds):(∃v d,T6 vs k=some v/\PM ds k=some d/\Rp K kd O H v d)\/(T6 vs k=none/\PM ds k=none):=
 RpM.ind (P:=λvs ds=>(∃v d,T6 vs k=some v/\PM ds k=some d/\Rp K kd O H v d)\/(T6 vs k=none/\PM ds k=none)) (.inr ⟨rfl,rfl⟩) (λ{k' v d vs ds} a _ ih=>by
  by_cases e:k'=k
  . left;refine⟨_,_, ?_, ?_,a⟩
    . unfold T6;simp[e]
    . unfold PM;simp[e]
  . rcases ih with⟨v,d,h1,h2,h3⟩|⟨h1,h2⟩
    . left;refine⟨v,d, ?_, ?_,h3⟩
      . unfold T6 at h1 ⊢;simpa[e]using h1
      . unfold PM at h2 ⊢;simpa[e]using h2
    . right;refine⟨?_, ?_⟩
      . unfold T6 at h1 ⊢;simpa[e]using h1
      . unfold PM at h2 ⊢;simpa[e]using h2) h
noncomputable def anyF(f:D->Option Bool):List D->Option Bool
 | []=>some false
 |x::r=>(f x).bind λb=>(anyF f r).bind λc=>some (b||c)
def sY(b:Bool):R0:=.im<|.bl b
def d7(x:D):D->Option Bool
 | .lst ys=>anyF (λy=>Xi 50 y x) ys
 | .tup ys=>anyF (λy=>Xi 50 y x) ys
 | .str y=>match x with | .str i=>some (!(Builtin.Str.occurrences y i 0 y.length 1).isEmpty)|_=>none
 | .dct kvs=>(sE x).bind λk=>some (PM kvs k).isSome
 |_=>none
noncomputable def eH:D->D->Option Bool
 |d,.non=>some (match d with | .non=>true|_=>false)
 |d,.bl b=>match d with | .bl c=>some (c==b)|_=>some false
 |_,_=>none
def JS(f:Int->Int->Bool):D->D->Option R0:=pF λi j=>some<|sY<|f i j
def zz(o:CmpOp)(d e:D):Option R0:=match o with
 | .Eq=>(Xi 60 d e).bind λb=>some<|sY b
 | .NotEq=>(Xi 60 d e).bind λb=>some<|sY !b
 | .Lt=>JS (λi j=>decide (i<j)) d e
 | .LtE=>JS (λi j=>decide (i<=j)) d e
 | .Gt=>JS (λi j=>decide (j<i)) d e
 | .GtE=>JS (λi j=>decide (j<=i)) d e
 | .In=>(d7 d e).bind λb=>some<|sY b
 | .NotIn=>(d7 d e).bind λb=>some<|sY !b
 | .Is=>(eH d e).bind λb=>some<|sY b
 | .IsNot=>(eH d e).bind λb=>some<|sY !b
def Ua{o:Option Bool}{f:Bool->Bool}(h:(o.bind λb=>some<|sY<|f b)=some r):∃k,r = .im (.bl k):=by
 obtain⟨b,_,h⟩:=bS_ h;cases h;exact⟨_,rfl⟩
def La(h:JS f x y=some r):∃k,r = .im (.bl k):=by
 obtain⟨i,_,h⟩:=bS_<|h;obtain⟨j,_,h⟩:=bS_ h;cases h;exact⟨_,rfl⟩
def qC(op:CmpOp)(x y:D)(r)(h:zz op x y=some r):∃k,r = .im (.bl k):=by
 cases op with
 |Eq=>exact Ua h
 |NotEq=>exact Ua h
 |Lt=>exact La h
 |LtE=>exact La h
 |Gt=>exact La h
 |GtE=>exact La h
 |In=>exact Ua h
 |NotIn=>exact Ua h
 |Is=>exact Ua h
 |IsNot=>exact Ua h
section
variable{X:Cx}{kd:KD}{pins:List (Addr×Obj)}{σ:St}{H:Hp}{s:Shared}{O:Addr->Prop}
noncomputable def tR(K:zzA)(kd:KD)(O:Addr->Prop)(H:Hp)(n:Nat)(x:D)(u:Value):Bool:=@decide (∃v d,RelV v u/\Rp K kd O H v d/\Xi n d x=some true)<|Classical.propDecidable _
def B1(I:Inv X pins σ H s)(hk:KdOk X kd){n:Nat}(r:RelV v u)(p:Rp X.K kd O H v d)(e:Xi n d x=some b):tR X.K kd O H n x u=b:=by
 unfold tR;cases b with
 |true=>exact @zyO _ (Classical.propDecidable _) ⟨v,d,r,p,e⟩
 |false=>
  refine @zyG _ (Classical.propDecidable _) λ⟨v',d',r',p',e'⟩=>?_;have:=r.inj r';subst this;exact Bool.noConfusion<|A9 I n _ _ _ _ _ _ p.vw p'.vw e e'
def Le(I:Inv X pins σ H s)(hk:KdOk X kd){n:Nat}(hv:zS vs us)(h:RpL X.K kd O H vs ds)(e:anyF (λy=>Xi n y x) ds=some b):us.any (tR X.K kd O H n x)=b:=
 RpL.ind (P:=λvs ds=>∀us b,zS vs us->anyF (λy=>Xi n y x) ds=some b->us.any _=b) (λus b hv e=>by cases e;cases hv;rfl) (λ{v d vs ds} a _ ih us b hv h=>by
  cases hv with
  |cons r t=>
   obtain⟨b1,h1,h⟩:=bS_<|h;obtain⟨c1,h2,h⟩:=bS_ h;cases h;rw[List.any_cons,B1 I hk r a h1,ih _ _ t h2]) h us b hv e
theorem X8:∀{ds:List D}{b:Bool},anyF f ds=some b->∀d ∈ ds,∃c,f d=some c
 | [],_,_,d,hd=>by simp at hd
 |x::r,b,h,d,hd=>by
  obtain⟨b1,h1,h⟩:=bS_<|h;obtain⟨c1,h2,h⟩:=bS_ h
  rcases zzC.mp hd with e|e
  . subst e;exact⟨b1,h1⟩
  . exact X8 h2 d e
def Pu(I:Inv X pins σ H s)(hk:KdOk X kd){n:Nat}(hu:A.units+n<cLine)(vx:Vw X.K kd O H x d)(rx:RelV x v)(hv:zS vs us)(h:RpL X.K kd O H vs ds)(k:∀e ∈ ds,∃c,Xi n e d=some c):∀u ∈ us,SeqAt.EqAt A s u v (tR X.K kd O H n d u):=
 RpL.ind (P:=λvs ds=>∀us,zS vs us->(∀e ∈ ds,∃c,Xi n e d=some c)->∀u ∈ us,SeqAt.EqAt A s u v<|tR X.K kd O H n d u) (λus hv _ u hu=>by cases hv;simp at hu) (λa q ih us hv h u hm=>by
  cases hv with
  |cons r t=>
   rcases zzC.mp hm with e|e
   . subst e;obtain⟨c,hc⟩:=h _ zzF;rw[B1 I hk r a hc];exact(BG I n A _ _ _ _ _ _ _ hu a.vw vx r rx hc).eq
   . exact ih _ t (λe he=>h e<|zzD _ he) u e) h us hv k
def NZ(vx:Vw X.K kd O H x d)(rx:RelV x v)(e:eH d (.bl b)=some c)(h:Q c s):wpAny (model X.prog X.w) A (isSame v<|.bool b) Q E s:=by
 cases vx with
 |non=>cases rx;cases e;exact zxG h
 |bl k=>
  cases rx;have e:=e;cases e;refine zxG ?_;cases k<;>cases b<;>exact h
 |int=>obtain⟨t,rfl⟩:=rx;cases e;exact zxG h
 |str=>obtain⟨t,rfl⟩:=rx;cases e;exact zxG h
 |tup=>cases rx;cases e;exact zxG h
 |lst=>cases rx;cases e;exact zxG h
 |dct=>cases rx;cases e;exact zxG h
 |cl=>cases rx;cases e;exact zxG h
 |ob=>cases rx;cases e;exact zxG h
def Ga(hk:KdOk X kd)(hu:X.A.units+100<cLine)(op):nK X kd (compareOp op) (zz op):=by
 intro pins s σ H x y v u Q I rx ry h;obtain⟨O,d,e,r,ht,vx,vy,he,q⟩:=h;cases op with
 |Eq=>
  obtain⟨b,h1,he⟩:=bS_<|he;cases he;exact(BG I 60 X.A x y d e v u b (q1y hu) vx vy rx ry h1).rc _ _ _ _ (wI I (yc q<|.bl _) rfl)
 |NotEq=>
  obtain⟨b,h1,he⟩:=bS_<|he;cases he;exact(BG I 60 X.A x y d e v u b (q1y hu) vx vy rx ry h1).ne _ _ _ _ (wI I (yc q<|.bl _) rfl)
 |Lt=>
  obtain⟨i,j,rfl,rfl,he⟩:=Wt vx vy he;cases he;exact kJ pins s σ H _ _ v u Q I rx ry ⟨_,_,rfl,rfl,yc q<|.bl _⟩
 |LtE=>
  obtain⟨i,j,rfl,rfl,he⟩:=Wt vx vy he;cases he;exact i8 pins s σ H _ _ v u Q I rx ry ⟨_,_,rfl,rfl,yc q<|.bl _⟩
 |Gt=>
  obtain⟨i,j,rfl,rfl,he⟩:=Wt vx vy he;cases he;exact iD pins s σ H _ _ v u Q I rx ry ⟨_,_,rfl,rfl,yc q<|.bl _⟩
 |GtE=>
  obtain⟨i,j,rfl,rfl,he⟩:=Wt vx vy he;cases he;exact kW pins s σ H _ _ v u Q I rx ry ⟨_,_,rfl,rfl,yc q<|.bl _⟩
 |In=>
  obtain⟨b,h1,he⟩:=bS_<|he;cases he;cases vy with
  |lst hs rl=>
   cases ry;obtain⟨its,rv,p,_⟩:=I.list hs.sq;refine SeqAt.in_listAt _ p.isList (λw hw=>Pu I hk (by show X.A.units+1+50<cLine;exact q0f hu) vx rx rv rl (X8 h1) w<|by simpa using hw) ?_;have:=Le I hk rv rl h1;rw[show its.toArray.any _=b by rw[<-this];simp];exact wI (I) (yc q<|.bl _) rfl
  |tup rp hs rl=>
   cases ry;obtain⟨its,rv,p,_⟩:=I.tuple hs;refine SeqAt.in_tupleAt _ p (λw hw=>Pu I hk (by show X.A.units+1+50<cLine;exact q0f hu) vx rx rv rl (X8 h1) w<|by simpa using hw) ?_;have:=Le I hk rv rl h1;rw[show its.toArray.any _=b by rw[<-this];simp];exact wI (I) (yc q<|.bl _) rfl
  |str z=>
   cases vx with
   |str i=>cases h1;exact Jw pins s σ H _ _ v u Q I rx ry ⟨_,_,rfl,rfl,yc q<|.bl _⟩
   |_=>cases h1
  |dct hs rm=>
   cases ry;obtain⟨k,k1,h1⟩:=bS_ h1;cases h1;obtain⟨z,hd,vs,rel,dd⟩:=Nc I hk hs;have ek:x=kV k:=by
    cases vx with
    |int i=>cases k1;rfl
    |str i=>cases k1;rfl
    |_=>cases k1
   subst ek;refine wpAny_in_of (C5 rx) hd dd.mapOf ?_;rw[<-(rel.val k).isSome_eq]
   rcases BD k rm with⟨v1,d1,e1,e2,_⟩|⟨e1,e2⟩
   . rw[e1];rw[e2]at q;exact wI (I.tok _) (yc q<|.bl _) rfl
   . rw[e1];rw[e2]at q;exact wI (I.tok _) (yc q<|.bl _) rfl
  |_=>cases h1
 |NotIn=>
  obtain⟨b,h1,he⟩:=bS_<|he;cases he;cases vy with
  |lst hs rl=>
   cases ry;obtain⟨its,rv,p,_⟩:=I.list hs.sq;refine SeqAt.notIn_listAt _ p.isList (λw hw=>Pu I hk (by show X.A.units+1+50<cLine;exact q0f hu) vx rx rv rl (X8 h1) w<|by simpa using hw) ?_;have:=Le I hk rv rl h1;rw[show its.toArray.any _=b by rw[<-this];simp];exact wI (I) (yc q<|.bl _) rfl
  |tup rp hs rl=>
   cases ry;obtain⟨its,rv,p,_⟩:=I.tuple hs;refine SeqAt.notIn_tupleAt _ p (λw hw=>Pu I hk (by show X.A.units+1+50<cLine;exact q0f hu) vx rx rv rl (X8 h1) w<|by simpa using hw) ?_;have:=Le I hk rv rl h1;rw[show its.toArray.any _=b by rw[<-this];simp];exact wI (I) (yc q<|.bl _) rfl
  |str z=>
   cases vx with
   |str i=>cases h1;exact Bc pins s σ H _ _ v u Q I rx ry ⟨_,_,rfl,rfl,yc q<|.bl _⟩
   |_=>cases h1
  |dct hs rm=>
   cases ry;obtain⟨k,k1,h1⟩:=bS_ h1;cases h1;obtain⟨z,hd,vs,rel,dd⟩:=Nc I hk hs;have ek:x=kV k:=by
    cases vx with
    |int i=>cases k1;rfl
    |str i=>cases k1;rfl
    |_=>cases k1
   subst ek;refine wpAny_notIn_of (C5 rx) hd dd.mapOf ?_;rw[<-(rel.val k).isSome_eq]
   rcases BD k rm with⟨v1,d1,e1,e2,_⟩|⟨e1,e2⟩
   . rw[e1];rw[e2]at q;exact wI (I.tok _) (yc q<|.bl _) rfl
   . rw[e1];rw[e2]at q;exact wI (I.tok _) (yc q<|.bl _) rfl
  |_=>cases h1
 |Is=>
  obtain⟨b,h1,he⟩:=bS_<|he;cases he;cases vy with
  |non=>
   refine ml pins s σ H _ _ v u Q I rx ry ⟨rfl, ?_⟩;have:decide (x=V.non)=b:=by cases vx<;>(cases h1;rfl)
   rw[this];exact yc q (.bl b)
  |bl c=>
   cases ry;exact zxF (NZ vx rx h1<|zxG<|wI I (yc q<|.bl _) rfl)
  |_=>cases h1
 |IsNot=>
  obtain⟨b,h1,he⟩:=bS_<|he;cases he;cases vy with
  |non=>
   refine qA pins s σ H _ _ v u Q I rx ry ⟨rfl, ?_⟩;have:decide (x=V.non)=b:=by cases vx<;>(cases h1;rfl)
   rw[this];exact yc q (.bl _)
  |bl c=>
   cases ry;exact zxF (NZ vx rx h1<|zxG<|wI I (yc q<|.bl _) rfl)
  |_=>cases h1
end
def CS{K kd O H vs ds i d}(r:RpL K kd O H vs ds)(h:CW ds i=some d):∃v,CW vs i=some v/\Rp K kd O H v d:=by
 unfold CW at h ⊢;obtain⟨j,a,b⟩:=bS_ h;rw[r.length,a];exact r.get b
def Dc(o:Option D):Option R0:=o.bind λd=>some<|.im d
def zx(x y:D):Option R0:=match x with
 | .lst xs=>(CN y).bind λi=>Dc<|CW xs i
 | .tup xs=>(CN y).bind λi=>Dc<|CW xs i
 | .str x=>(CN y).bind λi=>if x.length<=sizeLine then(CW x.cps.toList i).bind λc=>some (.im<|.str ⟨#[c]⟩)else none
 | .dct kvs=>(sE y).bind λk=>Dc (PM kvs k)
 |_=>none
def Ni(h:Dc o=some r):∃d,o=some d/\r = .im d:=by
 obtain⟨d,a,b⟩:=bS_<|h;cases b;exact⟨d,a,rfl⟩
section
variable{X:Cx}{kd:KD}
def uF{K O H x d k}(vx:Vw K kd O H x d)(e:sE d=some k):x=kV k:=by
 cases vx with
 |int i=>cases e;rfl
 |str i=>cases e;rfl
 |_=>cases e
def dA(hk:KdOk X kd):d8 X kd zx:=by
 intro b f g s σ H x y v u Q I A B h C;obtain⟨O,d,e,r,U,P,D,a,q⟩:=h;cases P with
 |lst m E=>
  obtain⟨i,n,a⟩:=bS_<|a;obtain⟨rfl,rfl⟩:=W_ D n;obtain⟨d,l,rfl⟩:=Ni a;obtain⟨w,p,j⟩:=CS E l;exact tQ b f g s σ H _ _ v u Q I A B ⟨_,_,_,w,rfl,rfl,m.sq,p,yc q j⟩ C
 |tup J m E=>
  obtain⟨i,n,a⟩:=bS_<|a;obtain⟨rfl,rfl⟩:=W_ D n;obtain⟨d,l,rfl⟩:=Ni a;obtain⟨w,p,j⟩:=CS E l;exact lS b f g s σ H _ _ v u Q I A B ⟨_,_,_,w,rfl,rfl,m,p,yc q j⟩ C
 |str z=>
  obtain⟨i,n,a⟩:=bS_<|a;obtain⟨rfl,rfl⟩:=W_ D n;obtain⟨R,a⟩:=ite_some' a;obtain⟨c,l,a⟩:=bS_ a;cases a;exact mW b f g s σ H _ _ v u Q I A B ⟨_,_,c,rfl,rfl,R,l,yc q<|.str _⟩ C
 |dct m S=>
  obtain⟨k,l,a⟩:=bS_<|a;obtain⟨d,K,rfl⟩:=Ni a;cases A;obtain⟨z,V,T,G,L⟩:=Nc I hk m;have:=uF D l;subst this
  rcases BD k S with⟨M,W,N,t,J⟩|⟨N,t⟩
  . rw[K]at t;cases t;obtain⟨Y,p,j⟩:=RY.some_of (by rw[<-N];exact G.val k);exact tail_any L.typeIs PySem.F.slot_dict_getitem.lookup (wpAny_getItem_of (C5 B) L.mapOf p ⟨M,H,I.tok _,j,yc q J⟩) C
  . rw[K]at t;cases t
 |_=>cases a
def cutD(xs:List D)(lo hi:Option Int):List D:=(xs.drop<|HT.sIx xs.length 0 lo).take<|HT.sIx xs.length xs.length hi-HT.sIx xs.length 0 lo
def CA{K O H vs ds}(r:RpL K kd O H vs ds)(lo hi):RpL K kd O H (Jy vs lo hi) (cutD ds lo hi):=by
 unfold Jy cutD;rw[r.length];exact(r.drop _).take _
def Tn(x:D)(lo hi:Option Int):Option R0:=match x with
 | .lst xs=>some<|.fl<|cutD xs lo hi
 | .tup xs=>if HT.sIx xs.length 0 lo=0/\HT.sIx xs.length xs.length hi=xs.length then none else some (.im<|.tup<|cutD xs lo hi)
 |_=>none
abbrev OF:=AS->Option (Option Int×AS)
def oN:OF:=λas=>some (none,as)
def oS(f:EF):OF:=λas=>(f as).bind λp=>(cC p.1).bind λi=>some (some i,p.2)
def Rj(fa:EF)(fl fh:OF)(g:D->Option Int->Option Int->Option R0):EF:=λas=>(fa as).bind λp=>(fl p.2).bind λl=>(fh l.2).bind λh=>(p.1.frz.view h.2).bind λx=>(g x.1 l.1 h.1).bind λr=>(wrap x.2 r).bind λz=>some (z,h.2)
def bQ(K:zzA)(kd:KD)(f:OF):TO:=λσ H Q=>∃F B ad as o as',Rel K kd F B [] ad as σ H/\f as=some (o,as')/\
 ∀ad' H',Rel K kd F B [] ad' as' σ H'->Grow (Gw [] ad) H (Gw [] ad') H'->Q o H'
@[irreducible] def AO(X:Cx)(kd:KD)(e:Option Expr)(f:OF):Prop:=PO X e<|bQ X.K kd f
def DR(h:PO X e t)(k:∀σ H Q,t' σ H Q->t σ H Q):PO X e t':=λa s σ H Q I q=>h a s σ H Q I<|k σ H Q q
def Be:AO X kd none oN:=by with_unfolding_all exact(DR rC λσ H Q h=>by
 obtain⟨F,B,a,as,o,b,R,e,q⟩:=h;cases e;exact q a H R Grow.refl)
def lO{K F B T ad σ H v st c}(h:xl K kd F B T ad σ H v (.ow<|.lf st<|.int c)):T=[]/\v = .int c:=by
 have h:=h;generalize b:Gw T ad=G at h;cases h with
 |lf a=>cases a;exact⟨rfl,rfl⟩
def K4{a fa}(ha:AE X kd a fa):AO X kd (some a) (oS fa):=by with_unfolding_all exact(DR (sy ha) λσ H Q h=>by
 obtain⟨F,B,d,as,o,f,R,e,q⟩:=h;obtain⟨⟨p,g⟩,j,e⟩:=bS_<|e;obtain⟨i,k,e⟩:=bS_ e;obtain⟨r,rfl⟩:=oG k;cases e;refine⟨F,B,d,as,_,_,R,j,λv s b l m c n=>?_⟩;obtain⟨rfl,rfl⟩:=lO c;exact⟨i,rfl,q b l m n⟩)
def dz:fM X (λx lo hi H Q=>∃O d r,(∀a,O a->H a≠none)/\Vw X.K kd O H x d/\Tn d lo hi=some r/\RQ X.K kd O H Q r):=by
 intro b s σ H x v j k e f l Q I m n o p h;obtain⟨O,d,r,t,u,c,q⟩:=h;cases u with
 |lst i g=>cases c;exact tq b s σ H _ v j k e f l Q I m n o p ⟨_,_,rfl,i.sq,Tv q<|CA g e f⟩
 |tup y i g=>
  have c:(if _ then none else some _:Option R0)=_:=c
  split at c
  . cases c
  . rename_i w;cases c;exact oQ b s σ H _ v j k e f l Q I m n o p ⟨_,_,rfl,i,by rw[g.length];exact w,Mh t q<|CA g e f⟩
 |_=>cases c
def Mf{a lo hi fa fl fh pos p2}(ha:AE X kd a fa)(hl:AO X kd lo fl)(hh:AO X kd hi fh):AE X kd (.Subscript a (.Slice lo hi none p2) pos) (Rj fa fl fh Tn):=by with_unfolding_all exact(yn (ux dz ha hl hh) λσ H Q h=>by
 obtain⟨F,B,O,as,r,s,R,e,q⟩:=h;obtain⟨⟨p,c⟩,t,e⟩:=bS_<|e;obtain⟨⟨l,b⟩,x,e⟩:=bS_ e;obtain⟨⟨u,y⟩,A,e⟩:=bS_ e;obtain⟨⟨d,P⟩,C,e⟩:=bS_ e;obtain⟨D,E,e⟩:=bS_ e;obtain⟨z,G,e⟩:=bS_ e;cases e;refine vU R t λv f S I g J=>⟨F,B,f,c,l,b,I,x,λi T R2 n=>⟨F,B,i,b,u,_,R2,A,λj U k o=>?_⟩⟩;exact⟨_,d,D,k.tr _,xl.vw k ((g.grow n).grow o) C,E,YE k G λw K L M m N=>q w K j L M m<|((J.trans n).trans o).trans N⟩)
def HR:D->Option R0
 | .int i=>some (.im<|.int (-i))
 |_=>none
def e_:cM X kd (unaryOp .USub) HR:=by
 intro a s σ H x v Q I c h;obtain⟨O,d,r,f,e,b,q⟩:=h;cases e with
 |int i=>cases b;exact lG a s σ H _ v Q I c ⟨i,rfl,yc q<|.int _⟩
 |_=>cases b
noncomputable def gk:D->String
 | .non=>"NoneType" | .bl _=>"bool" | .int _=>"int" | .str _=>"str" | .tup _=>"tuple" | .lst _=>"list" | .dct _=>"dict"|_=>""
def sM:D->Bool
 | .cl _=>false | .ob _ _ _=>false|_=>true
def IJ(t c:String):Bool:=t==c||(t=="bool"&&c=="int")
noncomputable def RM(c:String):Bool:=c=="int"||c=="bool"||c=="str"||c=="list"||c=="tuple"||c=="dict"
def o5(K)(d)(c)(h:RM c=true)(ho:sM d=true):W.kitOne K (.type<|gk d) (.type c)=some (IJ (gk d) c):=by
 have:c="int"\/c="bool"\/c="str"\/c="list"\/c="tuple"\/c="dict":=by
  unfold RM at h;simp only[Bool.or_eq_true,beq_iff_eq]at h
  rcases h with((((h|h)|h)|h)|h)|h<;>simp[h]
 rcases this with rfl|rfl|rfl|rfl|rfl|rfl<;>cases d<;>first|rfl|cases ho
def oX(hk:KdOk X kd){pins σ H s O A E Q c x u d}(I:Inv X pins σ H s)(rx:RelV x u)(vx:Vw X.K kd O H x d)(hc:RM c=true)(ho:sM d=true)
 (h:∀tk,Q (.bool<|IJ (gk d) c) {s with toks:=tk}):wpAny (model X.prog X.w) A (call (.builtin "isinstance") [u,.type c]) Q E s:=by
 have e:=o5 X.K d c hc ho;cases vx with
 |non=>cases rx;exact W.kia_one W.kitx_none I.kIn True.intro e (λz=>nomatch z) h
 |bl y=>cases rx;exact W.kia_one W.kitx_bool I.kIn True.intro e (λz=>nomatch z) h
 |int i=>obtain⟨t,rfl⟩:=rx;exact W.kia_one W.kitx_int I.kIn True.intro e (λz=>nomatch z) h
 |str y=>obtain⟨t,rfl⟩:=rx;exact W.kia_one W.kitx_str I.kIn True.intro e (λz=>nomatch z) h
 |lst a j=>
  cases rx;obtain⟨g,k,⟨o,n,b,f,_⟩,_⟩:=I.list a.sq;exact W.kia_one W.kitx_list I.kIn ⟨o,b,f⟩ e (λz=>nomatch z) h
 |tup m a j=>
  cases rx;obtain⟨g,k,⟨o,b,f,_⟩,_⟩:=I.tuple a;exact W.kia_one W.kitx_tuple I.kIn ⟨o,b,f⟩ e (λz=>nomatch z) h
 |dct a p=>
  cases rx;obtain⟨z,q,r,l,⟨o,v,B,b,f,_⟩⟩:=Nc I hk a;exact W.kia_one W.kitx_dict I.kIn ⟨o,b,f.1⟩ e (λz=>nomatch z) h
 |cl=>cases ho
 |ob=>cases ho
end
noncomputable def Qw:List D->Option (List Int)
 | []=>some []
 | .int i::r=>(Qw r).bind λs=>some (i::s)
 |_::_=>none
def kK:List Int->Int
 | []=>0
 |x::r=>r.foldl (λa b=>if a<b then b else a) x
def iS:List Int->Int
 | []=>0
 |x::r=>r.foldl (λa b=>if b<a then b else a) x
theorem El:∀(r:List Int) (x:Int),r.foldl (λa b=>if a<b then b else a) x ∈ x::r/\∀a ∈ x::r,a<=r.foldl (λa b=>if a<b then b else a) x
 | [],x=>⟨by simp,by simp⟩
 |y::r,x=>by
  rw[List.foldl_cons];obtain⟨h1,h2⟩:=El r _;refine⟨?_,λa ha=>?_⟩
  . rcases zzC.mp h1 with e|e
    . rw[e];split<;>simp
    . exact zzD _<|zzD _ e
  . have h3:=h2 _ zzF
    rcases zzC.mp ha with e|e
    . subst e;exact Int.le_trans (by split<;>omega) h3
    . rcases zzC.mp e with e|e
      . subst e;exact Int.le_trans (by split<;>omega) h3
      . exact h2 a<|zzD _ e
theorem EK:∀(r:List Int) (x:Int),r.foldl (λa b=>if b<a then b else a) x ∈ x::r/\∀a ∈ x::r,r.foldl (λa b=>if b<a then b else a) x<=a
 | [],x=>⟨by simp,by simp⟩
 |y::r,x=>by
  rw[List.foldl_cons];obtain⟨h1,h2⟩:=EK r _;refine⟨?_,λa ha=>?_⟩
  . rcases zzC.mp h1 with e|e
    . rw[e];split<;>simp
    . exact zzD _<|zzD _ e
  . have h3:=h2 _ zzF
    rcases zzC.mp ha with e|e
    . subst e;exact Int.le_trans h3 (by split<;>omega)
    . rcases zzC.mp e with e|e
      . subst e;exact Int.le_trans h3 (by split<;>omega)
      . exact h2 a<|zzD _ e
def qr(h1:M ∈ ns)(h2:∀a ∈ ns,a<=M):kK ns=M:=by
 cases ns with
 |nil=>simp at h1
 |cons x r=>
  obtain⟨k1,k2⟩:=El r x;have a1:=k2 M h1;have a2:=h2 _ k1;show r.foldl _ x=M;exact q1K a2 a1
def qp(h1:M ∈ ns)(h2:∀a ∈ ns,M<=a):iS ns=M:=by
 cases ns with
 |nil=>simp at h1
 |cons x r=>
  obtain⟨k1,k2⟩:=EK r x;have a1:=k2 M h1;have a2:=h2 _ k1;show r.foldl _ x=M;exact q1K a1 a2
def mw(f:D->Option R0)(ds:List D):Option R0:=match ds with
 | [x]=>f x
 |_=>none
def TY{K O}(vl:VwL K kd O H xs ds)(h:mw f ds=some r):∃x d,xs=[x]/\Vw K kd O H x d/\f d=some r:=by
 cases vl with
 |nil=>cases h
 |cons a b=>
  cases b with
  |nil=>exact⟨_,_,rfl,a,h⟩
  |cons _ _=>cases h
noncomputable def di:D->Option R0
 | .lst ds=>some<|.im<|.int ds.length
 | .tup ds=>some<|.im<|.int ds.length
 | .str x=>if x.length<=sizeLine then some (.im<|.int x.length)else none
 | .dct kvs=>some (.im<|.int kvs.length)
 |_=>none
def xC:List D->Option R0:=mw di
noncomputable def dD:D->Option R0
 | .int i=>some<|.im<|.int i
 | .bl b=>some (.im<|.int (if b then 1 else 0))
 |_=>none
noncomputable def tupP:List D->Option R0
 | [.lst ds]=>some<|.im<|.tup ds
 | [.tup ds]=>some (.im<|.tup ds)
 |_=>none
def et:D->Option R0
 | .lst ds=>some<|.fl ds
 | .tup ds=>some (.fl ds)
 |_=>none
def lstP:List D->Option R0:=mw et
def dctP:List D->Option R0
 | [.dct kvs]=>some (.fd kvs)
 |_=>none
def HA(ds:List D):Option R0:=match ds with
 | [x,y]=>pF (λi j=>some<|.im<|.int (if j > i then j else i)) x y
 | [x]=>(nM x).bind λds=>(Qw ds).bind λns=>if 0<ns.length then some (.im<|.int<|kK ns)else none
 |_=>none
def Ss:List D->Option R0
 | [.int i,.int j]=>some<|.im<|.int (if j<i then j else i)
 | [.lst ds]=>(Qw ds).bind λns=>if 0<ns.length then some (.im<|.int<|iS ns)else none
 |_=>none
def Lh{K O}(h:VwL K kd O H xs [d]):∃x,xs=[x]/\Vw K kd O H x d:=by
 cases h with
 |cons a b=>cases b;exact⟨_,rfl,a⟩
def C9{K O}(h:VwL K kd O H xs [d,e]):∃x y,xs=[x,y]/\Vw K kd O H x d/\Vw K kd O H y e:=by
 cases h with
 |cons a b=>
  cases b with
  |cons b c=>cases c;exact⟨_,_,rfl,a,b⟩
def Sy{K O}(h:RpL K kd O H vs ds)(e:Qw ds=some ns):vs=ns.map V.int:=
 RpL.ind (P:=λvs ds=>∀ns,Qw ds=some ns->vs=ns.map V.int) (λns e=>by cases e;rfl) (λ{v d vs ds} a _ ih ns e=>by
  cases d with
  |int i=>
   obtain⟨s,h1,h2⟩:=bS_<|e;cases h2;cases a;rw[ih _ h1];rfl
  |_=>cases e) h ns e
section
variable{X:Cx}{kd:KD}
def X_(hk:KdOk X kd):XB X kd (.builtin "len") xC:=by
 intro pins s σ H xs us Q I r h;obtain⟨O,ds,z,ht,vl,he,q⟩:=h;obtain⟨x,d,rfl,vx,he⟩:=TY vl he;cases vx with
 |lst hr rl=>cases he;exact PH pins s σ H _ us Q I r ⟨_,_,rfl,.inl hr.sq,by rw[rl.length];exact yc q<|.int _⟩
 |tup rp hr rl=>cases he;exact PH pins s σ H _ us Q I r ⟨_,_,rfl,.inr hr,by rw[rl.length];exact yc q<|.int _⟩
 |str y=>
  obtain⟨c,rfl⟩:=zv he;exact BC pins s σ H _ us Q I r ⟨_,rfl,c,yc q<|.int _⟩
 |dct hr rm=>
  cases he;obtain⟨u,rfl,ru⟩:=vals1 r;cases ru;obtain⟨z,hd,vs,rel,dd⟩:=Nc I hk hr;refine call_len_dict hd dd (by rw[<-rel.length];rw[sizeLine_eq]at z;omega) ?_;rw[<-rel.length,rm.length];exact⟨.int _,H,I.tok _,⟨_,rfl⟩,yc q<|.int _⟩
 |_=>cases he
def E2:XB X kd (.type "tuple") tupP:=by
 intro pins s σ H xs us Q I r h;obtain⟨O,ds,z,ht,vl,he,q⟩:=h;unfold tupP at he
 split at he
 . cases he;obtain⟨x,rfl,vx⟩:=Lh vl;cases vx with
   |lst hr rl=>exact UE pins s σ H _ us Q I r ⟨_,_,rfl,.inl ⟨hr.sq,Mh ht q rl⟩⟩
 . cases he;obtain⟨x,rfl,vx⟩:=Lh vl;cases vx with
   |tup rp hr rl=>exact UE pins s σ H _ us Q I r ⟨_,_,rfl,.inr ⟨hr,yc q rp⟩⟩
 . cases he
def I_:XB X kd (.type "list") lstP:=by
 intro pins s σ H xs us Q I r h;obtain⟨O,ds,z,ht,vl,he,q⟩:=h;obtain⟨x,d,rfl,vx,he⟩:=TY vl he;cases vx with
 |lst hr rl=>cases he;exact Pl pins s σ H _ us Q I r ⟨_,_,rfl,.inl hr.sq,Tv q rl⟩
 |tup rp hr rl=>cases he;exact Pl pins s σ H _ us Q I r ⟨_,_,rfl,.inr hr,Tv q rl⟩
 |_=>cases he
def JH(hk:KdOk X kd):XB X kd (.type "dict") dctP:=by
 intro pins s σ H xs us Q I r h;obtain⟨O,ds,z,ht,vl,he,q⟩:=h;unfold dctP at he
 split at he
 . cases he;obtain⟨x,rfl,vx⟩:=Lh vl;cases vx with
   |dct hr rm=>
    obtain⟨u,rfl,ru⟩:=vals1 r;cases ru;obtain⟨z,hd,vs,rel,dd⟩:=Nc I hk hr;refine kt_call_dict hd dd (by rw[<-rel.length];exact z) λh' dd' hs=>?_;refine⟨.ref _,_,(I.laid (t':=s.toks) (λb q hq=>?_) (zzN _)<|Dx z (beq_eq_false_iff_ne.mpr<|Ne.symm<|zzQ I.big) rel dd'),rfl,ue q rm _<|I.hok.fresh<|zzN _⟩;exact(hs.2 b<|zzQ<|zxI hq).trans<|zxH _ hq
 . cases he
def E8(hc:X.calm=true):XB X kd (.builtin "max") HA:=by
 intro pins s σ H xs us Q I r h;obtain⟨O,ds,z,ht,vl,he,q⟩:=h;cases vl with
 |nil=>cases he
 |cons vx vl=>
  cases vl with
  |nil=>
   obtain⟨ds,h0,he⟩:=bS_<|he;cases TX h0;obtain⟨ns,h1,he⟩:=bS_ he;obtain⟨c,rfl⟩:=zv he;cases vx with
   |lst hr rl=>
    obtain⟨u,rfl,ru⟩:=vals1 r;cases ru;obtain⟨its,rv,p,_⟩:=I.list hr.sq;rw[Sy rl h1]at rv;have hi:=intsAre_of rv;obtain⟨ys,e⟩:=hi.allInts.items;have hns:ns=ys.toList.map (·.1):=by rw[<-hi.numsOf,<-nums_intItems,<-e]
    have hsz:0<ys.size:=by
     have h3:=c;rw[hns,zzB,zyT]at h3;exact h3
    have hl:=p.isList;rw[e]at hl;refine max_intList (I.ok.hd hc) hl hsz λv h' tk hv kp=>?_;obtain⟨t,rfl⟩:=intItems_at hv;obtain⟨k1,k2⟩:=argBest_gt (numAt ys)<|ys.size-1;refine⟨.int _,H,I.kept kp,⟨t, ?_⟩,yc q<|.int _⟩
    congr 1
    refine(qr ?_ λa ha=>?_).symm
    . rw[hns,numAt_eq];have hlt:argBest (λi j=>decide (numAt ys i > numAt ys j)) (ys.size-1)<(ys.toList.map (·.1)).length:=by rw[zzB,zyT];exact q1d hsz k1
      rw[zyF,zzE hlt];exact zyZ hlt
    . rw[hns]at ha;obtain⟨j,hj,rfl⟩:=List.getElem_of_mem ha;have hj':=hj;rw[zzB,zyT]at hj;have:=k2 j<|q1c hsz hj;rw[numAt_eq ys j,zyF,zzE hj']at this;exact this
  |cons vy vl=>
   cases vl with
   |nil=>
    obtain⟨i,j,rfl,rfl,he⟩:=Wt vx vy he;cases he;exact Jj hc pins s σ H _ us Q I r ⟨_,_,rfl,yc q<|.int _⟩
   |cons _ _=>cases he
def IU(hc:X.calm=true):XB X kd (.builtin "min") Ss:=by
 intro pins s σ H xs us Q I r h;obtain⟨O,ds,z,ht,vl,he,q⟩:=h;unfold Ss at he
 split at he
 . cases he;obtain⟨x,y,rfl,vx,vy⟩:=C9 vl;cases vx;cases vy;exact Jn hc pins s σ H _ us Q I r ⟨_,_,rfl,yc q<|.int _⟩
 . obtain⟨ns,h1,he⟩:=bS_ he;obtain⟨c,rfl⟩:=zv he;obtain⟨x,rfl,vx⟩:=Lh vl;cases vx with
   |lst hr rl=>
    obtain⟨u,rfl,ru⟩:=vals1 r;cases ru;obtain⟨its,rv,p,_⟩:=I.list hr.sq;rw[Sy rl h1]at rv;have hi:=intsAre_of rv;obtain⟨ys,e⟩:=hi.allInts.items;have hns:ns=ys.toList.map (·.1):=by rw[<-hi.numsOf,<-nums_intItems,<-e]
    have hsz:0<ys.size:=by
     have h3:=c;rw[hns,zzB,zyT]at h3;exact h3
    have hl:=p.isList;rw[e]at hl;refine min_intList (I.ok.hd hc) hl hsz λv h' tk hv kp=>?_;obtain⟨t,rfl⟩:=intItems_at hv;obtain⟨k1,k2⟩:=argBest_lt (numAt ys)<|ys.size-1;refine⟨.int _,H,I.kept kp,⟨t, ?_⟩,yc q<|.int _⟩
    congr 1
    refine(qp ?_ λa ha=>?_).symm
    . rw[hns,numAt_eq];have hlt:argBest (λi j=>decide (numAt ys i<numAt ys j)) (ys.size-1)<(ys.toList.map (·.1)).length:=by rw[zzB,zyT];exact q1d hsz k1
      rw[zyF,zzE hlt];exact zyZ hlt
    . rw[hns]at ha;obtain⟨j,hj,rfl⟩:=List.getElem_of_mem ha;have hj':=hj;rw[zzB,zyT]at hj;have:=k2 j<|q1c hsz hj;rw[numAt_eq ys j,zyF,zzE hj']at this;exact this
 . cases he
end
noncomputable def Zn(env:Env):List (Str×NameKind)->List (Str×Addr)->List (Str×Addr)
 | [],cs=>cs
 |(n,k)::r,cs=>Zn env r (if k == .free then((n,(env.cells.lookup n).getD 0)::cs)else cs)
def UM(h:∀x ∈ scope.names,x.2 = .free->∃c,env.cells.lookup x.1=some c):closureFor scope env=pure (Zn env scope.names []):=by
 have s:∀b i f,
  (∀d g i,f (d,g) i=if g == .free then(do let a <-cellOf env d;pure (.yield ((d,a)::i)))else pure<|.yield i)->
  (∀x ∈ b,x.2 = .free->∃c,env.cells.lookup x.1=some c)->(forIn b i f:Sem _)=pure (Zn env b i):=by
  intro b
  induction b with
  |nil=>intro i f _ _;rfl
  |cons x r p=>
   intro i f l m;obtain⟨n,k⟩:=x;rw[List.forIn_cons,l];unfold Zn
   by_cases j:(k == .free)=true
   . obtain⟨c,q⟩:=m (n,k) zzF (by simpa using j);rw[if_pos j,if_pos j];have e:cellOf env n=pure c:=by unfold cellOf;rw[q]
     rw[e,q];exact p _ f l λy o=>m y<|zzD _ o
   . rw[if_neg j,if_neg j];exact p _ f l λy o=>m y<|zzD _ o
 simp only[closureFor];rw[s scope.names [] _ (λd g i=>?_) h]
 . rfl
 . rfl
theorem EG:∀(names:List (Str×NameKind)) (cs:List (Str×Addr)) (p:Str×Addr),p ∈ Zn env names cs->p ∈ cs\/((p.1,NameKind.free) ∈ names/\p.2=(env.cells.lookup p.1).getD 0)
 | [],_,_,h=>.inl h
 |(n,k)::r,b,p,h=>by
  unfold Zn at h
  rcases EG r _ p h with h|h
  . by_cases a:(k == .free)=true
    . rw[if_pos a]at h
      rcases zzC.mp h with e|h
      . subst e;have:k = .free:=by simpa using a
        subst this;exact .inr ⟨zzF,rfl⟩
      . exact .inl h
    . rw[if_neg a]at h;exact .inl h
  . exact .inr ⟨zzD _ h.1,h.2⟩
theorem Ls:∀(names:List (Str×NameKind)) (cs:List (Str×Addr)) (p:Str×Addr),p ∈ cs->p ∈ Zn env names cs
 | [],_,_,h=>h
 |(n,k)::r,a,p,h=>by
  unfold Zn;refine Ls r _ p ?_
  split
  . exact zzD _ h
  . exact h
theorem EM:∀(names:List (Str×NameKind)) (cs:List (Str×Addr)) (x:Str),(x,NameKind.free) ∈ names->(x,(env.cells.lookup x).getD 0) ∈ Zn env names cs
 |(n,k)::r,a,x,h=>by
  unfold Zn
  rcases zzC.mp h with e|h
  . cases e;exact Ls r _ _ (by simp)
  . exact EM r _ x h
theorem XS:∀{l:List (Str×α)},(∀p ∈ l,p.1=x->p.2=a)->(∃b,(x,b) ∈ l)->l.lookup x=some a
 | [],_,h=>by obtain⟨_,h⟩:=h;cases h
 |(k,v)::r,u,h=>by
  rw[List.lookup_cons];cases hb:x==k with
  |true=>
   have:=u (k,v) zzF (beq_iff_eq.mp hb).symm;exact congrArg some this
  |false=>
   refine XS (λp c=>u p<|zzD _ c) ?_;obtain⟨b,h⟩:=h
   rcases zzC.mp h with e|h
   . cases e;simp at hb
   . exact⟨b,h⟩
theorem Tp:∀(names:List (Str×NameKind)) (h:Heap) (acc:List (Str×Addr)) (p:Str×Addr),p ∈ cellsFrom h.objs.size names acc->
 p ∈ acc\/((p.1,NameKind.cell) ∈ names/\(pushCells h names).IsCell p.2 none/\h.objs.size<=p.2)
 | [],_,_,_,m=>.inl m
 |(n,k)::r,h,b,p,m=>by
  unfold cellsFrom at m;unfold pushCells
  split at m
  . rename_i a;rw[if_pos a];have e:(h.push {cls:=.type "cell",data:=.cell none}).objs.size=h.objs.size+1:=zxL ..;rw[<-e]at m
    rcases Tp r _ _ p m with m|⟨c,d,f⟩
    . rcases zzC.mp m with g|m
      . subst g;have:k = .cell:=by simpa using a
        subst this;refine .inr ⟨zzF, ?_,zzN _⟩;have z:(h.push {cls:=.type "cell",data:=.cell none}).IsCell h.objs.size none:=⟨_,zxJ _ rfl,rfl⟩;exact z.keeps<|pushCells_keeps r _
      . exact .inl m
    . exact .inr ⟨zzD _ c,d,by rw[e]at f;exact q1v f⟩
  . rename_i a;rw[if_neg a]
    rcases Tp r h b p m with m|⟨c,d,f⟩
    . exact .inl m
    . exact .inr ⟨zzD _ c,d,f⟩
theorem WX:∀(names:List (Str×NameKind)) (n:Nat) (acc:List (Str×Addr)) (p:Str×Addr),p ∈ acc->p ∈ cellsFrom n names acc
 | [],_,_,_,m=>m
 |(_,k)::r,n,a,p,m=>by
  unfold cellsFrom
  split
  . exact WX r _ _ p<|zzD _ m
  . exact WX r _ _ p m
theorem TJ:∀(names:List (Str×NameKind)) (n:Nat) (acc:List (Str×Addr)) (x:Str),(x,NameKind.cell) ∈ names->∃c,(x,c) ∈ cellsFrom n names acc
 |(y,k)::r,n,a,x,m=>by
  unfold cellsFrom
  rcases zzC.mp m with e|m
  . cases e;rw[if_pos<|by decide];exact⟨n,WX r _ _ _ zzF⟩
  . split
    . exact TJ r _ _ x m
    . exact TJ r _ _ x m
theorem Tw:∀(names:List (Str×NameKind)) (n:Nat) (acc:List (Str×Addr)),(∀p ∈ acc,p.2<n)->(∀p ∈ acc,∀q ∈ acc,p.2=q.2->p.1=q.1)->∀p ∈ cellsFrom n names acc,∀q ∈ cellsFrom n names acc,p.2=q.2->p.1=q.1
 | [],_,_,_,h=>h
 |(y,k)::r,n,c,b,h=>by
  unfold cellsFrom
  split
  . refine Tw r (n+1) _ (λp m=>?_) λp m q a e=>?_
    . rcases zzC.mp m with z|m
      . subst z;exact Nat.lt_succ_self _
      . exact zxA<|b p m
    . rcases zzC.mp m with z|m
      . rcases zzC.mp a with d|a
        . rw[z,d]
        . subst z;have:=b q a;rw[<-e]at this;exact absurd this<|Nat.lt_irrefl _
      . rcases zzC.mp a with d|a
        . subst d;have:=b p m;rw[e]at this;exact absurd this<|Nat.lt_irrefl _
        . exact h p m q a e
  . exact Tw r n c b h
section
variable{M:Model}{A:Around}{E:Value->Shared->Prop}{s:Shared}
noncomputable def QK(scope:Scope)(env:Env)(cl:List (Str×Addr))(L:Addr):Env:=
 {scope:=relabel scope env,locals:=L,globals:=env.globals,cells:=cellsFrom (L+1) scope.names cl,qual:=env.qual,func:=none,code:=env.code,frame:=env.frame,builtins:=env.builtins}
def BA
 (h:∀h' env',{env' with scope:=relabel scope env}=QK scope env cl s.heap.objs.size->env'.locals=s.heap.objs.size->(∀b o,s.heap.get? b=some o->h'.get? b=some o)->h'.Ns s.heap.objs.size (λ_=>none)->
  (∀p ∈ cellsFrom (s.heap.objs.size+1) scope.names cl,p ∈ cl\/((p.1,NameKind.cell) ∈ scope.names/\h'.IsCell p.2 none/\s.heap.objs.size+1<=p.2))->Q env' {s with heap:=h'}):
 wpAny M A (newFunctionEnv scope env.globals cl [] env.qual none .none<|some env) Q E s:=by
 simp only[newFunctionEnv,Option.isSome_some,if_true];refine zxF<|wpAny_alloc ?_;refine zxF<|wpAny_layCells _ (λd a c=>by cases hkc:a==NameKind.cell<;>simp[hkc]) _ _ _ _ ?_;have e:(s.heap.push {cls:=.type "dict",data:=.dict #[]}).objs.size=s.heap.objs.size+1:=zxL ..;refine zxF<|zxG<|zxG<|h _ _ ?_ rfl (λb o q=>pushCells_keeps _ _ b o<|zxH _ q) ((Heap.Ns.new s.heap _).keeps<|pushCells_keeps _ _) λp m=>?_
 . unfold QK;rw[<-e]
 . rw[<-e]at m
   rcases Tp _ _ _ p m with m|⟨g,i,f⟩
   . exact .inl m
   . exact .inr ⟨g,i,by rw[e]at f;exact f⟩
end
abbrev yR(X:Cx)(N:List Str)(scope:Scope)(cl:List (Str×Addr))(s:Shared)(H:Hp)(fp:List Addr):Cx:=
 {X with N:=N,s₀:=s,H₀:=H,env:=QK scope X.env cl<|s.heap.objs.size+1,outer:=X.stack,ex:=fp,fn:=λx=>scope.names.lookup x==some .cell,pn:=[],xe:=λ_ _=>False}
noncomputable def jy(σ:St):Option Nat->Option V
 |none=>none
 |some j=>(σ[j]?).getD none
def Ym(cap:List (Option Nat))(σ:St):St:=cap.map<|jy σ
noncomputable def U6(N XN:List Str)(names:List (Str×NameKind))(envNames:List (Str×NameKind))(cap:List (Option Nat)):Bool:=
 N.length==cap.length&&(N.zip cap).all (λp=>match p.2 with|none=>true|some j=>XN[j]? == some p.1&&names.contains (p.1,NameKind.free)) &&
 names.all (λp=>p.2 != .free||envNames.lookup p.1==some .cell||envNames.lookup p.1==some .free)&&decide (names.map (·.1)).Nodup
def J2(X:Cx)(ifs:List Expr)(t:TT):Prop:=
 ∀(pins:List (Addr×Obj)) (s:Shared) (σ:St) (H:Hp) (Q:Bool->Hp->Prop),Inv X pins σ H s->t σ H Q->
  wpAny (model X.prog X.w) X.A (forIn ifs true λc r=>if r=true then do let ok <-isTrue c X.env (eval c X.env);pure (ForInStep.yield ok)else pure<|ForInStep.yield r) (TP X pins σ Q) X.xe s
def sf:J2 X [] (λ_ H Q=>Q true H):=λa s σ H Q I h=>wpAny_tests_nil ⟨H,I,h⟩
def rK(h:PT X c t):J2 X [c] t:=λa s σ H Q I q=>wpAny_tests_one<|h a s σ H Q I q
def D1(wi:TI)(cap:List (Option Nat))(g:TG)(tt:TT)(te:TE):TE:=λσ H Q=>wi σ H λJ H1=>∃W:Nat->Nat->List V->Hp->Prop,(∃m,W 0 m [] H1)/\∀i m ys H,W i m ys H->ys.length<=sizeLine/\
 ((J.stop i H/\∀p,H p=none->Q (.ref p) (upd H p<|.lst ys))\/(J.go i H/\∀x H',J.yld i H x H'->g x (Ym cap σ) H' λσ2 H2=>(∀(j:Nat) v,(Ym cap σ)[j]? = some (some v)->σ2[j]? = some (some v))/\
   tt σ2 H2 λb H3=>if b=true then ys.length<sizeLine/\te σ2 H3 λy H4=>∃m',m'<m/\W (i+1) m' (ys++[y]) H4 else ∃m',m'<m/\W (i+1) m' ys H3))
section
variable{prog:Program}{w:World}{A:Around}{E:Value->Shared->Prop}{R:Result->Shared->Prop}{s:Shared}
def Bq(I:Nat->Shared->Prop)
 (turn:∀n s (E:Value->Shared->Prop),I n s->wpAny (model prog w) A (pyNext it) (λr s₁=>match r with
  |none=>R (.ok .next) s₁
  |some v=>wpAny (model prog w) A (letOwnedTupleGo target it v) (λ_ s₁=>wpAny (model prog w) A (assign target env v) (λ_ s₂=>
   wpAny (model prog w) A (forIn ifs true λc r=>if r=true then do let ok <-isTrue c env (eval c env);pure (ForInStep.yield ok)else pure<|ForInStep.yield r) (λok s₃=>
            if ok=true then wpAny (model prog w) A (eval elt env) (λx s₄=>
             wpAny (model prog w) A (call (.builtin "list.append") [acc,x]) (λ_ s₅=>∃m,m<n/\I m s₅) E s₄) E s₃
            else ∃m,m<n/\I m s₃) E s₂) E s₁) E s₁) E s)
 (n:Nat) (h:I n s):
 codeAny (model prog w) A (.compLoop (.ListComp elt [⟨target,iter,ifs,0⟩] scope pos) 0 it acc env) R s:=by
 refine codeAny_loop rfl I (λn s e=>?_) n h;refine wpAny_noted ?_;rw[compTurn_list];refine zxF<|wpAny_standAt<|zxF<|zxM (turn n s _ e) (λr f b=>?_) λ_ _ a=>a;cases r with
 |none=>exact zxG b
 |some v=>
  refine zxF<|zxM b (λ_ f b=>?_) λ_ _ a=>a;refine zxF<|zxM b (λ_ k g=>zxF<|zxM g (λok l d=>?_) λ_ _ a=>a) λ_ _ a=>a;cases ok with
  |false=>exact zxG ⟨rfl,d⟩
  |true=>
   exact zxF<|zxF<|zxM d (λx o i=>zxF<|zxM i (λ_ p j=>zxG<|zxG ⟨rfl,j⟩) λ_ _ a=>a) λ_ _ a=>a
end
structure CapOk(N XN:List Str)(names:List (Str×NameKind))(envNames:List (Str×NameKind))(cap:List (Option Nat)):Prop where
 len:N.length=cap.length
 at_:∀(i:Nat) x (j:Nat),N[i]? = some x->cap[i]? = some (some j)->XN[j]? = some x/\(x,NameKind.free) ∈ names
 fr:∀p ∈ names,p.2 = .free->envNames.lookup p.1=some .cell\/envNames.lookup p.1=some .free
 nd:(names.map (·.1)).Nodup
def Sr(h:U6 N XN names envNames cap=true):CapOk N XN names envNames cap:=by
 unfold U6 at h;simp only[zyC,beq_iff_eq,List.all_eq_true,decide_eq_true_eq]at h;obtain⟨⟨⟨a,b⟩,c⟩,d⟩:=h;refine⟨a,λi x j f g=>?_,λp k e=>?_,d⟩
 . have m:(x,some j) ∈ N.zip cap:=zyA (by rw[List.getElem?_zip_eq_some];exact⟨f,g⟩);have:=b _ m;simp only[zyC,beq_iff_eq]at this;exact⟨this.1,by simpa using this.2⟩
 . have:=c p k;rw[e]at this;simpa using this
def Bb{names:List (Str×NameKind)}(h:(names.map (·.1)).Nodup)(m:(x,k) ∈ names)(m':(x,k') ∈ names):k=k':=by
 induction names with
 |nil=>cases m
 |cons p r ih=>
  obtain⟨h1,h2⟩:=zzW.mp<|h
  rcases zzC.mp m with e|m
  . rcases zzC.mp m' with e'|m'
    . rw[<-e]at e';cases e';rfl
    . exact absurd (zxD.mpr ⟨_,m',by rw[<-e]⟩) h1
  . rcases zzC.mp m' with e'|m'
    . exact absurd (zxD.mpr ⟨_,m,by rw[<-e']⟩) h1
    . exact ih h2 m m'
def TU{names:List (Str×NameKind)}(h:(names.map (·.1)).Nodup)(m:(x,k) ∈ names):names.lookup x=some k:=
 XS (λp a e=>by obtain⟨y,b⟩:=p;cases(e);exact Bb h a m) ⟨k,m⟩
def QC(x):(relabel scope env).names.lookup x=(scope.names.lookup x).map λk=>if(k == .free&&env.scope.kind == .function&&env.kindOf x==some .cell)=true then NameKind.cell else k:=by
 unfold relabel;generalize scope.names=a
 induction a with
 |nil=>rfl
 |cons p r b=>
  obtain⟨n,k⟩:=p;rw[zyS,List.lookup_cons (k:=n)];cases hb:x==n with
  |true=>
   have e:=beq_iff_eq.mp hb;subst e;show List.lookup x ((if _=true then _ else _)::_)=_;show _=some (if _=true then NameKind.cell else k)
   split
   . rw[List.lookup_cons,hb]
   . rw[List.lookup_cons,hb]
  |false=>
   show List.lookup x ((if _=true then _ else _)::_)=_
   split
   . rw[List.lookup_cons,hb];exact b
   . rw[List.lookup_cons,hb];exact b
def HX(I:Inv X pins σ H s)(C:CapOk N X.N scope.names X.env.scope.names cap)(hk:scope.kind = .function)
 (hf:∀b ∈ fp,KA X pins H b) (ho:∀b ∈ fp,∃o,s.heap.get? b=some o)
 (old:∀b o,s.heap.get? b=some o->h'.get? b=some o) (ns:h'.Ns (s.heap.objs.size+1) (λ_=>none))
 (hc:∀p ∈ cellsFrom (s.heap.objs.size+1+1) scope.names (Zn X.env scope.names []),p ∈ Zn X.env scope.names []\/((p.1,NameKind.cell) ∈ scope.names/\h'.IsCell p.2 none/\s.heap.objs.size+1+1<=p.2)):
 Inv (yR X N scope (Zn X.env scope.names []) s H fp) [] (Ym cap σ) H {s with heap:=h'}:=by
 have has:∀x,(x,NameKind.free) ∈ scope.names->∃c,X.env.cells.lookup x=some c:=λx m=>I.ok.has x<|C.fr _ m rfl;have clo:∀p ∈ Zn X.env scope.names [],X.env.cells.lookup p.1=some p.2/\(p.1,NameKind.free) ∈ scope.names:=λp m=>by
  rcases EG _ _ p m with z|⟨z1,z2⟩
  . cases z
  . obtain⟨c,e⟩:=has _ z1;rw[e]at z2;exact⟨by rw[e];exact congrArg some z2.symm,z1⟩
 have look:∀x c,(cellsFrom _ scope.names _).lookup x=some c->_\/_:=λx c e=>by
  rcases hc _ (mem_of_lookup e)with m|m
  . exact .inl<|clo _ m
  . exact .inr m
 have lt:∀x c,X.env.cells.lookup x=some c->c<s.heap.objs.size:=λx c e=>by obtain⟨v,z⟩:=I.cell x c e;exact z.lt
 have lookF:∀x,(x,NameKind.free) ∈ scope.names->∃c,(cellsFrom _ scope.names _).lookup x=some c/\X.env.cells.lookup x=some c:=λx m=>by
  obtain⟨c,e⟩:=has x m;have m1:=WX scope.names (s.heap.objs.size+1+1) _ _<|EM (env:=X.env) scope.names [] x m;refine⟨c,XS (λp hp ep=>?_) ⟨_,m1⟩,e⟩
  rcases hc p hp with z|z
  . have:=(clo p z).1;rw[ep,e]at this;exact(zzZ this).symm
  . rw[ep]at z;exact absurd (Bb C.nd z.1 m) (by decide)
 have kinds:∀x,((relabel scope X.env).names.lookup x=some .cell\/(relabel scope X.env).names.lookup x=some .free)->(x,NameKind.free) ∈ scope.names\/(x,NameKind.cell) ∈ scope.names:=λx h=>by
  rw[QC]at h;cases e:scope.names.lookup x with
  |none=>rw[e]at h;rcases h with h|h<;>cases h
  |some k=>
   have m:=mem_of_lookup e;cases k with
   |free=>exact .inl m
   |cell=>exact .inr m
   |_=>rw[e]at h;rcases h with h|h<;>(simp at h)
 have lsz:=ns.lt;refine⟨⟨I.ok.mod,hk,I.ok.glob,I.ok.blt,zyW _, ?_, ?_, ?_,I.ok.hd,I.ok.frames,.inl rfl, ?_,I.bs,zzO I.ok.bsz I.sz, ?_, ?_,I.stack,I.stkFree⟩,rfl,I.bare,(Un.kept old),⟨_,ns, ?_⟩, ?_,I.hok.fresh<|zyW _, ?_,(λ_ z=>nomatch z),I.hok.kept old, ?_⟩
 . intro x y c e1 e2;refine Tw scope.names _ _ (λp m=>?_) (λp m q m' e=>?_) (x,c) (mem_of_lookup e1) (y,c) (mem_of_lookup e2) rfl
   . exact zxA<|zxA<|lt _ _ (clo p m).1
   . refine I.ok.inj _ _ _ (clo p m).1 ?_;rw[e];exact(clo q m').1
 . intro x h
   rcases kinds x h with m|m
   . obtain⟨c,e,_⟩:=lookF x m;exact⟨c,e⟩
   . obtain⟨c,e⟩:=TJ scope.names _ _ x m;cases q:(cellsFrom _ scope.names _).lookup x with
     |some c'=>exact⟨c',q⟩
     |none=>
      exfalso;have:=List.lookup_eq_none_iff.mp q (x,c) e;simp at this
 . intro x c hx e;have hx:=hx;have m:=mem_of_lookup<|beq_iff_eq.mp hx
   rcases look x c e with z|z
   . exact absurd (Bb C.nd z.2 m) (by decide)
   . exact zzO (zzO (zyW _)<|zyW _) z.2.2
 . intro b hb;obtain⟨o,e⟩:=ho b hb;refine⟨zzQ<|zxA<|zxI e,λx c ec=>?_⟩
   rcases look x c ec with z|z
   . exact(hf b hb).2.2.2.2.1 x c z.1
   . have:=zxI e;intro q;subst q;exact absurd (zzK this<|zzO (zzO (zyW _)<|zyW _) z.2.2)<|Nat.lt_irrefl _
 . intro b o e hb
   rcases(hf b hb).2.2.2.1 with z|z
   . exact I.ok.noex b o e z
   . exact absurd (zzK (zxI e)<|zzO I.ok.bsz z)<|Nat.lt_irrefl _
 . intro b hb hm
   rcases zzC.mp (I.stkSub b hm)with z|z
   . exact(hf b hb).2.1 z
   . exact(hf b hb).2.2.1 z
 . intro i x v e1 e2 e3;have e2:=e2;unfold Ym at e2;rw[zzI]at e2;cases ec:cap[i]? with
   |none=>rw[ec]at e2;cases e2
   |some c=>
    cases c with
    |none=>rw[ec]at e2;cases e2
    |some j=>
     rw[ec]at e2;have e2:(σ[j]?).getD none=some v:=zzZ e2;obtain⟨xn,m⟩:=C.at_ i x j e1 ec;have es:σ[j]? = some (some v):=by
      cases q:σ[j]? with
      |none=>rw[q]at e2;cases e2
      |some y=>rw[q]at e2;exact congrArg some e2
     have kf:=C.fr _ m rfl;obtain⟨mm,hn,hl⟩:=I.loc;obtain⟨u,r,l⟩:=hl j x v xn es (by rcases kf with k|k;exact .inr<|.inl k;exact .inr<|.inr k);refine⟨u,r,.inr ⟨?_, ?_⟩⟩
     . show(relabel scope X.env).names.lookup x=some .cell\/(relabel scope X.env).names.lookup x=some .free;rw[QC,TU C.nd m];show some (if _ then _ else _)=_\/some (if _ then _ else _)=_
       split
       . exact .inl rfl
       . exact .inr rfl
     . obtain⟨c,ec,eo⟩:=lookF x m;refine⟨c,ec, ?_⟩
       rcases l with⟨k1,_⟩|⟨_,c2,e4,z⟩
       . have k1:X.env.scope.names.lookup x=some .local:=k1
         rcases kf with k|k<;>(rw[k1]at k;cases k)
       . rw[eo]at e4;cases e4;exact z.keeps old
 . intro x c e
   rcases look x c e with z|z
   . obtain⟨v,q⟩:=I.cell x c z.1;exact⟨v,q.keeps old⟩
   . exact⟨none,z.2.1⟩
 . intro x c e
   rcases look x c e with z|z
   . exact I.freeC x c z.1
   . exact I.hok.fresh<|zzO (zzO (zyW _)<|zyW _) z.2.2
 . show _=_;unfold Ym;rw[zzB,C.len]
abbrev lobj(its:List Value):Obj:={cls:=.type "list",data:=.seq its.toArray its.length}
section
variable{X:Cx}{pins:List (Addr×Obj)}{σ:St}{H2:Hp}{s2:Shared}{elt tg iter:Expr}{ifs:List Expr}{scope:Scope}{pos:Pos}{N:List Str}{cap:List (Option Nat)}{g:TG}{tt:TT}{te:TE}{wi:TI}
set_option maxHeartbeats 1000000
def Nm{Q:VK}{R:Value->Addr->Result->Shared->Prop}
 (hc:X.calm=true) (C:CapOk N X.N scope.names X.env.scope.names cap) (hk:scope.kind = .function)
 (hg:∀cl s H fp,PG (yR X N scope cl s H fp) tg g) (ht:∀cl s H fp,J2 (yR X N scope cl s H fp) ifs tt) (he:∀cl s H fp,PE (yR X N scope cl s H fp) elt te)
 (I2:Inv X pins σ H2 s2) (T:Turn X.prog X.w X.K tg J fp it tn) (st2:tn 0 s2.heap) (f2:∀b ∈ fp,KA X pins H2 b)
 (W:Nat->Nat->List V->Hp->Prop) (m0:Nat) (w0:W 0 m0 [] H2)
 (turn:∀i m ys H,W i m ys H->ys.length<=sizeLine/\((J.stop i H/\∀p,H p=none->Q (.ref p) (upd H p<|.lst ys))\/(J.go i H/\∀x H',J.yld i H x H'->g x (Ym cap σ) H' λσ2 H2=>(∀(j:Nat) v,(Ym cap σ)[j]? = some (some v)->σ2[j]? = some (some v))/\
  tt σ2 H2 λb H3=>if b=true then ys.length<sizeLine/\te σ2 H3 λy H4=>∃m',m'<m/\W (i+1) m' (ys++[y]) H4 else ∃m',m'<m/\W (i+1) m' ys H3)))
 (fin:∀ys H3 s1 m,Inv X pins σ (upd H3 s2.heap.objs.size<|.lst ys) s1->s1.heap.Ns (s2.heap.objs.size+1) m->KA X pins (upd H3 s2.heap.objs.size<|.lst ys) (s2.heap.objs.size+1)->
  Q (.ref s2.heap.objs.size) (upd H3 s2.heap.objs.size<|.lst ys)->R (.ref s2.heap.objs.size) (s2.heap.objs.size+1) (.ok .next) s1):
 wpAny (model X.prog X.w) X.A (newList []) (λacc s₃=>wpAny (model X.prog X.w) X.A (newFunctionEnv scope X.env.globals (Zn X.env scope.names []) [] X.env.qual none .none<|some X.env) (λcenv s₄=>
  codeAny (model X.prog X.w) X.A (.compStart (.ListComp elt [⟨tg,iter,ifs,0⟩] scope pos) 0 (.ref it) acc {cenv with scope:=relabel scope X.env}) (R acc cenv.locals) s₄) E s₃) E s2:=by
 refine wpAny_newObj_type<|BA λh' env' eE eL old hns hcells=>?_;have e1:(s2.heap.push {cls:=.type "list",dict:=none,data:=.seq ([]:List Value).toArray}).objs.size=s2.heap.objs.size+1:=zxL ..;dsimp only at eE eL old hns hcells;rw[e1]at eE eL hns hcells;have hD0:(s2.heap.push {cls:=.type "list",dict:=none,data:=.seq ([]:List Value).toArray}).get? s2.heap.objs.size=some (lobj []):=zxJ _ rfl;have hD:=old _ _ hD0;have old':∀b o,s2.heap.get? b=some o->h'.get? b=some o:=λb o q=>old b o<|zxH _ q;have fex:∀b ∈ fp,∃o,s2.heap.get? b=some o:=λb hb=>by obtain⟨o,e,_⟩:=T.obj _ _ st2 b hb;exact⟨o,e⟩
 have flt:∀b ∈ fp,b<s2.heap.objs.size:=λb hb=>by obtain⟨o,e⟩:=fex b hb;exact zxI e
 have I':=HX I2 C hk f2 fex old' hns hcells;rw[eE,eL];generalize hX:yR X N scope (Zn X.env scope.names []) s2 H2 fp=X' at I';have xP:X'.prog=X.prog:=by rw[<-hX]
 have xw:X'.w=X.w:=by rw[<-hX]
 have xK:X'.K=X.K:=by rw[<-hX]
 have xA:X'.A=X.A:=by rw[<-hX]
 have xe:X'.env=QK scope X.env (Zn X.env scope.names []) (s2.heap.objs.size+1):=by rw[<-hX]
 have xL:X'.env.locals=s2.heap.objs.size+1:=by rw[xe];rfl
 have xfs:X'.fs=J3 X.stack:=by rw[<-hX]
 have xex:X'.ex=fp:=by rw[<-hX]
 have xs:X'.s₀=s2:=by rw[<-hX]
 have xH:X'.H₀=H2:=by rw[<-hX]
 have xpn:X'.pn=[]:=by rw[<-hX]
 have xc:X'.calm=true:=by rw[<-hX];exact hc
 have xE:X'.xe=λ_ _=>False:=by rw[<-hX]
 have hg':PG X' tg g:=by rw[<-hX];exact hg _ _ _ _
 have ht':J2 X' ifs tt:=by rw[<-hX];exact ht _ _ _ _
 have he':PE X' elt te:=by rw[<-hX];exact he _ _ _ _
 have H2D:=I2.hok.fresh<|zzN _;have Dfs:s2.heap.objs.size ∉ X'.fs:=by
  rw[xfs];intro hm
  rcases zzC.mp (I2.stkSub _ hm)with z|z
  . exact absurd I2.lt (by rw[<-z];exact Nat.lt_irrefl _)
  . exact I2.nofs (zzN _) z
 have DL:s2.heap.objs.size≠X'.env.locals:=by rw[xL];exact zzQ<|Nat.lt_succ_self _
 have pinD:∀{σ':St}{H':Hp}{s':Shared}{its:List Value}{ps:List (Addr×Obj)},Inv X' ps σ' H' s'->s'.heap.get? s2.heap.objs.size=some (lobj its)->H' s2.heap.objs.size=none->Inv X' [(s2.heap.objs.size,lobj its)] σ' H' s':=λI e n=>
  I.pins_of λp hp=>by
   cases zzR.mp hp;exact⟨e,n,DL,Dfs,λv z=>by cases z⟩
 have stat:∀{H':Hp}{its:List Value},(∀b ∈ fp,H' b=none)->∀b ∈ fp,KA X' [(s2.heap.objs.size,lobj its)] H' b:=λhn b hb=>by
  refine⟨hn b hb, ?_, ?_,.inl (by rw[xex];exact hb),(I'.ok.exf b<|by rw[xex];exact hb).2,λp hp=>?_⟩
  . exact(I'.ok.exf b<|by rw[xex];exact hb).1
  . exact I'.ok.exfs b (by rw[xex];exact hb)
  . rw[xpn,List.nil_append]at hp;cases zzR.mp hp;exact Nat.ne_of_gt<|flt b hb
 have loop:∀n s',(∃i ys its H3,Inv X' [(s2.heap.objs.size,lobj its)] (Ym cap σ) H3 s'/\tn i s'.heap/\(∀b ∈ fp,H3 b=none)/\zS ys its/\W i n ys H3)->
  codeAny (model X.prog X.w) X.A (.compLoop (.ListComp elt [⟨tg,iter,ifs,0⟩] scope pos) 0 (.ref it) (.ref s2.heap.objs.size)<|QK scope X.env (Zn X.env scope.names [])<|s2.heap.objs.size+1)
   (R (.ref s2.heap.objs.size)<|s2.heap.objs.size+1) s':=by
  intro n s' h0;refine Bq (λn s'=>∃i ys its H3,Inv X' [(s2.heap.objs.size,lobj its)] (Ym cap σ) H3 s'/\tn i s'.heap/\(∀b ∈ fp,H3 b=none)/\zS ys its/\W i n ys H3) ?_ n h0;clear h0 n s'
  rintro n s3 E' ⟨i,ys,its,H3,I3,st3,fr3,rv3,w3⟩
  obtain⟨hz,hstep⟩:=turn i n ys H3 w3
  rcases hstep with⟨stop,qn⟩|⟨go,step⟩
  . have:=T.done X' xP xw xK xc i _ s3 _ H3 E' I3 (stat fr3) st3 stop;rw[xA]at this;refine zxM this (λr s4 ⟨hr,I4⟩=>?_) λ_ _ z=>z;subst hr;obtain⟨gD,nD,_⟩:=I4.pin (s2.heap.objs.size,lobj its) (by rw[xpn];simp);obtain⟨m,hn,_⟩:=I4.loc;rw[xL]at hn;have b4:=I4.base;rw[xfs,xex,xH,xs]at b4;have nL:H3 (s2.heap.objs.size+1)=none:=by have:=I4.free;rw[xL]at this;exact this
    have neD:∀b o,s2.heap.get? b=some o->b≠s2.heap.objs.size:=λb o e=>zzQ<|zxI e;have neH:∀b u,H2 b=some u->b≠s2.heap.objs.size:=λb u e z=>by rw[z,H2D]at e;cases e
    have ne3:∀b u,H3 b=some u->b≠s2.heap.objs.size:=λb u e z=>by rw[z,nD]at e;cases e
    have hok4:=I4.hok;rw[xP,xw]at hok4;refine fin ys H3 s4 m (I2.call' ?_ ⟨b4.keep,b4.slot,λb o e n hx=>?_,b4.there,λb xs e=>?_,λb o u e=>?_,λb ps e=>?_⟩ ?_ I4.bare λb hb=>?_) hn (I2.fpOk (zyW _)<|by rw[zG<|Nat.ne_of_gt<|Nat.lt_succ_self _];exact nL)<|qn _ nD
    . have:=I4.os;rw[xs]at this;exact this
    . rw[zG<|neD b o e];exact b4.free b o e n hx
    . rw[zG<|neH b _ e];exact b4.tups b xs e
    . rw[zG<|neH b _ e];exact b4.frzs b o u e
    . rw[zG<|neH b _ e];exact b4.tbls b ps e
    . intro b u e
      by_cases hb:b=s2.heap.objs.size
      . subst hb;rw[z_]at e;cases e;exact⟨hz,its,its.length,rv3,gD⟩
      . rw[zG hb]at e;exact(hok4 b u e).stay (λc v _ q=>q) (λc q=>by rw[zG<|ne3 c _ q];exact q) λc xs q=>by rw[zG<|ne3 c _ q];exact q
    . obtain⟨f0,f1,f3,f4,f5,f6⟩:=f2 b hb;exact⟨f4,f1,f5,f6⟩
  . have:=T.item X' xP xw xK xc i _ s3 _ H3 E' I3 (stat fr3) st3 go;rw[xA]at this;refine zxM this (λr s4 ⟨u,hr,h4⟩=>?_) λ_ _ z=>z;subst hr;refine zxM h4 (λ_ s5 ⟨x,H5,I5,r5,y5,st5,fr5⟩=>?_) λ_ _ z=>z;have I5':=I5.pinned (stat fr5)<|T.obj _ _ st5;have h6:=hg' _ s5 _ H5 x u _ I5' r5<|step x H5 y5;rw[xP,xw,xA,xe,xE]at h6;refine zxM h6 (λ_ s6 ⟨σ6,H6,I6,cap6,q6⟩=>?_) λ_ _ z=>z.elim;have h7:=ht' _ s6 σ6 H6 _ I6 q6;rw[xP,xw,xA,xe,xE]at h7;refine zxM h7 (λb s7 ⟨H7,I7,q7⟩=>?_) λ_ _ z=>z.elim;have keep:∀{H8:Hp}{s8:Shared},Inv X' _ σ6 H8 s8->Inv X' [(s2.heap.objs.size,lobj its)] (Ym cap σ) H8 s8/\tn (i+1) s8.heap/\∀b ∈ fp,H8 b=none:=λ{H8 s8} I8=>by
     refine⟨I8.unpinned.weak ?_ cap6,T.keep _ _ _ st5 λb hb o e=>(I8.pin (b,o)<|zzL _<|zzL _<|WN hb e).1,λb hb=>?_⟩
     . rw[I3.len];exact I8.len.symm
     . obtain⟨o,e,d⟩:=T.obj _ _ st5 b hb;exact(I8.pin (b,o)<|zzL _<|zzL _<|WN hb e).2.1
    cases b with
    |false=>
     obtain⟨m',hm,w7⟩:=q7;obtain⟨k1,k2,k3⟩:=keep I7;exact⟨m',hm,i+1,ys,its,H7,k1,k2,k3,rv3,w7⟩
    |true=>
     obtain⟨hz2,q7⟩:=q7;have h8:=he' _ s7 σ6 H7 _ I7 q7;rw[xP,xw,xA,xe,xE]at h8;refine zxM h8 (λyv s8 ⟨y,H8,I8,ry,m',hm,w8⟩=>?_) λ_ _ z=>z.elim;obtain⟨k1,k2,k3⟩:=keep I8;obtain⟨gD,nD,_⟩:=k1.pin (s2.heap.objs.size,lobj its) (by rw[xpn];simp);have hl:=rv3.length;refine append_at gD (λh9 sb gD9=>?_) (by rw[zzH];exact q0T hz2 hl);have I9:=(k1.pins_of (pins':=[]) (λ_ z=>nomatch z)).turned (t':=s8.toks) (λb o hb e=>(sb.2 b hb).trans e) nD DL (.inr<|by rw[xs];exact zzN _) (λx c ec z=>by
      obtain⟨v,o,ho,hd⟩:=k1.cell x c ec;rw[z,gD]at ho;cases ho;cases hd) (λp hp=>by rw[xpn]at hp;cases hp)
     have gD9':h9.get? s2.heap.objs.size=some (lobj<|its++[yv]):=by
      rw[gD9]
      congr 1
      show({cls:=.type "list",data:=.seq _ _}:Obj)={cls:=.type "list",data:=.seq (its++[yv]).toArray (its++[yv]).length};rw[zzJ,List.length_singleton,List.push_toArray]
     refine⟨m',hm,i+1,ys++[y],its++[yv],H8,pinD I9 gD9' nD,T.keep _ _ _ k2 λb hb o e=>(sb.2 b<|zzQ<|flt b hb).trans e,k3,rv3.append<|.cons ry .nil,w8⟩
 have start:∃i ys its H3,Inv X' [(s2.heap.objs.size,lobj its)] (Ym cap σ) H3 {s2 with heap:=h'}/\tn i h'/\(∀b ∈ fp,H3 b=none)/\zS ys its/\W i m0 ys H3:=
  ⟨0,[],[],H2,pinD I' hD H2D,T.keep _ _ _ st2 λb hb o e=>old' b o e,λb hb=>(f2 b hb).1,.nil,w0⟩
 exact codeAny_compStart_list (loop m0 _ start)<|T.self _ 0 _ _ _ (T.keep _ _ _ st2 λb hb o e=>old' b o e)<|loop m0 _ start
def ql(hc:X.calm=true)(hi:PI X tg iter wi)(hk:scope.kind = .function)(hcap:U6 N X.N scope.names X.env.scope.names cap=true)
 (hg:∀cl s H fp,PG (yR X N scope cl s H fp) tg g) (ht:∀cl s H fp,J2 (yR X N scope cl s H fp) ifs tt) (he:∀cl s H fp,PE (yR X N scope cl s H fp) elt te)
 (hs:∀x,foldedSetIterable iter X.env x=pure x):PE X (.ListComp elt [⟨tg,iter,ifs,0⟩] scope pos) (D1 wi cap g tt te):=by
 intro a s σ H Q I h;have C:=Sr hcap;rw[eval_ListComp];refine wpAny_comprehension_free rfl hs (UM λx m e=>I.ok.has x.1<|C.fr x m e) hk (λy m e=>TU C.nd<|by rw[<-e];exact m) ?_;refine wo (hi a s σ H _ I h) λv O i=>wo i λj k l=>?_;obtain⟨P,S,U,J,V,e,n,T,d,f2,W,⟨p,t⟩,c⟩:=l;subst e;refine Nm hc C hk hg ht he n T d f2 W p t c λY Z z m B D fl q=>?_;refine⟨m,D,λh' E=>?_⟩;obtain⟨F,f1,f3,G,K,L⟩:=fl;exact⟨.ref k.heap.objs.size,_,B.turned (t':=z.toks) (λb o M e=>(E.2 b M).trans e) F f1 G K L,rfl,q⟩
def sk(hN:X.N.Nodup)(hiy:X.N[i]? = some y)(hy:Loc X.env.scope y)(hf:X.fn y=true\/X.env.scope.names.lookup y=some .local)
 (hsw:swapsWith (.ListComp elt [⟨tg,iter,ifs,0⟩] scope pos) (some<|.Name y py) spos.line X.env=pure true)
 (hc:X.calm=true) (hi:PI X tg iter wi) (hk:scope.kind = .function) (hcap:U6 N X.N scope.names X.env.scope.names cap=true)
 (hg:∀cl s H fp,PG (yR X N scope cl s H fp) tg g) (ht:∀cl s H fp,J2 (yR X N scope cl s H fp) ifs tt) (he:∀cl s H fp,PE (yR X N scope cl s H fp) elt te)
 (hs:∀x,foldedSetIterable iter X.env x=pure x):PS X (.Assign [.Name y py] (.ListComp elt [⟨tg,iter,ifs,0⟩] scope pos) spos) (n5 (D1 wi cap g tt te)<|Iy i):=by
 intro c s σ H D I h;have C:=Sr hcap;rw[exec_Assign_Name_used _ _ _ _ hsw];refine zxF<|wpAny_standAt<|zxF ?_;refine zxF<|zxM (wpAny_comprehension_free rfl hs (UM λx m e=>I.ok.has x.1<|C.fr x m e) hk (λy m e=>TU C.nd<|by rw[<-e];exact m) ?_) (λ_ d t=>zxG<|zxG t) λ_ _ e=>e;refine wo (hi c s σ H _ I h) λv s1 u=>wo u λB E F=>?_;obtain⟨it,fp,tn,J,H2,e,G,T,k,f2,W,⟨K,L⟩,f⟩:=F;subst e;refine Nm (Q:=λx M=>Iy i x σ M D.nx) hc C hk hg ht he G T k f2 W K L f λys H3 s3 m O P fl q=>?_;obtain⟨S,f1,f3,U,p,V⟩:=fl;refine wpAny_assign_Name<|EV O hN hiy hy (v:=.ref E.heap.objs.size) rfl (λY Z ⟨a,sb,j⟩=>?_) hf;refine⟨m,P.sameBut sb λz=>?_,λh' n=>?_⟩
 . rcases j with j|j
   . exact f1<|z.trans j
   . exact p y a j z.symm
 . exact⟨_,_,Z.turned (t':=Y.toks) (λb o hb e=>(n.2 b hb).trans e) S f1 U p V,q⟩
end
structure ItC(K:zzA)(kd:KD)(F:Addr->Prop)(H:Hp)(J:It)(ds:List Zj):Prop where
 all:∀(H2:Hp) (T:Addr->Prop),(∀b u,H b=some u->H2 b=some u)->(∀a,T a->H a=none/\H2 a≠none)->∀i,(i<ds.length->J.go i H2)/\(ds.length<=i->J.stop i H2)/\
  ∀v H3,J.yld i H2 v H3->(∀b o,H2 b=some o->H3 b=some o)/\∀x,ds[i]? = some x->Rp K kd (λa=>x.1=true/\(F a\/T a)) H3 v x.2
def cB(K:zzA)(kd:KD)(f:IF):TI:=λσ H R=>∃F B ad as ds as',Rel K kd F B [] ad as σ H/\f as=some (ds,as')/\
 ∀J ad' H',Rel K kd F B [] ad' as' σ H'->Grow (Gw [] ad) H (Gw [] ad') H'->ItC K kd (Lv F B (Gw [] ad') true) H' J ds->R J H'
@[irreducible] def qF(X:Cx)(kd:KD)(tg iter:Expr)(f:IF):Prop:=PI X tg iter<|cB X.K kd f
def LO(os:List O):List Zj:=os.map λo=>match o with | .lf st d=>(st,d)|o=>(false,o.toD)
def dZ(as:AS):RV->Option (List Zj)
 | .ow o=>Gy (o.str,o.toD)
 | .bo i=>match as[i]? with
  |some (some (.nd .ls os))=>some (LO os)
  |some (some (.nd .tp os))=>some (LO os)
  |_=>none
def xS(f:EF):IF:=λas=>(f as).bind λp=>(dZ p.2 p.1).bind λds=>some (ds,p.2)
section
variable{K:zzA}{kd:KD}{F B:Addr->Prop}{G:Addr->Prop}{T:List Addr}{ad:Ad}{as:AS}{σ:St}{H H':Hp}
inductive RpC(K:zzA)(kd:KD)(F:Addr->Prop)(H:Hp):List V->List Zj->Prop
 |nil:RpC K kd F H [] []
 |cons {v:V}{x:Zj}{vs:List V}{ds:List Zj}:Rp K kd (λa=>x.1=true/\F a) H v x.2->RpC K kd F H vs ds->RpC K kd F H (v::vs) (x::ds)
theorem RpC.length(h:RpC K kd F H vs ds):vs.length=ds.length:=by
 induction h with
 |nil=>rfl
 |cons _ _ ih=>exact congrArg (· + 1) ih
def RpC.get{i:Nat}(h:RpC K kd F H vs ds)(e:ds[i]? = some x):∃v,vs[i]? = some v/\Rp K kd (λa=>x.1=true/\F a) H v x.2:=by
 induction h generalizing i with
 |nil=>simp at e
 |cons h r ih=>
  cases i with
  |zero=>simp at e;subst e;exact⟨_,rfl,h⟩
  |succ i=>
   obtain⟨v,h1,h2⟩:=ih (by simpa using e);exact⟨v,by simpa using h1,h2⟩
def Rp.since{T}(k:∀b u,H b=some u->H' b=some u)(hT:∀a,T a->H a=none)(h:Rp K kd Ob H v d):Rp K kd (QL Ob T) H' v d:=
 Rp.grow (W':=T) (H':=H') ⟨λb u q _=>k b u q,λb z=>.inr<|hT b z⟩ (h.less λa z=>z.elim id False.elim)
def NR{st}(h:RpL K kd (Lv F B G st) H vs ds):RpC K kd (Lv F B G true) H vs (kids st ds):=
 RpL.ind (P:=λvs ds=>RpC K kd _ H vs<|kids st ds) .nil (λ{v d vs ds} h _ ih=>by
  refine .cons (x:=(zB d||st,d)) ?_ ih;cases e:zB d with
  |true=>exact h.flat e
  |false=>
   refine h.less λa z=>?_;have zs:st=true:=z.1;rw[zs];exact z.2) h
def qX{os}(h:Za K kd F B G H vs os fp):RpC K kd (Lv F B G true) H vs (LO os):=
 RoL.ind (P:=λvs os _=>RpC K kd _ H vs<|LO os) .nil (λ{v o vs os fp fq} h _ ih=>by
  have ha:=LU h;refine .cons ?_ ih;cases h with
  |lf rp=>exact rp.less λa z=>(by have zs:=z.1;dsimp only at zs;rw[zs];exact z.2)
  |ls=>exact ha.less λa z=>nomatch z.1
  |dc=>exact ha.less λa z=>nomatch z.1
  |ob=>exact ha.less λa z=>nomatch z.1
  |tp=>exact ha.less λa z=>nomatch z.1) h
def Nw(h:VX K H a vs)(r:RpC K kd F H vs ds):ItC K kd F H (fJ K a) ds:=⟨λH3 T k hT i=>by
 have hr3:VX K H3 a vs:=by
  rcases h with(h|⟨o,h⟩)|h
  . exact .inl<|.inl<|k _ _ h
  . exact .inl<|.inr ⟨o,k _ _ h⟩
  . exact .inr h
 refine⟨λhi=>?_,λhi=>⟨_,hr3,by rw[r.length];exact hi⟩,λv H4 hy=>?_⟩
 . obtain⟨u,hu,_⟩:=r.get<|zzE hi;exact⟨_,u,hr3,hu⟩
 . obtain⟨rfl,hv⟩:=hy;refine⟨λ_ _ z=>z,λd hd=>?_⟩;obtain⟨u,hu,ru⟩:=r.get hd;have:=hv _ hr3;rw[hu]at this;cases this;exact(ru.since k λa z=>(hT a z).1).less λa z=>z.2.elim (λy=>.inl ⟨z.1,y⟩) .inr⟩
def CY(h:RF K H a vs)(r:RpC K kd F H vs ds):ItC K kd F H (g_ K a) ds:=⟨λH3 T k hT i=>by
 have hr3:RF K H3 a vs:=by
  rcases h with(h|⟨o,h⟩)|h
  . exact .inl<|.inl<|k _ _ h
  . exact .inl<|.inr ⟨o,k _ _ h⟩
  . exact .inr h
 refine⟨λhi=>?_,λhi=>⟨_,hr3,by rw[r.length];exact hi⟩,λv H4 hy=>?_⟩
 . obtain⟨u,hu,_⟩:=r.get<|zzE hi;exact⟨_,u,hr3,hu⟩
 . obtain⟨rfl,hv⟩:=hy;refine⟨λ_ _ z=>z,λd hd=>?_⟩;obtain⟨u,hu,ru⟩:=r.get hd;have:=hv _ hr3;rw[hu]at this;cases this;exact(ru.since k λa z=>(hT a z).1).less λa z=>z.2.elim (λy=>.inl ⟨z.1,y⟩) .inr⟩
def tO(lo)(n:Nat):ItC K kd F H (kj lo n) (yY lo n):=⟨λH2 T k hT i=>by
 have hl:(yY lo n).length=n:=by unfold yY;simp
 refine⟨λhi=>by rw[hl]at hi;exact hi,λhi=>by rw[hl]at hi;exact hi,λv H3 hy=>?_⟩;obtain⟨rfl,rfl⟩:=hy;refine⟨λ_ _ z=>z,λd hd=>?_⟩;have hi:i<n:=by rw[<-hl];exact(zzG.mp hd).1
 unfold yY at hd;rw[zzI,List.getElem?_range hi]at hd;cases hd;exact .int _⟩
end
def Oq(he:AE X kd e fa):qF X kd tg e (xS fa):=by
 with_unfolding_all (
 intro pins s σ H R I h;obtain⟨F,B,ad,as,ds,as',Rl,e,q⟩:=h;obtain⟨⟨p,as1⟩,h1,e⟩:=bS_<|e;obtain⟨ys,h2,e⟩:=bS_ e;cases e;cases p with
 |ow o=>
  have h2:Gy _=some ds:=h2;generalize hd:o.toD=d at h2;cases d with
  |lst xs=>
   cases h2;refine Fx he pins s σ H R I ⟨F,B,ad,as,_,as1,Rl,h1,λv T1 ad1 H1 R1 rv1 g1=>?_⟩;have rp:=OV R1 rv1;rw[hd]at rp;cases rp with
   |lst hn hr rl=>exact⟨_,rfl,⟨_,.inl hr⟩,q _ ad1 H1 R1.drop (g1.trans<|Grow.less Gw.drop)<|Nw (.inl hr)<|NR rl⟩
   |lstK a b c rl=>exact⟨_,rfl,⟨_,.inr ⟨_,_,_,a,rfl,rfl,rfl,b,c⟩⟩,q _ ad1 H1 R1.drop (g1.trans<|Grow.less Gw.drop)<|Nw (.inr ⟨_,_,_,a,rfl,rfl,rfl,b,c⟩)<|NR rl⟩
  |tup xs=>
   cases h2;refine Os he pins s σ H R I ⟨F,B,ad,as,_,as1,Rl,h1,λv T1 ad1 H1 R1 rv1 g1=>?_⟩;have rp:=OV R1 rv1;rw[hd]at rp;have go:∃a ys,v = .ref a/\RF X.K H1 a ys/\RpL X.K kd (Lv F B (Gw [] ad1) o.str) H1 ys xs:=by
    cases rp with
    |tup n h r=>exact⟨_,_,rfl,.inl h,r⟩
    |tupK a b c e f r=>exact⟨_,_,rfl,.inr ⟨_,_,_,a,b,c,e,f⟩,r⟩
   obtain⟨a,ys,rfl,hs,rl⟩:=go;exact⟨_,rfl,⟨_,hs⟩,q _ ad1 H1 R1.drop (g1.trans<|Grow.less Gw.drop)<|CY hs<|NR rl⟩
  |_=>cases h2
 |bo i=>
  have h2:(match as1[i]? with|some (some<|.nd .ls os)=>some _|some (some<|.nd .tp os)=>some _|_=>none)=some ds:=h2;cases k:as1[i]? with
  |none=>rw[k]at h2;cases h2
  |some s0=>
   rw[k]at h2
   match s0,h2,k with
   |some (.nd .ls os),h2,k=>
    cases h2;refine Fx he pins s σ H R I ⟨F,B,ad,as,_,as1,Rl,h1,λv T1 ad1 H1 R1 rv1 g1=>?_⟩;obtain⟨rfl,hs⟩:=rv1;obtain⟨w,hw,ro⟩:=R1.sl i _ k;rw[hs]at hw;cases hw;generalize hfp:ad1 i=fp at ro;cases ro with
    |ls hH rl=>exact⟨_,rfl,⟨_,.inl<|.inl hH⟩,q _ ad1 H1 R1 g1<|Nw (.inl<|.inl hH)<|qX rl⟩
   |some (.nd .tp os),h2,k=>
    cases h2;refine Os he pins s σ H R I ⟨F,B,ad,as,_,as1,Rl,h1,λv T1 ad1 H1 R1 rv1 g1=>?_⟩;obtain⟨rfl,hs⟩:=rv1;obtain⟨w,hw,ro⟩:=R1.sl i _ k;rw[hs]at hw;cases hw;generalize hfp:ad1 i=fp at ro;cases ro with
    |tp n hH rl=>exact⟨_,rfl,⟨_,.inl<|.inl hH⟩,q _ ad1 H1 R1 g1<|CY (.inl<|.inl hH)<|qX rl⟩)
def Jt(hg:Gl X "range")(hm:X.mg "range"=none)(ha:AA X kd [a] fr)(hs:starEach [a] X.env=[(false,eval a X.env)]):qF X kd tg (.Call (.Name "range" p) [a] [] pos) (yG fr yS):=by
 with_unfolding_all (
 intro pins s σ H R I h;obtain⟨F,B,ad,as,ds,as',Rl,e,q⟩:=h;obtain⟨⟨ps,as1⟩,h1,e⟩:=bS_<|e;obtain⟨⟨xs,lv⟩,h2,e⟩:=bS_ e;obtain⟨ys,h3,e⟩:=bS_ e;cases e;obtain⟨j,rfl,h3⟩:=Cy h3
 . obtain⟨hj,e3⟩:=zv h3;cases e3;refine En hg hm ha hs pins s σ H R I ⟨F,B,ad,as,ps,_,Rl,h1,λvs ad1 H1 R1 rv1 g1=>?_⟩;have vl:=Q9 R1 rv1 h2;cases vl with
   |cons v1 v2=>
    cases v2;cases v1;exact⟨j,rfl,hj.1,hj.2,q _ ad1 H1 R1 g1<|tO 0 _⟩)
noncomputable def eD(as:AS):Option Nat->Option O
 |none=>none
 |some j=>match as[j]? with
  |some (some (.lf st d))=>some (.lf st d)
  |some (some o)=>some (.lf false o.toD)
  |_=>none
def Yq(cap:List (Option Nat))(as:AS):AS:=cap.map<|eD as
def xB(g:GF)(tt:TF)(fe:EF)(as0:AS):List Zj->Option (List O)
 | []=>some []
 |x::r=>(g x as0).bind λas1=>(tt as1).bind λb=>if b.1=true then(fe b.2).bind λp=>(sH p.2 p.1).bind λq=>if q.1.str=true then(xB g tt fe as0 r).bind λos=>some (q.1::os)else none
  else xB g tt fe as0 r
def zU(fi:IF)(cap:List (Option Nat))(g:GF)(tt:TF)(fe:EF):EF:=λas=>(fi as).bind λp=>if p.1.length<=sizeLine then(xB g tt fe (Yq cap p.2) p.1).bind λos=>some (.ow<|.nd .ls os,p.2)else none
def yD:TF:=λas=>some (true,as)
section
variable{K:zzA}{kd:KD}{F B:Addr->Prop}{T:List Addr}{ad:Ad}{as:AS}{σ:St}{H H':Hp}{cap:List (Option Nat)}
def rj(R:Rel K kd F B [] ad as σ H)(k:∀b u,H b=some u->H' b=some u)(hT:∀a ∈ T,H a=none)(hT':∀a ∈ T,H' a≠none):
 Rel K kd (QL (Lv F B (Gw [] ad) true) (· ∈ T)) (λ_=>False) [] (λ_=>[]) (Yq cap as) (Ym cap σ) H':=by
 have no:∀a,¬Gw [] (λ_=>[]) a:=λa z=>z.elim (λy=>nomatch y) λ⟨_,y⟩=>nomatch y;have kn:∀a,H a≠none->H' a≠none:=λa z=>by
  cases e:H a with
  |none=>exact absurd e z
  |some u=>rw[k a u e];simp
 have up:∀{st:Bool}{v:V}{d:D},Rp K kd (λa=>st=true/\Lv F B (Gw [] ad) true a) H v d->Rp K kd (Lv (QL _ (· ∈ T)) (λ_=>False) _ st) H' v d:=λ{st v d} h=>by
  have:=Rp.grow (W':=(· ∈ T)) (H':=H') ⟨λb u q _=>k b u q,λb z=>.inr<|hT b z⟩<|h.less λa z=>z.elim id False.elim;refine this.less λa z=>?_
  rcases z with(⟨z1,z2⟩|z)|z
  . rcases z2 with z2|z2
    . exact .inl ⟨z1,z2⟩
    . exact .inr z2
  . exact z.elim
  . exact(no a z).elim
 refine⟨by unfold Yq Ym;rw[zzB,zzB],λ_ _=>rfl,λ_=>zyJ,(λ_ _ _ z=>nomatch z),zyJ,(λ_ _ _ z=>nomatch z),λa z=>z.elim (λy=>kn a<|R.trk true a y)<|hT' a,(λ_ z=>z.elim),λa z=>(no a z).elim,λi s e=>?_⟩;unfold Yq at e;rw[zzI]at e;obtain⟨c,hc,rfl⟩:=zzX.mp e;have es:(Ym cap σ)[i]? = some (jy σ c):=by
  unfold Ym;rw[zzI,hc];rfl
 rw[es];cases c with
 |none=>rfl
 |some j=>
  show NU _ _ _ _ _ _ (match as[j]? with|some (some<|.lf st d)=>some _|some (some o)=>some _|_=>none) _ _;cases k2:as[j]? with
  |none=>rfl
  |some s0=>
   cases s0 with
   |none=>rfl
   |some o=>
    obtain⟨v,hv,ro⟩:=R.sl j _ k2;cases o with
    |lf st d=>
     have e0:ad j=[]:=by
            generalize hfp:ad j=fp at ro;cases ro;rfl
     rw[e0]at ro;refine⟨v,by show some ((σ[j]?).getD none)=_;rw[hv];rfl,.lf<|up ?_⟩;exact(Lq ro).less λa z=>by have zs:=z.1;rw[zs];exact z.2
    |nd kk os=>exact⟨v,by show some ((σ[j]?).getD none)=_;rw[hv];rfl,.lf<|up ((LU ro).less λa z=>nomatch z.1)⟩
def Az(hS:∀i ∈ S,cap[i]? = some none)(h:al K kd (zU fi cap g tt fe) σ H Q):
 D1 (cB K kd fi) cap (fg K kd S g) (qi K kd tt) (al K kd fe) σ H Q:=by
 obtain⟨F,B,ad,as,r,as',R,e,q⟩:=h;obtain⟨⟨ds,as1⟩,h1,e⟩:=bS_<|e
 by_cases hz:ds.length<=sizeLine
 . have e:(if ds.length<=sizeLine then(xB g tt fe (Yq cap as1) ds).bind λos=>some (RV.ow<|.nd .ls os,as1)else none)=some (r,as'):=e;rw[if_pos hz]at e;obtain⟨os,h2,e⟩:=bS_ e;cases e;refine⟨F,B,ad,as,ds,as',R,h1,λJ ad1 H1 R1 g1 it=>?_⟩;refine⟨λi m ys H3=>m+i=ds.length/\∃T os1 os2,os=os1++os2/\xB g tt fe (Yq cap as') (ds.drop i)=some os2/\os1.length<=i/\T.Nodup/\(∀a ∈ T,H1 a=none/\H3 a≠none)/\(∀b u,H1 b=some u->H3 b=some u)/\
    RoL (λ_ v d=>Rp K kd (QL (Lv F B (Gw [] ad1) true) (· ∈ T)) H3 v d) (λa=>¬QL (Lv F B (Gw [] ad1) true) (· ∈ T) a) H3 ys os1 T,⟨ds.length,rfl,[],[],os,rfl,h2,zzN _,zyJ,(λ_ m=>nomatch m),(λ_ _ z=>z),.nil⟩, ?_⟩
   rintro i m ys H3 ⟨hm,T,os1,os2,eo,ec,hl,tnd,tf,k3,rl⟩
   obtain⟨i1,i2,i3⟩:=it.all H3 (· ∈ T) k3 tf i;have yl:=rl.length;refine⟨by omega, ?_⟩
   by_cases hi:i<ds.length
   . refine .inr ⟨i1 hi,λv H4 hy=>?_⟩;obtain⟨k4,rp⟩:=i3 v H4 hy;rw[zyQ hi]at ec;obtain⟨as2,e2,ec⟩:=bS_<|ec;obtain⟨⟨b,as3⟩,e3,ec⟩:=bS_ ec;have k14:=λb u h=>k4 b u<|k3 b u h;have kn4:∀a,H3 a≠none->H4 a≠none:=λa z=>by
      cases e:H3 a with
      |none=>exact absurd e z
      |some u=>rw[k4 a u e];simp
     have R4:=rj (cap:=cap) R1 k14 (λa z=>(tf a z).1) λa z=>kn4 a (tf a z).2;have no:∀a,¬Gw [] (λ_=>[]) a:=λa z=>z.elim (λy=>nomatch y) λ⟨_,y⟩=>nomatch y;refine⟨_,_,_,_,ds[i],as2,R4,(rp _<|zzE hi).less λa z=>?_,e2,λσ5 ad5 H5 R5 g5 keep5=>⟨λj w hw=>?_,_,_,ad5,as2,b,as3,R5,e3,λad6 H6 R6 g6=>?_⟩⟩
     . rcases z with(z|z)|z
       . exact z
       . exact z.elim
       . exact(no a z).elim
     . rw[keep5 j λz=>?_]
       . exact hw
       . have:=hS j z;unfold Ym at hw;rw[zzI,this]at hw;cases hw
     . -- what stood is kept
       have g46:=g5.trans g6;have k46:=λb u h=>g46.keep b u h<|no b;have k36:=λb u h=>k46 b u<|k4 b u h;have kn6:∀a,H3 a≠none->H6 a≠none:=λa z=>by
        cases e:H3 a with
        |none=>exact absurd e z
        |some u=>rw[k36 a u e];simp
       have up:∀{H7:Hp}{T2:List Addr},_->_->RoL (λ_ v d=>Rp K kd (QL _ (· ∈ T++T2)) H7 v d) (λa=>¬QL _ (· ∈ T++T2) a) H7 ys os1 T:=λ{H7 T2} k7 f7=>
        RoL.mono (λst v d r=>(r.since k7 f7).less λa z=>z.elim (λy=>.inl<|.inl y) λy=>(zzM.mp y).elim (λx=>.inl<|.inr x) .inr)
            (λa vs n e=>⟨λz=>z.elim (λy=>n<|.inl y) λy=>(zzM.mp y).elim (λx=>n<|.inr x) λx=>(by have:=f7 a x;rw[this]at e;cases e),k7 _ _ e⟩) (λa _ u h=>k7 a u h) rl
       cases b with
       |false=>
        have:=up (T2:=[]) k36 (λ_ m=>nomatch m);rw[zyE]at this;exact⟨m-1,q0q hm hi,q0k hm hi,T,os1,os2,eo,ec,Nat.le_succ_of_le hl,tnd,λa z=>⟨(tf a z).1,kn6 a (tf a z).2⟩,λb u h=>k36 b u<|k3 b u h,this⟩
       |true=>
        rw[if_pos rfl]at ec;obtain⟨⟨p,as7⟩,e7,ec⟩:=bS_ ec;obtain⟨⟨o,as8⟩,e8,ec⟩:=bS_ ec
        by_cases hs:o.str=true
        . have ec:=ec;rw[if_pos hs]at ec;obtain⟨os3,e9,ec⟩:=bS_ ec;cases ec;refine⟨by omega,_,_,ad6,as3,p,as7,R6,e7,λy T2 ad7 H7 R7 rv7 g7=>?_⟩;obtain⟨ad8,R8,ro8,le8⟩:=NT R7 rv7 e8;have g47:=g46.trans g7;have k47:=λb u h=>g47.keep b u h<|no b;have k37:=λb u h=>k47 b u<|k4 b u h;have f42:=λa z=>(g47.own a<|.inl z).resolve_left<|no a;have f32:∀a ∈ T2,H3 a=none:=λa z=>by
             cases e:H3 a with
             |none=>rfl
             |some u=>have:=k4 a u e;rw[f42 a z]at this;cases this
          have rt:=Bk R8 R8.tnd (λa z=>.inl z) ro8 hs;have ro9:Ro (λ_ v d=>Rp K kd (QL _ (· ∈ T++T2)) H7 v d) (λa=>¬QL _ (· ∈ T++T2) a) H7 y o T2:=
             Ro.mono (λst v d r=>r.less λa z=>z.elim (λy=>.inl<|.inl y) λy=>(zzM.mp y).elim (λx=>.inl<|.inr x) .inr)
              (λa vs n e=>⟨λz=>n<|z.elim (λy=>.inl<|.inl y) λy=>(zzM.mp y).elim (λx=>.inl<|.inr x) .inr,e⟩) (λ_ _ _ h=>h) rt.ro
          refine⟨m-1,q0q hm hi,q0k hm hi,T++T2,os1++[o],os3,by rw[eo,zxC];rfl,e9,by rw[zzJ,List.length_singleton];omega,zxE.mpr ⟨tnd,rt.nd,λa z b z' e=>?_⟩,λa z=>?_,λb u h=>k37 b u<|k3 b u h,(up k37 f32).append<|RoL.one ro9⟩
          . subst e;exact(tf a z).2<|f32 a z'
          . rcases zzM.mp z with z|z
            . refine⟨(tf a z).1, ?_⟩;cases e:H3 a with
              |none=>exact absurd e (tf a z).2
              |some u=>rw[k37 a u e];simp
            . refine⟨?_,rt.tr a z⟩;cases e:H1 a with
              |none=>rfl
              |some u=>have:=k3 a u e;rw[f32 a z]at this;cases this
        . have ec:=ec;rw[if_neg hs]at ec;cases ec
   . refine .inl ⟨i2<|q0n hm hi,λp hp=>?_⟩;rw[List.drop_eq_nil_of_le<|q0n hm hi]at ec;cases ec;rw[zyE]at eo;subst eo;have pT:=λz=>(tf p z).2 hp;have H1p:H1 p=none:=by
      cases e:H1 p with
      |none=>rfl
      |some u=>have:=k3 p u e;rw[hp]at this;cases this
     have kp:∀b u,H3 b=some u->upd H3 p (.lst ys) b=some u:=λb u h=>by rw[zG<|zZ h hp];exact h
     obtain⟨R9,g9⟩:=R1.news (T':=p::T) (H':=upd H3 p<|.lst ys) (zzW.mpr ⟨pT,tnd⟩) (λa z=>(zzC.mp z).elim (λe=>by rw[e];exact H1p) λz=>(tf a z).1) (λb u h=>kp b u<|k3 b u h) (λa z=>by
      rcases zzC.mp z with e|z
      . rw[e,z_];simp
      . cases e:H3 a with
        |none=>exact absurd e (tf a z).2
        |some u=>rw[kp a u e];simp)
     refine q _ (p::T) ad1 _ R9 (.ls z_ ?_)<|g1.trans g9;have le:∀st a,Lv F B (Gw (p::T) ad1) st a->QL (QL (Lv F B (Gw [] ad1) true) (· ∈ T)) (· = p) a:=λst a z=>by
      rcases z with(z|z)|z|z
      . exact .inl<|.inl<|.inl<|.inl ⟨rfl,z.2⟩
      . exact .inl<|.inl<|.inl<|.inr z
      . exact(zzC.mp z).elim .inr λy=>.inl<|.inr y
      . exact .inl<|.inl<|.inr<|.inr z
     exact RoL.mono (λst v d r=>(r.since kp λa z=>by rw[z];exact hp).less<|le st) (λa vs n e=>⟨λz=>(le true a z).elim n λy=>(by rw[y,hp]at e;cases e),kp _ _ e⟩) (λa _ u h=>kp a u h) rl
 . have e:=e;rw[if_neg hz]at e;cases e
end
section
variable{X:Cx}{kd:KD}{elt tg iter e a b c:Expr}{es ifs:List Expr}{scope:Scope}{pos:Pos}{N:List Str}{cap:List (Option Nat)}{g:GF}{tt:TF}{fe fa fb:EF}{fi:IF}{S:List Nat}{fr:AF}{fd:DF}
def Fm:J2 X [] (qi X.K kd yD):=λa s σ H Q I h=>by
 obtain⟨F,B,c,as,b,d,R,e,q⟩:=h;cases e;exact sf a s σ H Q I<|q c H R Grow.refl
def rH(h:AT X kd c tt):J2 X [c] (qi X.K kd tt):=by with_unfolding_all exact(rK h)
def BX(hc:X.calm=true)(hi:qF X kd tg iter fi)(hk:scope.kind = .function)(hcap:U6 N X.N scope.names X.env.scope.names cap=true)(hS:S.all (λi=>cap[i]? == some none)=true)
 (hg:∀cl s H fp,AG (yR X N scope cl s H fp) kd tg S g) (ht:∀cl s H fp,J2 (yR X N scope cl s H fp) ifs<|qi X.K kd tt) (he:∀cl s H fp,AE (yR X N scope cl s H fp) kd elt fe)
 (hs:∀x,foldedSetIterable iter X.env x=pure x):AE X kd (.ListComp elt [⟨tg,iter,ifs,0⟩] scope pos) (zU fi cap g tt fe):=by with_unfolding_all exact(yn (ql (g:=fg X.K kd S g) (te:=al X.K kd fe) hc hi hk hcap hg ht he hs) λσ H Q h=>Az (λi m=>by simpa using List.all_eq_true.mp hS i m) h)
def tP(hN:X.N.Nodup)(hiy:X.N[i]? = some y)(hy:Loc X.env.scope y)(hf:X.fn y=true\/X.env.scope.names.lookup y=some .local)
 (hsw:swapsWith (.ListComp elt [⟨tg,iter,ifs,0⟩] scope pos) (some<|.Name y py) spos.line X.env=pure true)
 (hc:X.calm=true) (hi:qF X kd tg iter fi) (hk:scope.kind = .function) (hcap:U6 N X.N scope.names X.env.scope.names cap=true) (hS:S.all (λi=>cap[i]? == some none)=true)
 (hg:∀cl s H fp,AG (yR X N scope cl s H fp) kd tg S g) (ht:∀cl s H fp,J2 (yR X N scope cl s H fp) ifs<|qi X.K kd tt) (he:∀cl s H fp,AE (yR X N scope cl s H fp) kd elt fe)
 (hs:∀x,foldedSetIterable iter X.env x=pure x):HK X kd (.Assign [.Name y py] (.ListComp elt [⟨tg,iter,ifs,0⟩] scope pos) spos) (zr z i<|zU fi cap g tt fe):=by with_unfolding_all exact(x6 (sk (g:=fg X.K kd S g) (te:=al X.K kd fe) hN hiy hy hf hsw hc hi hk hcap hg ht he hs) λD σ H h=>by
 obtain⟨F,B,c,as,o,R,e,q⟩:=h;obtain⟨⟨p,a⟩,d,e⟩:=bS_<|e;obtain⟨⟨y,f⟩,j,e⟩:=bS_ e;obtain⟨k,e⟩:=zv e;cases e;refine Az (λi m=>by simpa using List.all_eq_true.mp hS i m) ⟨F,B,c,as,p,a,R,d,λv A n r t u g=>?_⟩;obtain⟨b,R2,w⟩:=HM t u j k;exact q _ b r R2<|g.trans<|Grow.less w)
def CZ(F:FnOk X.prog X.w X.K X.mg X.base wV k f fdt ps (RD X.K kd gg))(hr:Room k X.A)(hg:Gl X x)(hm:X.mg x=some (.ref f))(hk:W.keepIn X.K (.ref f)=true)
 (hb:Binds X.K fdt ps []) (hx:vq wV X (λ_ _ _=>False)) (ha:AA X kd (e::es) fr) (hdb:(x==("__debug__":Str))=false) (he:starEach (e::es) X.env=(false,eval e X.env)::starEach es X.env) (hpl:(backTo pos<|starEach es X.env).any (·.1)=false):
 AE X kd (.Call (.Name x p) (e::es) [] pos) (zj fr gg):=by with_unfolding_all exact(yn (Iz F hr hg hm hk hb .nil hx ha hdb he hpl) λσ H Q h=>mO h)
def oB{id}(hc:XB X kd (.builtin id) gg)(hg:Gl X x)(hm:X.mg x=none)(hv:bootBuiltins x=some (.builtin id))(ha:AA X kd (e::es) fr)(hn:x≠"__name__")(hdb:(x==("__debug__":Str))=false)
 (he:starEach (e::es) X.env=(false,eval e X.env)::starEach es X.env) (hpl:(backTo pos<|starEach es X.env).any (·.1)=false):AE X kd (.Call (.Name x p) (e::es) [] pos) (fP fr gg):=by with_unfolding_all exact(yn (Nh hc hg hm hv ha hn hdb he hpl) λσ H Q h=>bq (λ_ _ _ z=>z) h)
def mC(hc:XB X kd (.type T) gg)(hg:Gl X x)(hm:X.mg x=none)(hv:bootBuiltins x=some (.type T))(ha:AA X kd (e::es) fr)(hn:x≠"__name__")(hdb:(x==("__debug__":Str))=false)
 (he:starEach (e::es) X.env=(false,eval e X.env)::starEach es X.env) (hpl:(backTo pos<|starEach es X.env).any (·.1)=false):AE X kd (.Call (.Name x p) (e::es) [] pos) (fP fr gg):=by with_unfolding_all exact(yn (Jm hc hg hm hv ha hn hdb he hpl) λσ H Q h=>bq (λ_ _ _ z=>z) h)
def Q0(fa:EF)(c:String):EF:=λas=>(fa as).bind λp=>(p.1.frz.view p.2).bind λx=>if sM x.1=true then some (.ow<|.lf true<|.bl<|IJ (gk x.1) c,p.2)else none
def A5(hk:KdOk X kd):Wh X (.builtin "isinstance") (λxs H Q=>∃x c O d,xs=[x,.ty c]/\RM c=true/\Vw X.K kd O H x d/\sM d=true/\Q (.bl<|IJ (gk d) c) H):=by
 intro b s σ H l m Q I r h;obtain⟨x,c,O,d,rfl,e,f,g,q⟩:=h;cases r with
 |cons i a=>
  cases a with
  |cons a j=>
   cases j;cases(a);exact oX hk I i f e g λk=>⟨.bl _,H,I.tok k,rfl,q⟩
def NY{c}(hkd:KdOk X kd)(hc:RM c=true)(hg:Gl X x)(hm:X.mg x=none)(hv:bootBuiltins x=some (.builtin "isinstance"))(hg2:Gl X y)(hm2:X.mg y=none)(hv2:bootBuiltins y=some (.type c))(ha:AE X kd a fa)
 (hn:x≠"__name__") (hdb:(x==("__debug__":Str))=false) (hn2:y≠"__name__") (hdb2:(y==("__debug__":Str))=false)
 (he:starEach [a,.Name y p2] X.env=(false,eval a X.env)::starEach [.Name y p2] X.env) (he2:starEach [.Name y p2] X.env=(false,eval (.Name y p2) X.env)::starEach [] X.env) (hpl:(backTo pos<|starEach [.Name y p2] X.env).any (·.1)=false):
 AE X kd (.Call (.Name x p) [a,.Name y p2] [] pos) (Q0 fa c):=by with_unfolding_all exact(yn (Nh (A5 hkd) hg hm hv (Vb ha (Vb (qe (v:=.ty c) hg2 hm2 hv2 rfl hn2 hdb2) Gg he2) he) hn hdb he hpl) λσ H Q h=>by
 obtain⟨F,B,s,as,r,i,R,e,q⟩:=h;obtain⟨⟨p,j⟩,k,e⟩:=bS_<|e;obtain⟨⟨d,t⟩,l,e⟩:=bS_ e;obtain⟨m,e⟩:=zv e;cases e;exact vU R k λv b n g f o=>⟨v,c,_,d,rfl,hc,xl.vw g f l,m,q _ [] b n g (.lf<|.bl _) o⟩)
noncomputable def ZS:MG:=λos es=>match es with | [o]=>if os.length<sizeLine then some (os++[o],.lf true .non)else none|_=>none
noncomputable def UA(i:Int)(n:Nat):Nat:=if i<0 then(i+(n:Int)).toNat else min i.toNat n
def H9:MG:=λos es=>match es with | [.lf _<|.int i,o]=>if(-(2 ^ 63)<=i/\i<2 ^ 63)/\os.length<sizeLine then some (os.take (UA i os.length)++o::os.drop (UA i os.length),.lf true .non)else none|_=>none
def AK:fz X kd CO ZS:=by
 intro F B G l f p q r g o s t H Q h c b d e k;unfold ZS at e
 split at e
 . obtain⟨i,e⟩:=zv e;cases e;cases b with
   |cons j n=>
    cases n;rw[zyE]at d k;exact⟨l,f,_,rfl,rfl,h,by rw[c.length];exact i,k _ _ _ [] (c.append<|RoL.one j) (.lf .non) (λa m=>by rwa [zyE]at m)<|by rw[zyE];exact d⟩
 . cases e
def jh:V->List V->Hp->VK->Prop:=λx vs H Q=>∃l xs i y,x = .ref l/\vs=[.int i,y]/\H l=some (.lst xs) /\ -(2 ^ 63)<=i/\i<2 ^ 63/\xs.length<sizeLine/\Q .non (upd H l<|.lst (xs.take (UA i xs.length)++y::xs.drop (UA i xs.length)))
def mY:ed X "list.insert" jh:=by
 intro c s σ H x p v A Q I f g h;obtain⟨l,B,i,y,rfl,rfl,d,j,k,C,q⟩:=h;cases f;obtain⟨u,w,rfl,m,b⟩:=g.two;obtain⟨t,rfl⟩:=m;obtain⟨z,a,n,r,o,e⟩:=I.lstM d;refine call_meets F.slot_list_insert ⟨_,e,rfl⟩ F.entry_list_insert (F.args_list_insert_3 _ _ _) (AutoSeq1.list_insert_list_int_val_1 l a.toArray n i t w (by rw[fitsIndex_both j k];exact zyV)<|by rw[zzH];exact q0T C o) ⟨e, ?_⟩;refine⟨.non,_,I.lset (its':=a.take (UA i a.length)++w::a.drop (UA i a.length)) d e ?_ ((r.take _).append<|.cons b<|r.drop _) ?_,rfl, ?_⟩
 . show((a.toArray.extract 0<|UA i a.toArray.size).push w++a.toArray.extract _)=_;rw[zzH];simp;exact List.take_of_length_le (by rw[List.length_drop];omega)
 . rw[zzJ,zzT,zzS,List.length_drop];omega
 . rw[<-o];exact q
def nt:fz X kd jh H9:=by
 intro F B G l r C s D t o E I H Q u g b h e k;unfold H9 at e
 split at e
 . rename_i J i K;obtain⟨c,e⟩:=zv e;cases e;cases b with
   |cons v d=>
    cases d with
    |cons d w=>
     cases w;cases v with
     |lf x=>
      cases x;rw[List.nil_append,zyE]at h k;obtain⟨f,j,y,z,A⟩:=g.part _;have n:=g.length;rename_i q;refine⟨l,r,i,_,rfl,rfl,u,c.1.1,c.1.2,by rw[n];exact c.2, ?_⟩;rw[n];subst y;have p:((f++j)++q).Perm (f++(q++j)):=by
       rw[zxC];exact(List.perm_append_comm).append_left f
      refine k _ _ _ [] (z.append<|.cons d A) (.lf .non) (λa m=>?_) (by rw[zyE];exact p.nodup_iff.mp h);rw[zyE]at m;exact p.mem_iff.mpr m
 . cases e
def OQ{i:Nat}{id}(hm:ed X id r)(hr:fz X kd r gg)(slot:Slot "list" name id)(hty:typeOf (.builtin id)=pure (.type "method_descriptor"))(ho:PE X (.Name x p) (Ry i))(ha:AD X kd (e::es) fd)
 (hbase:attributeBase (.Name x p) name X.env (eval (.Name x p) X.env)=eval (.Name x p) X.env)
 (hfew:((backTo cpos<|starEach (e::es) X.env).all (λx=>!x.1)&&(backToKw cpos<|keywordEach [] X.env).all (λx=>x.1.isSome)
  && decide ((e::es).length+([]:List Keyword).length+(if([]:List Keyword).isEmpty then 0 else 1)<30))=true)
 (hline:(apos.endLine==cpos.line)=true) (hs:starEach (e::es) X.env=(false,eval e X.env)::starEach es X.env) (hplain:(backTo cpos<|starEach es X.env).any (·.1)=false):
 AE X kd (.Call (.Attribute (.Name x p) name apos) (e::es) [] cpos) (ZQ i fd gg):=by with_unfolding_all exact(yn (q_ PySem.F.plainAttrs_list slot hty hm ho ha hbase hfew hline hs hplain) λσ H Q h=>g8 hr h)
end
inductive Ty where
 |str|lst|dct|int
def Ty.nm:Ty->String
 | .str=>"str" | .lst=>"list" | .dct=>"dict" | .int=>"int"
def s_:Ty->D->Bool
 | .str,.str _=>true
 | .lst,.lst _=>true
 | .dct,.dct _=>true
 | .int,.int _=>true
 |_,_=>false
def cT(X:Cx)(T:String)(x:V)(H:Hp):Prop:=∀(pins:List (Addr×Obj)) (σ:St) (s:Shared) (v:Value),Inv X pins σ H s->RelV x v->s.TypeIs v T/\∀a,v = .ref a->∃ob,s.heap.get? a=some ob/\ob.dict=none
def cz(X:Cx)(T:String)(r:V->List V->Hp->VK->Prop)(to:TE)(t:TA):TE:=λσ H Q=>to σ H λx H1=>cT X T x H1/\t σ H1 λxs H2=>r x xs H2 Q
section
variable{X:Cx}{kd:KD}{o e:Expr}{es:List Expr}{to:TE}{t:TA}{name:Str}{apos cpos:Pos}{T id:String}{r:V->List V->Hp->VK->Prop}
def jZ(pa:PlainAttrs T)(slot:Slot T name id)(hty:typeOf (.builtin id)=pure (.type "method_descriptor"))(hm:fX X id r)(ho:PE X o to)(ha:PA X (e::es) t)
 (hbase:attributeBase o name X.env (eval o X.env)=eval o X.env)
 (hfew:((backTo cpos<|starEach (e::es) X.env).all (λx=>!x.1)&&(backToKw cpos<|keywordEach [] X.env).all (λx=>x.1.isSome)
  && decide ((e::es).length+([]:List Keyword).length+(if([]:List Keyword).isEmpty then 0 else 1)<30))=true)
 (hline:(apos.endLine==cpos.line)=true) (hs:starEach (e::es) X.env=(false,eval e X.env)::starEach es X.env) (hplain:(backTo cpos<|starEach es X.env).any (·.1)=false):
 PE X (.Call (.Attribute o name apos) (e::es) [] cpos) (cz X T r to t):=by
 intro a s σ H Q I h;refine wpAny_Call_method_late hbase hfew hline rfl<|wo (ho a s σ H _ I h) λv f ⟨x,g,b,c,i,j⟩=>?_;obtain⟨k,l⟩:=i _ _ _ _ b c;refine⟨T,id,pa,slot,hty,k,l, ?_⟩;have d:=ha cpos a f σ g _ b j;rw[hs]at d ⊢;refine Calls.callWith_builtin (by show(false||(backTo cpos _).any (·.1))=false;rw[hplain]<;>rfl)<|Calls.evalArgs_plain ?_;exact wo d λm n ⟨p,q,u,w,y⟩=>hm a n σ q x p v m Q u c w y
def c9(X:Cx)(kd:KD)(id:String)(g:D->List D->Option R0):Prop:=
 fX X id (λx xs H Q=>∃O d ds r,(∀a,O a->H a≠none)/\Vw X.K kd O H x d/\VwL X.K kd O H xs ds/\g d ds=some r/\RQ X.K kd O H Q r)
def gc(hk:KdOk X kd){O}(h:Vw X.K kd O H x d)(e:s_ ty d=true):cT X ty.nm x H:=by
 intro pins σ s v I rx;cases h with
 |str z=>
  obtain⟨t,rfl⟩:=rx;cases ty<;>first|(cases e;done)|exact⟨typeIs_str s z t,λ_ e=>nomatch e⟩
 |int z=>
  obtain⟨t,rfl⟩:=rx;cases ty<;>first|(cases e;done)|exact⟨typeIs_int s z t,λ_ e=>nomatch e⟩
 |lst hr rl=>
  cases rx;obtain⟨its,_,pl,_⟩:=I.list hr.sq;cases ty<;>first|(cases e;done)|skip
  refine⟨pl.isList.typeIs,λa e=>?_⟩;cases e;obtain⟨o,n,e,c,hd,_⟩:=pl;exact⟨o,e,hd⟩
 |dct hr rm=>
  cases rx;obtain⟨z,hd,vs,rel,dd⟩:=Nc I hk hr;cases ty<;>first|(cases e;done)|skip
  refine⟨dd.typeIs,λb q=>?_⟩;cases q;obtain⟨ob,_,_,h1,h2,_⟩:=dd;exact⟨ob,h1,h2.2.1⟩
 |non=>cases ty<;>cases e
 |bl=>cases ty<;>cases e
 |tup=>cases ty<;>cases e
 |cl=>cases ty<;>cases e
 |ob=>cases ty<;>cases e
def Eg(ty:Ty)(fa:EF)(fr:AF)(g:D->List D->Option R0):EF:=λas=>(fa as).bind λp=>(p.1.frz.view p.2).bind λw=>if s_ ty w.1=true then(fr p.2).bind λq=>(p.1.frz.view q.2).bind λx=>(views q.2 q.1).bind λy=>(g x.1 y.1).bind λr=>(wrap (meet x.2 y.2) r).bind λz=>some (z,q.2)else none
def o8(hk:KdOk X kd)(h:al X.K kd (Eg ty fa fr g) σ H Q):
 cz X ty.nm (λx xs H Q=>∃O d ds r,(∀a,O a->H a≠none)/\Vw X.K kd O H x d/\VwL X.K kd O H xs ds/\g d ds=some r/\RQ X.K kd O H Q r) (al X.K kd fa) (pR X.K kd fr) σ H Q:=by
 obtain⟨F,B,U,as,r,o,R,e,q⟩:=h;obtain⟨⟨p,c⟩,s,e⟩:=bS_<|e;obtain⟨⟨V,W⟩,t,e⟩:=bS_ e;obtain⟨f,e⟩:=ite_some' e;obtain⟨⟨u,y⟩,A,e⟩:=bS_ e;obtain⟨⟨d,Y⟩,C,e⟩:=bS_ e;obtain⟨⟨D,E⟩,G,e⟩:=bS_ e;obtain⟨I,J,e⟩:=bS_ e;obtain⟨z,L,e⟩:=bS_ e;cases e;refine vU R s λv i Z m b M=>⟨gc hk (xl.vw m b t) f,F,B,i,c,u,_,m,A,λvs j H2 R2 k n=>?_⟩;exact⟨_,d,D,I,R2.tr _,(xl.vw R2 (b.grow n) C).less GK.meet1,(Q9 R2 k G).less GK.meet2,J,YE R2 L λw N P S l T=>q w N j P S l<|(M.trans n).trans T⟩
def qk(hk:KdOk X kd)(hm:c9 X kd id g)(pa:PlainAttrs ty.nm)(slot:Slot ty.nm name id)(hty:typeOf (.builtin id)=pure (.type "method_descriptor"))(ho:AE X kd a fa)(ha:AA X kd (e::es) fr)
 (hbase:attributeBase a name X.env (eval a X.env)=eval a X.env)
 (hfew:((backTo cpos<|starEach (e::es) X.env).all (λx=>!x.1)&&(backToKw cpos<|keywordEach [] X.env).all (λx=>x.1.isSome)
  && decide ((e::es).length+([]:List Keyword).length+(if([]:List Keyword).isEmpty then 0 else 1)<30))=true)
 (hline:(apos.endLine==cpos.line)=true) (hs:starEach (e::es) X.env=(false,eval e X.env)::starEach es X.env) (hplain:(backTo cpos<|starEach es X.env).any (·.1)=false):
 AE X kd (.Call (.Attribute a name apos) (e::es) [] cpos) (Eg ty fa fr g):=by with_unfolding_all exact(yn (jZ pa slot hty hm ho ha hbase hfew hline hs hplain) λσ H Q h=>o8 hk h)
end
section
variable{K:zzA}{kd:KD}{F B G:Addr->Prop}{T:List Addr}{ad:Ad}{as:AS}{σ:St}{H H':Hp}
inductive RPs(K:zzA)(kd:KD)(F B G:Addr->Prop)(H:Hp):List (V×V)->List (Key×O)->Prop
 |nil:RPs K kd F B G H [] []
 |cons {k:Key}{v:V}{o:O}{ps:List (V×V)}{kos:List (Key×O)}:Xj K kd F B G H v o []->RPs K kd F B G H ps kos->RPs K kd F B G H ((kV k,v)::ps) ((k,o)::kos)
end
abbrev Fn:=List (Bool×D)->Option O
section
variable{P:Program}{w:World}{K:zzA}{mg:Str->Option Value}{base:Heap}{kd:KD}
def BB:FnOk P w K mg base wV k f fd ps (RD K kd λ_=>none):=
 ⟨λc H Q E h=>(by obtain⟨_,_,_,_,_,e,_⟩:=h;cases e),λA a s H b d c Q E _ _ _ _ h=>(by obtain⟨_,_,_,_,_,e,_⟩:=h;cases e)⟩
def N2(hr:Room k A):A.units+100<cLine:=by have:=hr.un;omega
def u6(P:Program)(w:World)(K:zzA)(kd:KD):Prop:=∀X:Cx,X.prog=P->X.w=w->X.K=K->KdOk X kd
theorem V9{O}:∀ns:List Int,RpL K kd O H (ns.map V.int)<|ns.map D.int
 | []=>.nil
 |_::r=>.cons (.int _)<|V9 r
def mF{ns:List Int}(hg:g [(true,.lst<|ns.map D.int)]=some (.lf true<|.bl true))(hS:uX K H a (ns.map V.int)):RD K kd g [.ref a] H (λv _=>v = .bl true) E:=by
 refine⟨λ_=>False,[(true,.lst _)],.lf true _,(λ_ z=>z.elim),.cons ?_ .nil,hg,λv T e _ _ _ _ b=>?_⟩
 . rcases hS with h|⟨c,n,k,z,r⟩
   . exact .lst (λz=>z.2) h<|V9 ns
   . exact .lstK k z r<|V9 ns
 . cases b with
   |lf d=>cases d;rfl
end
namespace Bt
theorem len:bootBuiltins "len"=some (.builtin "len"):=by decide +kernel
theorem max:bootBuiltins "max"=some (.builtin "max"):=by decide +kernel
theorem min:bootBuiltins "min"=some (.builtin "min"):=by decide +kernel
theorem sum:bootBuiltins "sum"=some (.builtin "sum"):=by decide +kernel
theorem divmod:bootBuiltins "divmod"=some (.builtin "divmod"):=by decide +kernel
theorem isinstance:bootBuiltins "isinstance"=some (.builtin "isinstance"):=by decide +kernel
theorem int:bootBuiltins "int"=some (.type "int"):=by decide +kernel
theorem bool:bootBuiltins "bool"=some (.type "bool"):=by decide +kernel
theorem str:bootBuiltins "str"=some (.type "str"):=by decide +kernel
theorem list:bootBuiltins "list"=some (.type "list"):=by decide +kernel
theorem tuple:bootBuiltins "tuple"=some (.type "tuple"):=by decide +kernel
theorem dict:bootBuiltins "dict"=some (.type "dict"):=by decide +kernel
def n(x)(h:(x==("__name__":Str))=false):x≠"__name__":=λe=>by subst e;simp at h
end Bt
def WD(f:EF)(as:AS)(st:Bool)(d:D):Prop:=f as=some (.ow<|.lf st d,as)
def WT(f:TF)(as:AS)(b:Bool):Prop:=f as=some (b,as)
def WA(f:AF)(as:AS)(rs:List (Bool×D)):Prop:=f as=some (rs.map λx=>.ow<|.lf x.1 x.2,as)
def WO(f:DF)(as:AS)(os:List O):Prop:=f as=some (os,as)
section
variable{as:AS}{f a b:EF}{s t:Bool}{x y z:D}{i j:Int}
def zb:WD (fC x) as true x:=rfl
def za{i:Nat}(h:as[i]? = some (some<|.lf s x)):WD (fV i) as s x:=by unfold WD fV;rw[h]
def px(ha:WD a as s x)(hb:WD b as t y)(hg:g x y=some (.im z)):WD (f2 a b g) as (zB z||(s&&t)) z:=by
 unfold WD f2 at *;rw[ha];show((b as).bind _)=_;rw[hb];show((g x y).bind _)=_;rw[hg];show(if _=true then _ else _:Option RV).bind _=_;rw[if_pos<|by unfold meet;simp];rfl
def iJ(ha:a as=some (.ow oa,as))(hb:b as=some (.ow ob,as))(hg:g oa.toD ob.toD=some (.im z)):WD (f2 a b g) as (zB z||(oa.str&&ob.str)) z:=by
 unfold WD f2 at *;rw[ha];show((b as).bind _)=_;rw[hb];show((g oa.toD ob.toD).bind _)=_;rw[hg];show(if _=true then _ else _:Option RV).bind _=_;rw[if_pos<|by unfold meet;simp];rfl
def zw(ha:WD a as s x)(hb:WD b as t y)(hg:g x y=some (.im z))(e:zB z=true):WD (f2 a b g) as true z:=by
 have:=px ha hb hg;rw[e]at this;exact this
def zE(ha:WD a as s (.int i))(hb:WD b as t (.int j)):WD (f2 a b<|Y4 .Add) as true (.int<|i+j):=zw ha hb rfl rfl
def Y9(ha:WD a as s (.int i))(hb:WD b as t (.int j)):WD (f2 a b<|Y4 .Sub) as true (.int<|i-j):=zw ha hb rfl rfl
def Bn(ha:WD a as s (.int i))(hb:WD b as t (.int j))(h:j.natAbs<2 ^ 64):WD (f2 a b<|Y4 .Mult) as true (.int<|i*j):=zw ha hb (by show(if _ then _ else _)=_;rw[if_pos<|.inr h]) rfl
def y7(ha:WD a as s (.int i))(hb:WD b as t (.int j))(h1:i.natAbs<big)(h2:j.natAbs<big):WD (f2 a b<|Y4 .Mult) as true (.int<|i*j):=zw ha hb (by show(if _ then _ else _)=_;rw[if_pos<|.inl ⟨h1,h2⟩]) rfl
def xN(ha:WD a as s (.int i))(hb:WD b as t (.int j))(h1:0<j)(h2:j.natAbs<big):WD (f2 a b<|Y4 .FloorDiv) as true (.int<|i/j):=zw ha hb (by show(if _ then _ else _)=_;rw[if_pos ⟨h1,h2⟩]) rfl
def zV(ha:WD a as s (.int i))(hb:WD b as t (.int j))(h1:0<j):WD (f2 a b<|Y4 .Mod) as true (.int<|i%j):=zw ha hb (by show(if _ then _ else _)=_;rw[if_pos h1]) rfl
def uB(ha:WD a as s (.int i))(hb:WD b as t (.int j))(h1:0<=j/\j<=1000000/\i.natAbs<2 ^ 64):WD (f2 a b<|Y4 .Pow) as true (.int<|i ^ j.toNat):=zw ha hb (by show(if _ then _ else _)=_;rw[if_pos h1]) rfl
def UL(ha:WD a as s x)(hb:WD b as t y)(h:Xi 60 x y=some c):WD (f2 a b<|zz .Eq) as true (.bl c):=zw ha hb (by show(Xi 60 x y).bind _=_;rw[h];rfl) rfl
def IE(ha:WD a as s x)(hb:WD b as t y)(h:Xi 60 x y=some c):WD (f2 a b<|zz .NotEq) as true (.bl<|!c):=zw ha hb (by show(Xi 60 x y).bind _=_;rw[h];rfl) rfl
def um(ha:WD a as s (.int i))(hb:WD b as t (.int j)):WD (f2 a b<|zz .Lt) as true (.bl<|decide (i<j)):=zw ha hb rfl rfl
def hW(ha:WD a as s (.int i))(hb:WD b as t (.int j)):WD (f2 a b<|zz .Gt) as true (.bl<|decide (j<i)):=zw ha hb rfl rfl
def gP(ha:WD a as s (.int i))(hb:WD b as t (.int j)):WD (f2 a b<|zz .GtE) as true (.bl<|decide (j<=i)):=zw ha hb rfl rfl
def mL(ha:WD a as s (.int i)):WD (f1 a HR) as true (.int (-i)):=by
 unfold WD f1 at *;rw[ha];rfl
def yf(h:WD f as s x)(e:truth x=some c):WT (fT f) as c:=by
 unfold WT fT;unfold WD at h;rw[h];show((truth x).bind _)=_;rw[e];rfl
def W8(h:WT c as k):WT (YY c) as (!k):=by unfold WT YY at *;rw[h];rfl
def uG(h:WT c as k)(h2:k=true->WT e as l)(h3:k=false->l=false):WT (SB c e) as l:=by
 unfold WT SB at *;rw[h];cases k with
 |true=>exact h2 rfl
 |false=>rw[h3 rfl];rfl
def uk(h:WT c as k)(h2:k=false->WT e as l)(h3:k=true->l=true):WT (Br c e) as l:=by
 unfold WT Br at *;rw[h];cases k with
 |false=>exact h2 rfl
 |true=>rw[h3 rfl];rfl
def lr(h:WT c as true)(ha:WD a as s x):WD (Iq c a b) as s x:=by unfold WD Iq;unfold WT at h;rw[h];exact ha
def mI(h:WT c as false)(hb:WD b as s x):WD (Iq c a b) as s x:=by unfold WD Iq;unfold WT at h;rw[h];exact hb
def T4(h:WD a as s (.bl k))(h2:k=true->WD b as true (.bl l))(h3:k=false->l=false):WD (NS a b) as true (.bl l):=by
 unfold WD NS at *;rw[h];cases k with
 |true=>exact h2 rfl
 |false=>rw[h3 rfl];rfl
def zq:WA aN as []:=rfl
def zg(ha:WD a as s x)(hr:WA fr as rs):WA (aC a fr) as ((s,x)::rs):=by
 unfold WA aC at *;unfold WD at ha;rw[ha];show((fr as).bind _)=_;rw[hr];rfl
theorem YF:∀rs:List (Bool×D),XW as (rs.map λx=>.ow<|.lf x.1 x.2)=some (rs.map λx=>(zB x.2||x.1,x.2))
 | []=>rfl
 |r::a=>by
  show(XW as _).bind _=_;rw[YF a];rfl
theorem YH:∀rs:List (Bool×D),views as (rs.map λx=>.ow<|.lf x.1 x.2)=some (rs.map (·.2),some (rs.all (·.1)))
 | []=>rfl
 |r::a=>by
  show(views as _).bind _=_;rw[YH a];rfl
def Yt(ha:WA fr as rs)(hg:g (rs.map λx=>(zB x.2||x.1,x.2))=some (.lf s x)):WD (zj fr g) as s x:=by
 unfold WD zj;unfold WA at ha;rw[ha];show(XW as _).bind _=_;rw[YF];show(g _).bind _=_;rw[hg];rfl
def Zh(ha:WA fr as rs)(hg:g (rs.map λx=>(zB x.2||x.1,x.2))=some o):zj fr g as=some (.ow o,as):=by
 unfold zj;unfold WA at ha;rw[ha];show(XW as _).bind _=_;rw[YF];show(g _).bind _=_;rw[hg];rfl
def C3(ha:WA fr as rs)(hg:g (rs.map (·.2))=some (.im x)):WD (fP fr g) as (zB x||rs.all (·.1)) x:=by
 unfold WD fP;unfold WA at ha;rw[ha];show(views as _).bind _=_;rw[YH];show(g _).bind _=_;rw[hg];show(if _=true then _ else _:Option RV).bind _=_;rw[if_pos<|by simp];rfl
def yx(ha:WA fr as rs)(hg:g (rs.map (·.2))=some (.im x))(e:zB x=true):WD (fP fr g) as true x:=by
 have:=C3 ha hg;rw[e]at this;exact this
def yp:WO dN as []:=rfl
def zu{os}(ha:WD a as s x)(hr:WO fr as os):WO (dC a fr) as (.lf s x::os):=by
 unfold WO dC at *;unfold WD at ha;rw[ha];show((fr as).bind _)=_;rw[hr];rfl
def vz{os}(h:WO fr as os)(hl:os.length<=sizeLine):yd fr as=some (.ow<|.nd .ls os,as):=by
 unfold yd;unfold WO at h;rw[h];show(if os.length<=sizeLine then _ else _)=_;rw[if_pos hl]
def zo{f g}(h1:f as=some (.nx as1))(h2:g as1=o):zh f g as=o:=by unfold zh;rw[h1];exact h2
def wB{f g}(h1:f as=some (.rt o)):zh f g as=some (.rt o):=by unfold zh;rw[h1];rfl
def yL{f g}(h:WT c as true)(h1:f as=o):y6 c f g as=o:=by unfold y6;unfold WT at h;rw[h];exact h1
def zp{f g}(h:WT c as false)(h1:g as=o):y6 c f g as=o:=by unfold y6;unfold WT at h;rw[h];exact h1
def zJ{i:Nat}{st}(h:WD f as s x)(hi:i<as.length):zr st i f as=some (.nx<|as.set i<|some<|.lf s x):=by
 unfold zr;unfold WD at h;rw[h];cases st<;>exact if_pos hi
def xt{i:Nat}(h:f as=some (.ow o,as))(hi:i<as.length):zr false i f as=some (.nx<|as.set i<|some o):=by
 unfold zr;rw[h];exact if_pos hi
def qE{i:Nat}(h:f as=some (.ow o,as))(hi:i<as.length):zr true i f as=some (.nx<|as.set i<|some o.frz):=by
 unfold zr;rw[h];exact if_pos hi
def yT(h:WD f as true x):zy f as=some (.rt<|.lf true x):=by unfold zy;unfold WD at h;rw[h];rfl
def xo(hl:ds.length=m)(h:c (Zr n ds)=some (.rt o)):xJ n m c ds=some o:=by unfold xJ;rw[if_pos hl,h];rfl
theorem yP{f}(I:Nat->AS->Prop):∀(xs:List Zj) (k:Nat) (as:AS),(∀i x as,xs[i]? = some x->I (k+i) as->∃as1,g x as=some as1/\∃as2,f as1=some (.nx as2)/\I (k+i+1) as2)->I k as->∃as',forL g f xs as=some (.nx as')/\I (k+xs.length) as'
 | [],k,as,_,h=>⟨as,rfl,h⟩
 |x::r,k,as,d,h=>by
  obtain⟨a,j,b,l,m⟩:=d 0 x as rfl h;obtain⟨c,n,o⟩:=yP I r (k+1) b (λi y as e q=>by
   obtain⟨u,p,v,s,t⟩:=d (i+1) y as e (by rw[show k+(i+1)=k+1+i from q0e];exact q);exact⟨u,p,v,s,by rw[show k+1+i+1=k+(i+1)+1 by omega];exact t⟩) m
  refine⟨c, ?_,by rw[zzT,show k+_=k+1+r.length from q0e];exact o⟩;show(g x as).bind _=_;rw[j];show(f a).bind _=_;rw[l];exact n
def yh{f}(h:fi as=some (xs,as'))(h2:forL g f xs as'=o):yC fi g f as=o:=by unfold yC;rw[h];exact h2
def x_{lo}{n i:Nat}{x}(h:(yY lo n)[i]? = some x):x=(true,.int<|lo+i)/\i<n:=by
 unfold yY at h;rw[zzI]at h;cases e:(List.range n)[i]? with
 |none=>rw[e]at h;cases h
 |some k=>
  rw[e]at h;obtain⟨a,b⟩:=zzG.mp e;rw[zyU]at a;rw[List.getElem_range]at b;subst b;exact⟨(zzZ h).symm,a⟩
def xu(h:WA fr as [(u,.int j)])(h0:0<=j)(h1:j<1000000):yG fr yS as=some (yY 0 j.toNat,as):=by
 unfold yG;unfold WA at h;rw[h];simp only[zyL,YH];show((if -_<=j/\j<2 ^ 62 then some _ else none).bind _)=_;rw[if_pos ⟨by omega,by omega⟩];rfl
def Dm(ha:a as=some (.ow o,as))(hr:WA fr as rs):WA (aC a fr) as ((o.str,o.toD)::rs):=by
 unfold WA aC at *;rw[ha];show((fr as).bind _)=_;rw[hr];rfl
def rL{i:Nat}(h:as[i]? = some (some o)):RV.view as (.bo i)=some (o.toD,o.kl):=by simp only[RV.view,h]
def lA{i:Nat}(h:as[i]? = some (some o)):sH as (.bo i)=some (o.frz,as.set i<|some o.frz):=by simp only[sH,h]
def rh{i:Nat}(h:as[i]? = some (some o))(hs:o.str=true):DE as (.bo i)=some o:=by simp only[DE,h,hs,if_true]
def Cz{i:Nat}{os}(h:as[i]? = some (some<|.nd k os)):fV i as=some (.bo i,as):=by unfold fV;rw[h]
def aD{i:Nat}{os}(h:as[i]? = some (some<|.nd .ls os))(hl:os.all O.isLf=true)(hb:WD b as t y)(hg:zx (.lst<|O.toDs os) y=some (.im z)):WD (f2 (fV i) b zx) as (zB z||(O.strs os&&t)) z:=by
 unfold WD f2 at *;rw[Cz h];show((b as).bind _)=_;rw[hb];show((RV.view as<|.bo i).bind _)=_;rw[rL h];have e:(O.nd .ls os).kl=some (O.strs os):=by simp only[O.kl,hl,if_true]
 rw[e];show((zx (.lst _) y).bind _)=_;rw[hg];show(if _=true then _ else _:Option RV).bind _=_;rw[if_pos<|by unfold meet;simp];rfl
def A_{i:Nat}(h:as[i]? = some (some<|.lf s<|.lst ds)):Zq (fV i) as=some (kids s ds,as):=by
 unfold Zq fV;rw[h];rfl
def vG{f}(h1:g d as=some as1)(h2:f as1=some (.nx as2))(h3:forL g f r as2=o):forL g f (d::r) as=o:=by
 show(g d as).bind _=_;rw[h1];show(f as1).bind _=_;rw[h2];exact h3
def S0{f}(h1:g d as=some as1)(h2:f as1=some (.rt o)):forL g f (d::r) as=some (.rt o):=by
 show(g d as).bind _=_;rw[h1];show(f as1).bind _=_;rw[h2];rfl
def Dj{i:Nat}{os}(h:as[i]? = some (some<|.nd .ls os))(hl:os.length<sizeLine)(ha:WD a as s x):yo (ZQ i (dC a dN) ZS) as=some (.nx<|as.set i<|some<|.nd .ls<|os++[.lf s x]):=by
 unfold yo ZQ;rw[h];have e:=zu ha yp;rw[e];show(Option.bind (match as[i]? with|some (some<|.nd .ls os)=>_|_=>none) _)=_;rw[h];show((ZS os _).bind _).bind _=_;have e2:ZS os [.lf s x]=some (os++[.lf s x],.lf true .non):=by unfold ZS;exact if_pos hl
 rw[e2];rfl
def OX(h:f as=some (.ow o,as))(hg:g (o.str,o.toD) as=some as'):VW f g as=some (.nx as'):=by
 unfold VW;rw[h];show(g _ as).bind _=_;rw[hg];rfl
def Ud{i:Nat}(h:as[i]? = some (some o))(hs:o.str=true):zy (fV i) as=some (.rt o):=by
 cases o with
 |lf a d=>unfold zy fV;rw[h];have:a=true:=hs;subst this;rfl
 |nd k b=>
  unfold zy;rw[Cz h];show(DE as _).bind _=_;rw[rh h hs];rfl
def oP{os}(h:WO fr as os)(hl:os.length<=sizeLine)(ha:os.all O.isLf=true):WD (yj fr) as (O.strs os) (.tup<|O.toDs os):=by
 unfold WD yj;unfold WO at h;rw[h];show(if os.length<=sizeLine then some _ else _)=_;rw[if_pos hl];unfold UV;rw[if_pos ha]
def mD(ha:a as=some (.ow oa,as1))(hb:b as1=some (.ow ob,as2))(hg:g oa.toD ob.toD=some (.fl zs)):f2 a b g as=some (.ow<|.nd .ls<|zs.map<|Iu<|oa.str&&ob.str,as2):=by
 unfold f2;rw[ha];show((b as1).bind _)=_;rw[hb];show((g oa.toD ob.toD).bind _)=_;rw[hg];show(if _=true then _ else _:Option RV).bind _=_;rw[if_pos<|by unfold meet;simp];rfl
def yt(ha:WD a as true x)(hb:WD b as true y)(hg:g x y=some (.im z)):WD (f2 a b g) as true z:=by
 have:=px ha hb hg;rw[show(zB z||_)=true by simp]at this;exact this
def dm{i:Nat}{os}(h:as[i]? = some (some<|.nd .ls os))(hl:os.all O.isLf=true)(hs:O.strs os=true)(hb:WD b as true y)(hg:zx (.lst<|O.toDs os) y=some (.im z)):WD (f2 (fV i) b zx) as true z:=by
 have:=aD h hl hb hg;rw[hs,show(zB z||_)=true by simp]at this;exact this
theorem PQ:∀zs:List D,zs.map (Iu true)=zs.map (O.lf true)
 | []=>rfl
 |z::r=>by
  show Iu true z::r.map _=_;rw[PQ r];unfold Iu;rw[zyD];rfl
def qo(ha:a as=some (.ow oa,as1))(hb:b as1=some (.ow ob,as2))(hg:g oa.toD ob.toD=some (.fl zs))(h1:oa.str=true)(h2:ob.str=true):f2 a b g as=some (.ow<|.nd .ls<|zs.map<|O.lf true,as2):=by
 have:=mD ha hb hg;rw[h1,h2,show(true&&true)=true from rfl,PQ]at this;exact this
def vJ{os}(ha:a as=some (.ow o,as1))(hr:fr as1=some (os,as2)):dC a fr as=some (o::os,as2):=by
 unfold dC;rw[ha];show((fr as1).bind _)=_;rw[hr];rfl
def add_lists(h:xs.length+ys.length<=sizeLine):Y4 .Add (.lst xs) (.lst ys)=some (.fl<|xs++ys):=if_pos h
def TL(lo)(n:Nat):yY lo (n+1)=(true,.int lo)::yY (lo+1) n:=by
 unfold yY;rw[List.range_succ_eq_map,zyS,zyB]
 congr 1
 . simp
 . apply List.map_congr_left;intro i _;show(true,D.int _)=_
   congr 2
   omega
def SH(ha:WA fr as rs)(hg:g (rs.map (·.2))=some (.im x))(e:rs.all (·.1)=true):WD (fP fr g) as true x:=by
 have:=C3 ha hg;rw[e,zyD]at this;exact this
def sr(ha:WD a as s y)(ht:s_ ty y=true)(hr:WA fr as rs)(hg:g y (rs.map (·.2))=some (.im x))(e:zB x=true):WD (Eg ty a fr g) as true x:=by
 unfold WD Eg;unfold WD at ha;unfold WA at hr;rw[ha];show(if s_ ty y=true then _ else _:Option _)=_;rw[if_pos ht,hr];simp only[zyL,YH];show((g y _).bind _)=_;rw[hg];show(if _=true then _ else _:Option RV).bind _=_;rw[if_pos<|by rw[e];rfl];show some (RV.ow<|.lf _ x,as)=_;rw[e];rfl
def sC(h:WD f as s x)(e:Gy (s,x)=some ds):xS f as=some (ds,as):=by
 unfold xS;unfold WD at h;rw[h];show(Gy (s,x)).bind _=_;rw[e];rfl
def To{g fe as0 as1 y r os}(h1:g y as0=some as1)(h2:WD fe as1 true x)(h3:xB g yD fe as0 r=some os):xB g yD fe as0 (y::r)=some (.lf true x::os):=by
 show(g y as0).bind _=_;rw[h1];show(fe as1).bind _=_;unfold WD at h2;rw[h2];show _=_;rw[h3];rfl
def Pz{fi cap g tt fe xs os}(h1:fi as=some (xs,as))(hl:xs.length<=sizeLine)(h2:xB g tt fe (Yq cap as) xs=some os):zU fi cap g tt fe as=some (.ow<|.nd .ls os,as):=by
 unfold zU;rw[h1];show(if xs.length<=sizeLine then _ else _)=_;rw[if_pos hl];show _=_;rw[h2];rfl
end
def Uw(h:Nat.ble n 1000=true):n<=sizeLine:=Nat.le_of_lt<|Tx<|Nat.le_of_ble_eq_true h
def ze(h:Nat.ble (a+1) b=true):a<b:=Nat.le_of_ble_eq_true h
def zC(h0 : -(10 ^ 200)<i)(h1:i<10 ^ 200):i.natAbs<big:=by
 have:10 ^ 200<big:=by unfold big;decide +kernel
 have e:((10 ^ 200:Nat):Int)=(10:Int) ^ 200:=by norm_cast
 have:i.natAbs<((10 ^ 200:Nat):Int):=by rw[e];omega
 omega
def GC(K:zzA)(kd:KD)(mg:Str->Option Value)(x:Str)(d:D):Prop:=∃v u,mg x=some u/\RelV v u/\∀(O:Addr->Prop) (H:Hp),Rp K kd O H v d
section
variable{X:Cx}{kd:KD}{K:zzA}{mg:Str->Option Value}
def m7(h:GC X.K kd X.mg x d)(hg:Gl X x)(hd:(x==("__debug__":Str))=false):AE X kd (.Name x pos) (fC d):=by
 with_unfolding_all (
 obtain⟨v,u,h1,h2,h3⟩:=h;exact Lw (rO hg h1 h2 hd) h3)
theorem GC.int(h:mg x=some (.int i t)):GC K kd mg x (.int i):=⟨.int i,_,h,⟨t,rfl⟩,λ_ _=>.int i⟩
def eC(K:zzA)(g:Fn):Sp:=λvs H Q E=>∀kd:KD,RD K kd g vs H Q E
end
def BN(fa fb fc:EF)(g g':D->D->Option R0):EF:=λas=>(fa as).bind λp=>(fb p.2).bind λq=>(p.1.frz.view q.2).bind λx=>(q.1.frz.view q.2).bind λy=>(g x.1 y.1).bind λr=>match r with
 | .im (.bl true)=>(fc q.2).bind λt=>(q.1.frz.view t.2).bind λy'=>(t.1.frz.view t.2).bind λz=>(g' y'.1 z.1).bind λr'=>(wrap (meet y'.2 z.2) r').bind λo=>some (o,t.2)
 | .im (.bl false)=>some (.ow<|.lf true<|.bl false,q.2)
 |_=>none
section
variable{X:Cx}{kd:KD}{a b c:Expr}{fa fb fc:EF}{pos:Pos}
def SG(ho:nK X kd (compareOp op) g)(ho':nK X kd (compareOp op') g')(ha:AE X kd a fa)(hb:AE X kd b fb)(hc:AE X kd c fc)(hm:lastMarks [op,op'] [b,c]=false):
 AE X kd (.Compare a [op,op'] [b,c] pos) (BN fa fb fc g g'):=by with_unfolding_all exact(yn (uf ho ho' ha hb hc hm) λσ H Q h=>by
 obtain⟨F,B,ad,as,r,O,R,e,q⟩:=h;obtain⟨⟨p,P⟩,S,e⟩:=bS_<|e;obtain⟨⟨z,j⟩,T,e⟩:=bS_ e;obtain⟨⟨x,U⟩,V,e⟩:=bS_ e;obtain⟨⟨y,W⟩,Y,e⟩:=bS_ e;obtain⟨K,Z,e⟩:=bS_ e;refine vU R S λv ad1 H1 R1 k L=>vU R1 T λu l H2 R2 d m=>⟨_,x,y,K,R2.tr _,(xl.vw R2 (k.grow m) V).less GK.meet1,(xl.vw R2 d Y).less GK.meet2,Z, ?_⟩
 match K,e with
 | .im (.bl true),e=>
  obtain⟨⟨t,as3⟩,h6,e⟩:=bS_<|e;obtain⟨⟨y',n⟩,h7,e⟩:=bS_ e;obtain⟨⟨z',s⟩,h8,e⟩:=bS_ e;obtain⟨r1,h9,e⟩:=bS_ e;obtain⟨o,A,e⟩:=bS_ e;cases e;intro w M C D;cases D;obtain⟨E,f⟩:=R2.more C;refine⟨true,rfl, ?_⟩;rw[if_pos rfl];refine vU E h6 λw' G H4 i I N=>⟨_,y',z',r1,i.tr _,(xl.vw i ((d.grow f).grow N) h7).less GK.meet1,(xl.vw i I h8).less GK.meet2,h9, ?_⟩;exact YE i A λw T' H' R' J g'=>q w T' G H' R' J<|(((L.trans m).trans f).trans N).trans g'
 | .im (.bl false),e=>
  cases e;intro w M C D;cases D;obtain⟨E,f⟩:=R2.more C;refine⟨false,rfl, ?_⟩;rw[if_neg zyV];exact q _ [] l M E (.lf<|.bl _)<|(L.trans m).trans f)
end
inductive Ents(w:World):List DictEntry->List (Key×V)->Prop
 |nil:Ents w [] []
 |str {x:Str}{t:Tok}{v:V}{u:Value}{r:List DictEntry}{s:List (Key×V)}:RelV v u->Ents w r s->Ents w (⟨PyData.keyHash w.params x,.str x t,u⟩::r) ((.inr x,v)::s)
theorem Ents.keys:∀{es:List DictEntry}{kvs:List (Key×V)},Ents w es kvs->∀e ∈ es,∃k,(wu P w).is k e.key=true/\e.hash=(wu P w).hash k
 |_,_,.nil,_,m=>nomatch m
 |_,_,.str (x:=x) (t:=t) _ r,e,m=>by
  rcases zzC.mp m with rfl|m
  . exact⟨.inr x,QH P w x t,rfl⟩
  . exact r.keys e m
theorem Ents.pairs:∀{es:List DictEntry}{kvs:List (Key×V)},Ents w es kvs->∃vs,KV kvs vs/\Pairs (wu P w) es vs/\vs.map (·.1)=kvs.map (·.1)
 |_,_,.nil=>⟨[],.nil,.nil,rfl⟩
 |_,_,.str (x:=x) (t:=t) (u:=u) h r=>by
  obtain⟨a,b,c,d⟩:=r.pairs;exact⟨(.inr x,u)::a,.cons ⟨rfl,h⟩ b,.cons (QH P w x t) rfl c,by rw[zyS,zyS,d]⟩
structure DctAt(w:World)(K:zzA)(a:Addr)(kvs:List (Key×V)):Prop where
 ex:∃es ep,K.lookup a=some {cls:=.type "dict",data:=.dict es ep}/\Ents w es.toList kvs
 nd:(kvs.map (·.1)).Nodup
 le:kvs.length<=sizeLine
 ns:(a==sysModules)=false
def ee(l:List (Addr×List (Key×V)))(c:Str->Addr:=λ_=>0):KD:=⟨λa k=>l.lookup a=some k,c⟩
def lookup_mem{l:List (Addr×List (Key×V))}(h:l.lookup a=some k):(a,k) ∈ l:=by
 induction l with
 |nil=>cases h
 |cons p r b=>
  rw[List.lookup_cons]at h
  by_cases e:a=p.1
  . subst e;rw[beq_self_eq_true]at h;cases h;exact zzF
  . rw[show _=false from beq_eq_false_iff_ne.mpr e]at h;exact zzD _<|b h
def nU{K}(h:∀p ∈ l,DctAt w K p.1 p.2):u6 P w K (ee l c):=λX n o r=>by
 subst n;subst o;subst r;refine⟨λa k v b d=>zzZ<|b.symm.trans d,λa k b=>?_,λa k y b f=>?_⟩
 . obtain⟨g,i,e,_⟩:=(h _<|lookup_mem b).ex;exact⟨_,e⟩
 . have q:=h _<|lookup_mem b;obtain⟨g,i,e,j⟩:=q.ex;obtain⟨s,d,t,u⟩:=j.pairs;refine⟨q.le,q.ns,s,d,_,g,i,f _ _ e,⟨rfl,rfl,rfl⟩,rfl,λx m=>j.keys x (by simpa using m),t,by rw[u];exact q.nd⟩
def isStar:Expr->Bool
 | .Starred .. => true
 |_=>false
def EL(h:isStar a=false):starEach (a::es) env=(false,eval a env)::starEach es env:=by
 cases a<;>first|rfl|cases h
section
variable{as:AS}{f a b c:EF}{s t u:Bool}{x y z:D}{i j k:Int}
def uM(h:WD f as s (.bl q)):WD (IP f) as true (.bl<|!q):=by
 unfold WD IP at *;rw[h];rfl
def JY(h1:g w as0=some as1)(h2:WT tt as1 false)(h3:xB g tt fe as0 r=o):xB g tt fe as0 (w::r)=o:=by
 unfold WT at h2;show(g w as0).bind _=_;rw[h1];show(tt as1).bind _=_;rw[h2];exact h3
def WE(f:EF)(as:AS)(x:D):Prop:=∃o,f as=some (.ow o,as)/\o.str=true/\o.toD=x
def RE(r:Option O)(x:D):Prop:=∃o,r=some o/\o.str=true/\o.toD=x
def WD.e(h:WD f as true x):WE f as x:=⟨_,h,rfl,rfl⟩
def RE.of(h:r=some (.lf true x)):RE r x:=⟨_,h,rfl,rfl⟩
def ZM{os}(h:WO fr as os)(hl:os.length<=sizeLine)(hs:O.strs os=true)(e:D.lst (O.toDs os)=x):WE (yd fr) as x:=⟨_,vz h hl,hs,e⟩
def y_(h:WE a as x)(hr:WA fr as rs):WA (aC a fr) as ((true,x)::rs):=by
 obtain⟨o,b,c,rfl⟩:=h;have:=Dm b hr;rw[c]at this;exact this
def wU(ha:WE a as x)(hg:RE (g [(true,x)]) z):WE (zj (aC a aN) g) as z:=by
 obtain⟨o,b,c,d⟩:=hg;exact⟨o,Zh (y_ ha zq) (by show g [(zB x||true,x)]=_;rw[zyD];exact b),c,d⟩
def y8(ha:WE a as x)(hb:WE b as y)(hg:RE (g [(true,x),(true,y)]) z):WE (zj (aC a<|aC b aN) g) as z:=by
 obtain⟨o,c,d,e⟩:=hg;exact⟨o,Zh (y_ ha<|y_ hb zq) (by show g [(zB x||true,x),(zB y||true,y)]=_;rw[zyD,zyD];exact c),d,e⟩
def ya(ha:WE a as x)(hb:WE b as y)(hc:WE c as w)(hg:RE (g [(true,x),(true,y),(true,w)]) z):WE (zj (aC a<|aC b<|aC c aN) g) as z:=by
 obtain⟨o,d,e,f⟩:=hg;exact⟨o,Zh (y_ ha<|y_ hb<|y_ hc zq) (by show g [(zB x||true,x),(zB y||true,y),(zB w||true,w)]=_;rw[zyD,zyD,zyD];exact d),e,f⟩
def nI(ha:WE a as x)(hg:g [(true,x)]=some (.lf s z)):WD (zj (aC a aN) g) as s z:=Zh (y_ ha zq) (by show g [(zB x||true,x)]=_;rw[zyD];exact hg)
def HP(ha:WE a as x)(hb:WE b as y)(hg:g [(true,x),(true,y)]=some (.lf s z)):WD (zj (aC a<|aC b aN) g) as s z:=Zh (y_ ha<|y_ hb zq) (by show g [(zB x||true,x),(zB y||true,y)]=_;rw[zyD,zyD];exact hg)
def ud(ha:WE a as x)(hb:WE b as y)(hc:WE c as w)(hg:g [(true,x),(true,y),(true,w)]=some (.lf s z)):WD (zj (aC a<|aC b<|aC c aN) g) as s z:=Zh (y_ ha<|y_ hb<|y_ hc zq) (by show g [(zB x||true,x),(zB y||true,y),(zB w||true,w)]=_;rw[zyD,zyD,zyD];exact hg)
def Jv(ha:WE a as x)(hb:WE b as y)(hg:g x y=some (.im z)):WD (f2 a b g) as true z:=by
 obtain⟨o,c,d,rfl⟩:=ha;obtain⟨p,e,f,rfl⟩:=hb;have:=iJ c e hg;rw[d,f,Bool.and_true,zyD]at this;exact this
def bL(ha:WE a as x)(hb:WE b as y)(hg:g x y=some (.fl zs)):f2 a b g as=some (.ow<|.nd .ls<|zs.map<|O.lf true,as):=by
 obtain⟨o,c,d,rfl⟩:=ha;obtain⟨p,e,f,rfl⟩:=hb;exact qo c e hg d f
theorem P4:∀zs:List D,O.strs (zs.map<|O.lf true)=true
 | []=>rfl
 |_::r=>P4 r
theorem Gp:∀zs:List D,O.toDs (zs.map<|O.lf true)=zs
 | []=>rfl
 |z::r=>congrArg (z :: ·)<|Gp r
def JI(ha:WE a as x)(hb:WE b as y)(hg:g x y=some (.fl zs)):WE (f2 a b g) as (.lst zs):=⟨_,bL ha hb hg,P4 zs,congrArg D.lst<|Gp zs⟩
def yJ(h:WE f as x)(hi:p<as.length):zr true p f as=some (.nx<|as.set p<|some<|.lf true x):=by
 obtain⟨o,a,b,rfl⟩:=h;have:=qE a hi;rw[show o.frz = .lf true o.toD by unfold O.frz;rw[b]]at this;exact this
def DM(ha:WE a as x)(hb:WE b as y)(h:Xi 60 x y=some q):WD (f2 a b<|zz .Eq) as true (.bl q):=Jv ha hb (by show(Xi 60 x y).bind _=_;rw[h];rfl)
def Oe(ha:WE a as x)(hb:WE b as y)(h:Xi 60 x y=some q):WD (f2 a b<|zz .NotEq) as true (.bl<|!q):=Jv ha hb (by show(Xi 60 x y).bind _=_;rw[h];rfl)
def O3(ha:WE a as x)(hg:g [x]=some (.im z)):WD (fP (aC a aN) g) as true z:=SH (y_ ha zq) hg rfl
def De{os}(ha:a as=some (.ow o,as))(hr:WO fr as os):WO (dC a fr) as (o::os):=vJ ha hr
def Au{os}(h:WO fr as os)(hl:os.length<=sizeLine):yj fr as=some (.ow<|UV os,as):=by
 unfold yj;unfold WO at h;rw[h];show(if os.length<=sizeLine then some _ else _)=_;rw[if_pos hl]
def IH{lo hi}(ha:WE a as y)(hl:fl as=some (lo,as))(hh:fh as=some (hi,as))(hg:g y lo hi=some (.fl zs)):WE (Rj a fl fh g) as (.lst zs):=by
 obtain⟨o,b,c,rfl⟩:=ha;refine⟨.nd .ls _, ?_,P4 zs,congrArg D.lst<|Gp zs⟩;unfold Rj;rw[b];show((fl as).bind _)=_;rw[hl];show((fh as).bind _)=_;rw[hh];show((g o.toD lo hi).bind _)=_;rw[hg];show(if _=true then some (RV.ow<|.nd .ls<|zs.map<|Iu<|(some o.str).getD false)else none:Option RV).bind _=_;rw[if_pos (by simp),c];show some (RV.ow<|.nd .ls<|zs.map<|Iu true,as)=_;rw[PQ]
def SY:Tn (.lst<|xs++ys) (some (xs.length:Int)) none=some (.fl ys):=by
 show some _=_
 congr 2
 unfold cutD;rw[HT.Wz,HT.NH,zzJ,Nat.min_eq_left<|q0v,List.drop_left,List.take_of_length_le<|by omega]
theorem QQ:∀ds:List D,kids true ds=ds.map λd=>(true,d)
 | []=>rfl
 |d::r=>by show(zB d||true,d)::kids true r=_;rw[QQ r,zyD];rfl
def jb(h:WE f as (.lst ds)):xS f as=some (ds.map λd=>(true,d),as):=by
 obtain⟨o,a,b,c⟩:=h;unfold xS;rw[a];show(Gy _).bind _=_;rw[b,c];show some _=_;rw[QQ]
def CM(h:WD f as true (.lst ds)):Zq f as=some (ds.map λd=>(true,d),as):=by
 unfold Zq;unfold WD at h;rw[h];show some (kids true ds,as)=_;rw[QQ]
end
section
variable{X:Cx}{kd:KD}
def eU:D->Option R0
 | .str x=>if x.length<=640 then(PySem.intText? x).bind λn=>some (.im<|.int n)else none
 |d=>dD d
def G8:List D->Option R0:=mw eU
def Cf:XB X kd (.type "int") G8:=by
 intro c s σ H m e Q I r h;obtain⟨O,o,z,p,f,a,q⟩:=h;obtain⟨x,d,rfl,g,a⟩:=TY f a;cases g with
 |str y=>
  obtain⟨j,a⟩:=ite_some' a;obtain⟨n,k,a⟩:=bS_ a;cases a;obtain⟨u,rfl,l⟩:=vals1 r;obtain⟨t,rfl⟩:=l;exact PySem.W.KIN.call_text k j ⟨.int _,H,I.tok _,⟨_,rfl⟩,yc q<|.int _⟩
 |int i=>cases a;exact EZ c s σ H _ e Q I r (.inl ⟨_,rfl,yc q<|.int _⟩)
 |bl b=>cases a;exact EZ c s σ H _ e Q I r (.inr ⟨_,rfl,yc q<|.int _⟩)
 |_=>cases a
end
section
variable{X:Cx}{pins:List (Addr×Obj)}{σ:List (Option V)}{H:Hp}{s:Shared}{h':Heap}
def RI{t':Nat}{ch:List Addr}(I:Inv X pins σ H s)(hf:∀b ∈ ch,KA X pins H b)(k:∀b u,b ∉ ch->s.heap.get? b=some u->h'.get? b=some u)(hp:s.heap.objs.size<=T)
 (new:vH X.prog X.w (upd H T o) h' T o):Inv X pins σ (upd H T o) {s with heap:=h',toks:=t'}:=by
 have hn:=I.hok.fresh hp;have nT:∀b u,s.heap.get? b=some u->b≠T:=λb u e z=>absurd (zzK (zxI e)<|by rw[z];exact hp)<|Nat.lt_irrefl _;have nc:∀b u,H b=some u->b ∉ ch:=λb u e z=>by have:=(hf b z).1;rw[e]at this;cases this
 refine I.step (g':=s.gens) (d':=s.drawn) (λb hb=>?_) (λb o _ _ hc e _=>k b o hc e) (λb o _ _ hc e _=>⟨o.slots,k b o hc e⟩) (λb o _ e n=>by rw[zG<|nT b o e];exact n)
  (λb o hc e=>⟨o,k b o hc e⟩) (λb xs e=>by rw[zG<|zZ e hn];exact e) (λb o u e=>by rw[zG<|zZ e hn];exact e) (λb ps e=>⟨#[],by rw[zG<|zZ e hn,e];simp⟩) (λm hm=>?_) (λb u e=>?_) I.bare
 . obtain⟨f0,f1,f2,f3,f4,f5⟩:=hf b hb;exact⟨f3,f1,f4,f5⟩
 . obtain⟨o,es,ep,ho,r⟩:=hm;exact⟨o,es,ep,k _ o (λz=>(hf _ z).2.1 rfl) ho,r⟩
 . by_cases hb:b=T
   . subst hb;rw[z_]at e;cases e;exact new
   . rw[zG hb]at e;refine(I.hok b u e).stay (λc v hc q=>k c v ?_ q) (λc q=>by rw[zG<|zZ q hn];exact q) λc xs q=>by rw[zG<|zZ q hn];exact q
     rcases hc with z|z
     . rw[z];exact nc b u e
     . exact nc c _ z
end
section
variable{as:AS}{f a b:EF}{s t:Bool}{x y z:D}
def o_(h:WE f as (.tup ds)):xS f as=some (ds.map λd=>(true,d),as):=by
 obtain⟨o,a,b,c⟩:=h;unfold xS;rw[a];show(Gy _).bind _=_;rw[b,c];show some _=_;rw[QQ]
def uP:Tn (.lst<|xs++ys) none (some (xs.length:Int))=some (.fl xs):=by
 show some _=_
 congr 2
 unfold cutD;rw[HT.Wz,HT.NH,zzJ,Nat.min_eq_left<|q0v,List.drop_zero,Nat.sub_zero,List.take_left]
end
def MC{t':Nat}{ch:List Addr}(I:Inv X pins σ H s)(hf:∀b ∈ ch,KA X pins H b)(k:∀b u,b ∉ ch->s.heap.get? b=some u->h'.get? b=some u):Inv X pins σ H {s with heap:=h',toks:=t'}:=by
 have nc:∀b u,H b=some u->b ∉ ch:=λb u e z=>by have:=(hf b z).1;rw[e]at this;cases this
 refine I.step (g':=s.gens) (d':=s.drawn) (λb hb=>?_) (λb o _ _ hc e _=>k b o hc e) (λb o _ _ hc e _=>⟨o.slots,k b o hc e⟩) (λb o _ e n=>n)
  (λb o hc e=>⟨o,k b o hc e⟩) (λb xs e=>e) (λb o u e=>e) (λb ps e=>⟨#[],by rw[e];simp⟩) (λm hm=>?_) (λb u e=>?_) I.bare
 . obtain⟨f0,f1,f2,f3,f4,f5⟩:=hf b hb;exact⟨f3,f1,f4,f5⟩
 . obtain⟨o,es,ep,ho,r⟩:=hm;exact⟨o,es,ep,k _ o (λz=>(hf _ z).2.1 rfl) ho,r⟩
 . refine(I.hok b u e).stay (λc v hc q=>k c v ?_ q) (λc q=>q) λc xs q=>q
   rcases hc with z|z
   . rw[z];exact nc b u e
   . exact nc c _ z
section
variable{X:Cx}{tg:Expr}
def JK(I l1 l2:Nat)(h1:l1<I)(h2:l2<I):ZipApart (I+4) (I+2) (I+3) I (I+1) l1 l2:=by
 constructor<;>(show(_:Nat)≠_;omega)
end
section
variable{X:Cx}{kd:KD}{tg e:Expr}{fa:EF}
noncomputable def Ut(st:Bool):List D->List D->List Zj
 |x::r,y::t=>(st,.tup [x,y])::Ut st r t
 |_,_=>[]
theorem RH(st):∀(xs ys:List D),(Ut st xs ys).length=min xs.length ys.length
 | [],_=>by simp[Ut]
 |_::_,[]=>by simp[Ut]
 |_::r,_::t=>by simp only[Ut,zzT,RH st r t];omega
theorem N3{st}:∀{xs ys:List D}{i:Nat}{y:Zj},(Ut st xs ys)[i]? = some y->∃d e,xs[i]? = some d/\ys[i]? = some e/\y=(st,.tup [d,e])
 | [],_,_,_,h=>by simp[Ut]at h
 |_::_,[],_,_,h=>by simp[Ut]at h
 |x::r,y::t,0,z,h=>by
  simp only[Ut,List.getElem?_cons_zero]at h;cases h;exact⟨x,y,rfl,rfl,rfl⟩
 |x::r,y::t,i+1,z,h=>by
  simp only[Ut,List.getElem?_cons_succ]at h;obtain⟨d,e,h1,h2,h3⟩:=N3 h;exact⟨d,e,by simpa using h1,by simpa using h2,h3⟩
end
def u9{K O}(h:RpL K kd O H vs ds)(hv:zS vs us)(e:Qw ds=some ns):IntsAre us ns:=
 RpL.ind (P:=λvs ds=>∀us ns,zS vs us->Qw ds=some ns->IntsAre us ns) (λus ns hv e=>by cases e;cases hv;exact .nil) (λ{v d vs ds} a _ ih us ns hv e=>by
  cases hv with
  |cons b t=>
   cases a with
   |int x=>
    obtain⟨ys,h1,h2⟩:=bS_<|e;cases h2;obtain⟨tk,rfl⟩:=b;exact .cons _ _ (ih _ _ t h1)
   |_=>cases e) h us ns hv e
def B0(f:D->Option Bool):List D->Option Nat
 | []=>none
 |x::r=>(f x).bind λb=>if b=true then(anyF f r).bind λ_=>some 0 else(B0 f r).bind λj=>some<|j+1
def OE(d:D):List D->Option R0:=mw λx=>(nM d).bind λds=>(B0 (λy=>Xi 50 y x) ds).bind λj=>if ds.length<=1000 then some (.im<|.int j)else none
theorem Sl:∀{ds:List D}{j:Nat},B0 f ds=some j->∀d ∈ ds,∃c,f d=some c
 | [],_,h,_,m=>nomatch m
 |x::r,j,h,d,m=>by
  obtain⟨b,e,h⟩:=bS_<|h
  rcases zzC.mp m with rfl|m
  . exact⟨b,e⟩
  . cases b with
    |true=>
     obtain⟨c,a,_⟩:=bS_<|h;exact X8 a d m
    |false=>
     obtain⟨k,a,_⟩:=bS_<|h;exact Sl a d m
section
variable{X:Cx}{kd:KD}{pins:List (Addr×Obj)}{σ:St}{H:Hp}{s:Shared}{O:Addr->Prop}
def tZ(I:Inv X pins σ H s)(hk:KdOk X kd)(hv:zS vs us)(h:RpL X.K kd O H vs ds)(e:B0 (λy=>Xi n y x) ds=some j):∃h:j<us.length,tR X.K kd O H n x us[j]=true/\∀m (hm:m<us.length),m<j->tR X.K kd O H n x us[m]=false:=
 RpL.ind (P:=λvs ds=>∀us j,zS vs us->B0 (λy=>Xi n y x) ds=some j->∃h:j<us.length,tR X.K kd O H n x us[j]=true/\∀m hm,m<j->tR X.K kd O H n x us[m]=false) (λus j hv e=>by cases e) (λ{v d vs ds} a _ ih us j hv h=>by
  cases hv with
  |cons r t=>
   obtain⟨b,h1,h⟩:=bS_<|h;cases b with
   |true=>
    obtain⟨c,h2,h3⟩:=bS_<|h;cases h3;exact⟨by simp,B1 I hk r a h1,λm hm hlt=>by omega⟩
   |false=>
    obtain⟨k,h2,h3⟩:=bS_<|h;cases h3;obtain⟨hk',e1,e2⟩:=ih _ _ t h2;refine⟨by simpa using hk',by simpa using e1,λm hm hlt=>?_⟩;cases m with
    |zero=>exact B1 I hk r a h1
    |succ m=>simpa using e2 m (by simpa using hm) (by omega)) h us j hv e
def Dh(hk:KdOk X kd)(hu:X.A.units+100<cLine):c9 X kd "list.index" OE:=by
 intro k s σ H x Y v Z Q I C r h;obtain⟨O,d,ds,r0,ht,D,E,a,q⟩:=h;obtain⟨y',y,rfl,G,a⟩:=TY E a;obtain⟨es,J,b⟩:=bS_<|a;cases TX J
 . obtain⟨j,l,a⟩:=bS_ b;obtain⟨hz,a⟩:=zv a;cases a;obtain⟨u,rfl,L⟩:=vals1 r;cases D with
   |lst M c=>
    cases C;obtain⟨e,f,N,_⟩:=I.list M.sq;obtain⟨⟨cls,P,o,R⟩,p,t,n,z⟩:=N.isList;simp only at t z;subst t z;obtain⟨S,T,U⟩:=tZ I hk f c l;have B:=f.length;have g:=c.length;refine call_meets PySem.F.slot_list_index ⟨_,p,rfl⟩ PySem.F.entry_list_index (PySem.F.args_list_index_2 _ _)
     (SeqAt.list_indexAt _ e.toArray n P R _ _ j (by simpa using S) (by omega) (by simpa using T) λm V i=>by simpa using U m (by simpa using V) i)
     ⟨p,λw W=>Pu I hk (by show X.A.units+1+50<cLine;exact q0f hu) G L f c (Sl l) w (by simpa using W),⟨.int j,H,I.tok _,⟨_,rfl⟩,yc q<|.int _⟩⟩
end
theorem GX:∀{vs:List V}{us:List Value},vs.length=us.length->(∀(i:Nat) v u,vs[i]? = some v->us[i]? = some u->RelV v u)->zS vs us
 | [],[],_,_=>.nil
 | [],_::_,h,_=>by simp at h
 |_::_,[],h,_=>by simp at h
 |v::c,u::d,h,k=>.cons (k 0 v u rfl rfl) (GX (by simpa using h) λi a b x y=>k (i+1) a b (by simpa using x)<|by simpa using y)
section
variable{X:Cx}{tg:Expr}
def kM(ta:TA):TE:=λσ H Q=>ta σ H λvs H1=>∃j:Int,vs=[.int j] /\ -(2 ^ 62)<=j/\j<2 ^ 62/\∀r,H1 r=none->Q (.ref r) (upd H1 r<|.rng 0 j)
def Ao(hg:Gl X "range")(hm:X.mg "range"=none)(ha:PA X [a] ta)(hs:starEach [a] X.env=[(false,eval a X.env)]):PE X (.Call (.Name "range" p) [a] [] pos) (kM ta):=by
 intro c s σ H Q I h;refine Call_<|Va I hg hm boot_range<|PyProof.Rows.callWith_type1 (wo (ha pos c s σ H _ I h) λl f ⟨m,n,d,g,i⟩=>?_) hs rfl;obtain⟨j,e,u,v,q⟩:=i;subst e;cases g with
 |cons r k=>
  cases k;obtain⟨t,rfl⟩:=r;exact call_range_1 ⟨.ref f.heap.objs.size,_,d.laid (λb o e=>zxH _ e) (zzN _) (show vH X.prog X.w _ _ _ (.rng 0 j)from⟨_,_,_,zxJ _ rfl⟩),rfl,q _<|d.hok.fresh<|zzN _⟩
def bI(ta:TA):TE:=λσ H Q=>qU (kM ta) oJ σ H λvs H2=>∃r H1,∃j:Int,vs=[.ref r]/\H1 r=none/\H2=upd H1 r (.rng 0 j)/\0<=j/\j<=100000/\∀l,H2 l=none->Q (.ref l) (upd H2 l<|.lst<|(List.range j.toNat).map λ(i:Nat)=>V.int i)
def Jx(hc:X.calm=true)(hg:Gl X "range")(hm:X.mg "range"=none)(hgl:Gl X "list")(hml:X.mg "list"=none)(ha:PA X [a] ta)(hs:starEach [a] X.env=[(false,eval a X.env)])
 (hs':starEach [.Call (.Name "range" p) [a] [] pos] X.env=[(false,eval (.Call (.Name "range" p) [a] [] pos) X.env)]):PE X (.Call (.Name "list" p') [.Call (.Name "range" p) [a] [] pos] [] pos') (bI ta):=by
 intro b s σ H Q I h;refine Call_<|Va I hgl hml Bt.list<|PyProof.Rows.callWith_type1 (wo ((Vb (Ao hg hm ha hs) Gg hs') pos' b s σ H (λD g=>∃r o,∃j:Int,D=[.ref r]/\o r=none/\g=upd o r (.rng 0 j)/\0<=j/\j<=100000/\∀l,g l=none->Q (.ref l) (upd g l<|.lst<|(List.range j.toNat).map λ(i:Nat)=>V.int i)) I ?_) λP E ⟨D,g,m,F,G⟩=>?_) hs' rfl
 . exact h
 obtain⟨r,o,j,rfl,R,rfl,S,T,q⟩:=G;cases F with
 |cons J K=>
  cases K;cases J;obtain⟨t,u,v,L⟩:=m.hok r _<|z_ ..;have z:Builtin.Range.rangeSize 0 j 1=(j.toNat:Nat):=by rw[rangeSize_one];split<;>omega
  refine call_list_range (m.ok.hd hc) L (small_one (by omega) (by omega) (q2u S T)<|by omega) (by exact_mod_cast z) (by omega) λU W A M N B c=>?_;refine⟨.ref E.heap.objs.size,_,m.laid N (zzN _) (show vH X.prog X.w _ _ _ (.lst _)from⟨?_,A.toList,M, ?_,by simpa using B⟩),rfl,q _<|m.hok.fresh<|zzN _⟩
  . rw[zzB,zyU];exact zzO (show j.toNat<=100000 by omega) (by decide)
  . refine GX (by rw[zzB,zyU];simpa using c.1.symm) λi x y d O=>?_;rw[zzI]at d;obtain⟨C,e⟩:=c.2 i y (by simpa using O);cases hr:(List.range j.toNat)[i]? with
    |none=>rw[hr]at d;cases d
    |some k=>
     rw[hr]at d;obtain⟨_,f⟩:=zzG.mp hr;rw[List.getElem_range]at f;subst f;cases d;exact⟨C,by rw[e];simp⟩
end
section
variable{X:Cx}{kd:KD}
noncomputable def fQ:List D->Option R0
 | [.int j]=>if 0<=j/\j<=100000 then some (.fl<|(List.range j.toNat).map λ(i:Nat)=>.int i)else none
 |_=>none
theorem Il{K O}:∀l:List Nat,RpL K kd O H (l.map λ(i:Nat)=>V.int i)<|l.map λ(i:Nat)=>D.int i
 | []=>.nil
 |y::r=>.cons (.int y)<|Il r
def JQ(hc:X.calm=true)(hg:Gl X "range")(hm:X.mg "range"=none)(hgl:Gl X "list")(hml:X.mg "list"=none)(ha:AA X kd [a] fr)(hs:starEach [a] X.env=[(false,eval a X.env)])
 (hs':starEach [.Call (.Name "range" p) [a] [] pos] X.env=[(false,eval (.Call (.Name "range" p) [a] [] pos) X.env)]):AE X kd (.Call (.Name "list" p') [.Call (.Name "range" p) [a] [] pos] [] pos') (fP fr fQ):=by
 with_unfolding_all exact(yn (Jx hc hg hm hgl hml ha hs hs') λσ H Q h=>by
  obtain⟨F,B,y,as,r,A,R,e,q⟩:=h;obtain⟨⟨C,d⟩,D,e⟩:=bS_<|e;obtain⟨⟨E,Z⟩,f,e⟩:=bS_ e;obtain⟨G,g,e⟩:=bS_ e;obtain⟨z,I,e⟩:=bS_ e;cases e
  match E,g,f with
  | [.int j],g,f=>
   obtain⟨⟨J,L⟩,M⟩:=zv<|g;cases M;refine(⟨F,B,y,as,C,d,R,D,λvs k u v m N=>?_⟩);have O:=Q9 v m f;have P:=YE v I λw S T U n V=>q w S k T U n<|N.trans V;cases O with
   |cons W Y=>
    cases Y;cases W;refine⟨j,rfl,q2u J L,by omega,λr x=>⟨r,u,j,rfl,x,rfl,J,L,λl c=>?_⟩⟩;have s:l≠r:=λe=>by rw[e,z_]at c;cases c
    have t:u l=none:=by rw[zG s]at c;exact c
    exact P l _ _ t (λb o q=>xF c b o<|xF x b o q) z_<|Il _)
end
def YM(n:Nat)(os:List O):AS:=os.map some++List.replicate (n-os.length) none
theorem Ib:∀(ls:List O) {vs:List V}{fp:List Addr},ls.all O.isLf=true->RoL L N H vs ls fp->fp=[]
 | [],_,_,_,r=>by cases r;rfl
 |o::ls,_,_,h,r=>by
  rw[List.all_cons,zyC]at h;cases r with
  |cons a r=>
   cases a with
   |lf _=>rw[Ib ls h.2 r];rfl
   |_=>exact absurd h.1 (by simp[O.isLf])
def qP(h:RoL L N H vs ls fp):vs.length=ls.length:=RoL.length h
theorem Ic:∀(ls:List O) {vs:List V}{fp:List Addr}{i:Nat}{o:O},ls.all O.isLf=true->RoL L N H vs ls fp->ls[i]? = some o->∃v,vs[i]? = some v/\Ro L N H v o []
 | [],_,_,_,_,_,_,e=>by simp at e
 |d::ls,_,_,i,o,h,r,e=>by
  rw[List.all_cons,zyC]at h;cases r with
  |cons a r=>
   cases i with
   |zero=>
    simp at e;subst e;cases a with
    |lf z=>exact⟨_,rfl,.lf z⟩
    |_=>exact absurd h.1 (by simp[O.isLf])
   |succ i=>
    obtain⟨v,b,c⟩:=Ic ls h.2 r (by simpa using e);exact⟨v,by simpa using b,c⟩
def Mc{K}(ht:∀a,F a->H a≠none)(hn:T.Nodup)(hT:∀a ∈ T,H a≠none/\¬F a)(hl:ls.all O.isLf=true)(hN:(o::ls).length<=N.length)(ro:Za K kd F (λ_=>False) (· ∈ T) H vs (o::ls) T):
 Rel K kd F (λ_=>False) [] (λi=>if i=0 then T else[]) (YM N.length (o::ls)) (L2.start N vs) H:=by
 have b:=qP ro;have n:∀a,Gw [] (λi=>if i=0 then T else[]) a ↔ a ∈ T:=λa=>⟨λz=>z.elim (λy=>nomatch y) λ⟨i,y⟩=>by
  by_cases e:i=0
  . subst e;simpa using y
  . simp[e]at y,λz=>.inr ⟨0,by simpa using z⟩⟩
 have p:∀f a,Lv F (λ_=>False) _ f a->Lv F (λ_=>False) (· ∈ T) f a:=λf a z=>z.imp id (n a).mp;refine⟨by unfold YM L2.start;simp[b];omega,λi c=>?_,λi=>?_,λi j a x y=>?_,zyJ,(λ_ _ _ z=>nomatch z),ht,(λ_ z=>z.elim),λa z=>hT a<|(n a).mp z,λi s e=>?_⟩
 . have:i≠0:=λz=>by subst z;unfold YM at c;simp at c
   simp[this]
 . by_cases e:i=0
   . subst e;simpa using hn
   . simp[e]
 . have g:i=0:=by
    by_cases e:i=0
    . exact e
    . simp[e]at x
   have h:j=0:=by
    by_cases e:j=0
    . exact e
    . simp[e]at y
   rw[g,h]
 . unfold YM at e;unfold L2.start
   by_cases c:i<(o::ls).length
   . rw[zyP (by rw[zzB];exact c),zzI]at e;obtain⟨d,k,l⟩:=zzX.mp e;subst l;rw[zyP (by rw[zzB,b];exact c),zzI];cases ro with
     |cons a r=>
      rename_i v q A t;have u:=Ib ls hl r;subst u;cases i with
      |zero=>
       simp at k;subst k;exact⟨v,rfl,by simpa using Xj.lv p a⟩
      |succ i=>
       obtain⟨w,g,h⟩:=Ic ls hl r (show ls[i]? = some d by simpa using k);exact⟨w,by simp[g],by simpa using Xj.lv p h⟩
   . rw[zyR<|by rw[zzB];exact q0S b c]at e;have:=zyA e;have l:=(List.mem_replicate.mp this).2;subst l;have m:i≠0:=λz=>by subst z;exact c (by simp)
     show _=[];rw[if_neg m]
section
variable{K:zzA}{kd:KD}{F B G:Addr->Prop}{H:Hp}
theorem Hv{st}(h:L st v d):∀(os:List O) {vs:List V}{fp:List Addr},RoL L N H vs os fp->RoL L N H (vs++[v]) (os++[.lf st d]) fp
 | [],_,_,r=>by cases r;exact .cons (.lf h) .nil
 |o::b,_,_,r=>by
  cases r with
  |cons a r=>
   exact .cons a<|Hv h b r
end
def Bx:typeLookup (.type "list") "keys"=pure none:=am_miss_of_fast (by decide +kernel)
def OO
 (hx:s.heap.get? a=some o) (hc:o.cls = .type "list") (hdat:o.data = .seq xs k) (hd:o.dict=none) (hA:A.handled=none)
 (h:∀h' tk,(∀b o,s.heap.get? b=some o->h'.get? b=some o)->Q none {s with heap:=h',toks:=tk}):
 wpAny (model prog w) A (getAttr? (.ref a) "keys") Q E s:=by
 obtain⟨c,dct,dat,sl⟩:=o;simp only at hc hdat hd;subst hc hdat hd;obtain⟨hp,g,d,tk,os⟩:=s;have hT:∀tk',(⟨hp,g,d,tk',os⟩:Shared).TypeIs (.ref a) "list":=λ_=>⟨_,hx,rfl⟩;have f1:=sub_AttributeError;have f3:=F.slot_list_getattribute.lookup;have f4:=F.slot_list_getattribute.bind<|.ref a;have f5:=am_list_getattr_none;unfold getAttr? getAttrBy? getAttrBy
 repeat (any_goals (first|assumption|exact hT _|((with_reducible show wpAny _ _ (call _ _ _) _ _ _);refine call_meets F.slot_list_getattribute (hT _) am_entry_list_getattribute (F.args_list_getattribute_2 _ _) (meets_getattribute_miss_list a xs k sl "keys" _ Bx<|by decide +kernel) ⟨hx,hA,λh' tk' e hx'=>?_⟩)|wp_step))
 obtain⟨t',u',he⟩:=hx'.there;unfold getattributeRaised
 repeat (any_goals (first|assumption|wp_step))
 exact h _ _ hx'.keeps
def v9:plainId "dict.update.loop"=true:=by decide +kernel
theorem QM:entryFor table "dict.update.loop"=some Builtin.«dict.update.loop» := entryFor_of_fast (by kernel_rfl)
section
variable{prog:Program}{w:World}{κ:Type}[DecidableEq κ]{knd:KeyKind prog w κ}{A:Around}{R:Result->Shared->Prop}{d I l:Addr}{items:Array Value}{N:Nat}
noncomputable def putAll(kvs:List (κ×Value)):List (κ×Value)->List (κ×Value)
 | []=>kvs
 |p::r=>putAll (stored kvs p.1 p.2) r
def OD(kvs)(k:κ)(v):(stored kvs k v).length<=kvs.length+1:=by
 unfold stored
 split
 . rw[zzB];omega
 . rw[zzJ];exact zzN _
def uv(hh:A.handled=none)(hdN:N<=d)(hIN:N<=I)(hdI:d≠I)(hlN:l<N):∀(rest:List (κ×Value)) (i:Nat) (s:Shared) (kvs:List (κ×Value)),s.heap.IsListIter I l i->s.heap.IsList l items->s.heap.DictOf knd d kvs->kvs.length+rest.length<=sizeLine->
 (∀j p,rest[j]? = some p->∃q key,items[i+j]? = some (.ref q)/\q<N/\IsTup s.heap q #[key,p.2]/\knd.is p.1 key=true)->items[i+rest.length]? = none->
 (∀h' tk,h'.DictOf knd d (putAll kvs rest)->(∀b o,b<N->s.heap.get? b=some o->h'.get? b=some o)->R (.ok<|.ret .none) {s with heap:=h',toks:=tk})->
 codeAny (model prog w) A (.builtin "dict.update.loop" ⟨[.ref d,.ref I,rawInt i,.none],[]⟩) R s:=by
 intro rest
 induction rest with
 |nil=>
  intro i s kvs hit hl hm hz hp he hR;refine codeAny_builtin QM ?_;rw[Around.under_plainId v9 _];refine zxF<|wpAny_pyNext_list_end hh hit hl he λh' hx=>?_;refine zxF<|zxG<|zxG ?_;obtain⟨o,es,ep,ho,r⟩:=hm;exact hR h' s.toks ⟨o,es,ep,hx d o hdI ho,r⟩ λb o hb e=>hx b o (zzQ<|zzK hb hIN) e
 |cons p rest ih=>
  intro i s kvs hit hl hm hz hp he hR;obtain⟨q,key,hq,hqN,ht,hkey⟩:=hp 0 p rfl;refine codeAny_builtin QM ?_;rw[Around.under_plainId v9 _];refine zxF<|wpAny_pyNext_list_item hit hl hq λh' hit' hs=>?_;have sm:∀b o,b≠I->s.heap.get? b=some o->h'.get? b=some o:=λb o hb e=>(hs.2 b hb).trans e;obtain⟨oq,hoq,hcq,nq,hdq⟩:=ht;have hoq':=sm q oq (zzQ<|zzK hqN hIN) hoq;have hm':h'.DictOf knd d kvs:=let⟨o,es,ep,ho,r⟩:=hm;⟨o,es,ep,sm d o hdI ho,r⟩;have hl':h'.IsList l items:=let⟨o,ho,r⟩:=hl;⟨o,sm l o (zzQ<|zzK hlN hIN) ho,r⟩;have hT:({s with heap:=h'}:Shared).TypeIs (.ref q) "tuple":=⟨oq,hoq',hcq⟩;refine zxF<|zxK<|zxF<|wpAny_tryCatch ?_;unfold Builtin.Dict.pairItems;refine zxF<|wpAny_typeOf hT ?_;rw[if_pos<|by decide];refine zxF<|wpAny_seqItems hoq' hdq<|zxG ?_;refine zxK<|wpAny_dictSet_pairs hkey hm' λh'' hm'' hs''=>?_;have sm2:∀b o,b≠d->h'.get? b=some o->h''.get? b=some o:=λb o hb e=>(hs''.2 b hb).trans e;refine zxG ⟨plainId_quiet v9 _, ?_⟩;have hit'':h''.IsListIter I l (i+1):=let⟨o,ho,r⟩:=hit';⟨o,sm2 I o (Ne.symm hdI) ho,r⟩;have hl'':h''.IsList l items:=let⟨o,ho,r⟩:=hl';⟨o,sm2 l o (zzQ<|zzK hlN hdN) ho,r⟩;have keep:=λb o hb e=>sm2 b o (zzQ<|zzK hb hdN)<|sm b o (zzQ<|zzK hb hIN) e;have:=ih (i+1) {s with heap:=h'',toks:=s.toks+1} _ hit'' hl'' hm'' (by have:=OD kvs p.1 p.2;simp only[zzT]at hz;omega)
   (λj p' hj=>by
    obtain⟨q',key',a1,a2,⟨o',a3,a4⟩,a5⟩:=hp (j+1) p' (by simpa using hj);exact⟨q',key',by rw[show i+1+j=i+(j+1) from q0p];exact a1,a2,⟨o',keep q' o' a2 a3,a4⟩,a5⟩)
   (by rw[show i+1+rest.length=i+(p::rest).length by simp only[zzT];exact q0p];exact he)
   (λh3 tk hm3 k3=>hR h3 tk hm3 λb o hb e=>k3 b o hb<|keep b o hb e)
  exact this
end
def Nv{κ:Type}[DecidableEq κ]{knd:KeyKind prog w κ}{n:Nat}{ps}(hh:A.handled=none)
 (ho:s.heap.get? l=some o) (hc:o.cls = .type "list") (hd:o.data = .seq items n) (hn:o.dict=none) (hsz:ps.length<=sizeLine)
 (hp:∀(j:Nat) (p:κ×Value),ps[j]? = some p->∃(q:Addr) (key:Value),items[j]? = some (Value.ref q)/\IsTup s.heap q #[key,p.2]/\knd.is p.1 key=true) (he:items[ps.length]? = none)
 (h:∀h' tk,h'.DictOf knd s.heap.objs.size (putAll [] ps)->(∀b o,s.heap.get? b=some o->h'.get? b=some o)->Q (.ref s.heap.objs.size) {s with heap:=h',toks:=tk}):wpAny (model prog w) A (call (.type "dict") [.ref l]) Q E s:=by
 refine callType_codes (Q₁:=λd z=>d = .ref s.heap.objs.size/\z={s with heap:=s.heap.push {cls:=.type "dict",data:=.dict #[]}}) F.kt_called_dict (F.kt_typeCall_dict_1 _) F.entry_dict_init (kt_code_dict_new _ ⟨rfl,rfl⟩) ?_
 rintro d z ⟨rfl,rfl⟩
 have a:(s.heap.push {cls:=.type "dict",data:=.dict #[]}).DictOf knd s.heap.objs.size []:=Heap.DictOf.new s.heap;have f:∀b o,s.heap.get? b=some o->(s.heap.push {cls:=.type "dict",data:=.dict #[]}).get? b=some o:=λb o e=>zxH _ e;have C:({s with heap:=s.heap.push {cls:=.type "dict",data:=.dict #[]}}:Shared).TypeIs (.ref l) "list":=⟨o,f l o ho,hc⟩;refine⟨a.typeIs,F.args_dict_init_2 _ _, ?_⟩;unfold Builtin.«dict.__init__»;refine zxF ?_;unfold Builtin.Dict.selfAndRest;refine zxF<|wpAny_notOrdered_dict a.typeIs ?_;refine zxG ?_;show wpAny _ _ (Builtin.Dict.updateFrom "dict.__init__" s.heap.objs.size _ [] .none) _ _ _;unfold Builtin.Dict.updateFrom;refine zxF<|wpAny_typeOf C ?_;rw[if_pos<|by decide];refine zxF<|OO (f l o ho) hc hd hn hh λg v i=>?_;rw[if_pos<|by decide];refine zxF<|wpAny_rule ?_;have k:=i l o<|f l o ho;have x:g.IsList l items:=⟨o,k,hc,n,hd⟩;refine zxF<|wpAny_pyIter_list x ?_;have t:∀b o,g.get? b=some o->(g.push {cls:=.type "list_iterator",data:=.fields #[.ref l,.int 0 0]}).get? b=some o:=λb o e=>zxH _ e;have m:s.heap.objs.size<g.objs.size:=by
  obtain⟨u,_,_,c,_⟩:=a;exact zxI<|i _ _ c
 refine zxG ⟨plainId_quiet v9 _, ?_⟩;refine uv (A:=A.in1) (knd:=knd) hh (zzN _) (Nat.le_of_lt m) (zzQ m) (zxI ho) ps 0 {s with heap:=g.push {cls:=.type "list_iterator",data:=.fields #[.ref l,.int 0 0]},toks:=v} [] ⟨_,zxJ _ rfl,rfl,rfl⟩ ⟨o,t l o k,hc,n,hd⟩ ?_ (by rw[List.length_nil];omega) (λj p D=>?_) (by rw[zyX];exact he) λG H I J=>?_
 . obtain⟨u,K,L,c,r⟩:=a;exact⟨u,K,L,t _ _<|i _ _ c,r⟩
 . obtain⟨q,y,M,⟨u,B,O⟩,P⟩:=hp j p D;exact⟨q,y,by rw[zyX];exact M,zxI B,⟨u,t _ _<|i _ _<|f _ _ B,O⟩,P⟩
 . exact⟨rfl,h G H I λb o e=>J b o (zxI e)<|t _ _<|i _ _<|f _ _ e⟩
def Ge:List D->Option (List<|Key×D)
 | []=>some []
 |d::r=>(eg d).bind λl=>(oF l).bind λp=>(sE p.1).bind λk=>(Ge r).bind λt=>some ((k,p.2)::t)
def de:D->Option R0
 | .dct kvs=>some<|.fd kvs
 | .lst ds=>(Ge ds).bind λkvs=>if(kvs.map (·.1)).Nodup then some (.fd kvs)else none
 |_=>none
def Nb:List D->Option R0:=mw de
theorem NN[DecidableEq κ]:∀(ps acc:List (κ×Value)),((acc++ps).map (·.1)).Nodup->putAll acc ps=acc++ps
 | [],a,_=>(zyE a).symm
 |p::r,a,h=>by
  have b:stored a p.1 p.2=a++[p]:=by
   unfold stored;rw[if_neg];rw[zyM,zyS]at h;obtain⟨_,_,c⟩:=zxE.mp h;intro z;obtain⟨q,m,e⟩:=List.any_eq_true.mp z;exact c q.1 (List.mem_map_of_mem m) p.1 (zzF ..)<|of_decide_eq_true e
  show putAll _ r=_;rw[b,NN r _ (by rw[zxC];exact h),zxC];rfl
section
variable{X:Cx}{kd:KD}{O:Addr->Prop}{pins:List (Addr×Obj)}{σ:St}{H:Hp}{s:Shared}
theorem LW(I:Inv X pins σ H s):∀{vs:List V}{us:List Value}{ds:List D}{dk:List (Key×D)},RpL X.K kd O H vs ds->zS vs us->Ge ds=some dk->
 ∃(kvs:List (Key×V)) (ps:List (Key×Value)),KV kvs ps/\RpM X.K kd O H kvs dk/\ps.length=us.length/\ps.map (·.1)=dk.map (·.1)/\kvs.length=ps.length/\
  ∀(j:Nat) (p:Key×Value),ps[j]? = some p->∃(q:Addr) (key:Value),us[j]? = some (Value.ref q)/\IsTup s.heap q #[key,p.2]/\(wu X.prog X.w).is p.1 key=true
 |_,_,[],_,b,r,e=>by
  cases b;cases r;cases e;exact⟨[],[],.nil,.nil,rfl,rfl,rfl,λj p h=>by simp at h⟩
 |_,_,d::i,dk,b,r,e=>by
  cases b with
  |cons l b=>
   rename_i v vs;cases r with
   |cons m r=>
    rename_i u us;obtain⟨l0,n,o⟩:=bS_<|e;obtain⟨⟨k,dv⟩,x,y⟩:=bS_ o;cases DO n;cases FH x
    . obtain⟨c,z,e⟩:=bS_ y;obtain⟨t,A,e⟩:=bS_ e;cases e;obtain⟨f,B,C,E,F,G,J,L⟩:=LW I b r A;cases l.vw with
      | tup M N a=>
            rename_i q ws;cases a with
            |cons P a=>
             cases a with
             |cons Q a=>
              cases a;rename_i R g;have S:=uF P.vw z;subst S;obtain⟨T,U,W,_⟩:=I.tuple N;obtain⟨Y,Z,rfl,r1,r2⟩:=vals2 U;cases m;refine⟨(c,g)::f,(c,Z)::B,.cons ⟨rfl,r2⟩ C,.cons Q E,congrArg (· + 1) F,congrArg (c :: ·) G,congrArg (· + 1) J,λj p h=>?_⟩;cases j with
              |zero=>
               simp at h;subst h;exact⟨q,Y,rfl,W,C5 r1⟩
              |succ j=>simpa using L j p (by simpa using h)
def Ru(hc:X.calm=true)(hk:KdOk X kd):XB X kd (.type "dict") Nb:=by
 intro c s σ H xs A Q I r h;obtain⟨O,ds,z,B,C,b,q⟩:=h;obtain⟨x,d,rfl,D,b⟩:=TY C b;cases D with
 |dct e E=>exact JH hk c s σ H _ A Q I r ⟨O,[.dct _],z,B,.cons (.dct e E) .nil,b,q⟩
 |lst e F=>
  obtain⟨dk,G,b⟩:=bS_<|b;obtain⟨J,b⟩:=zv b;cases b;obtain⟨u,rfl,K⟩:=vals1 r;cases K;obtain⟨L,m,⟨o,n,M,f,g,i⟩,hz⟩:=I.list e.sq;obtain⟨k,t,N,P,R,S,a5,T⟩:=LW I F m G;have v:=m.length;refine Nv (knd:=wu X.prog X.w) (ps:=t) (I.ok.hd hc) M f i g (by omega) (λj p U=>?_) (by rw[R];simp) λh' V y W=>?_
  . obtain⟨Y,l,Z,b2,b3⟩:=T j p U;exact⟨Y,l,by simpa using Z,b2,b3⟩
  . rw[NN t [] (by rw[List.nil_append,S];exact J),List.nil_append]at y;exact⟨.ref _,_,I.laid (t':=V) W (zzN _)<|Dx (by omega) (beq_eq_false_iff_ne.mpr<|Ne.symm<|zzQ I.big) N y,rfl,ue q P _<|I.hok.fresh<|zzN _⟩
 |_=>cases b
end
noncomputable def tU:List D->Option R0
 | [.int i,.int j]=>if 0<j/\j<1073741824 then some (.im<|.tup [.int<|i/j,.int<|i%j])else none
 |_=>none
def af{α:Type}{P:List α->Prop}(h:∀a,P [a]):∀us:List α,us.length=1->P us
 | [a],_=>h a
def bw{α:Type}{P:List α->Prop}(h:∀a b,P [a,b]):∀us:List α,us.length=2->P us
 | [a,b],_=>h a b
def bH{α:Type}{P:List α->Prop}(h:∀a b c,P [a,b,c]):∀us:List α,us.length=3->P us
 | [a,b,c],_=>h a b c
def b_{α:Type}{P:List α->Prop}(h:∀a b c d,P [a,b,c,d]):∀us:List α,us.length=4->P us
 | [a,b,c,d],_=>h a b c d
def bV{α:Type}{P:List α->Prop}(h:∀a b c d e,P [a,b,c,d,e]):∀us:List α,us.length=5->P us
 | [a,b,c,d,e],_=>h a b c d e
section
variable{X:Cx}{kd:KD}
def JU:XB X kd (.builtin "divmod") tU:=by
 intro a s σ H j c Q I r h;obtain⟨O,k,z,d,e,b,q⟩:=h;unfold tU at b
 split at b
 . obtain⟨f,rfl⟩:=zv b;obtain⟨x,y,rfl,g,i⟩:=C9 e;cases g;cases i;exact Ho a s σ H _ c Q I r ⟨_,_,rfl,f,Mh d q<|.cons (.int _)<|.cons (.int _) .nil⟩
 . cases b
def aI:AE X kd (.Constant (.int c) j pos) (fC<|.int c):=Lw nG λ_ _=>.int _
def aS:AE X kd (.Constant (.str c) j pos) (fC<|.str c):=Lw oV λ_ _=>.str _
def aZ:AE X kd (.Constant .none j pos) (fC .non):=Lw lZ λ_ _=>.non
def aB:AE X kd (.Constant (.bool c) j pos) (fC<|.bl c):=Lw iA λ_ _=>.bl _
def ax{K}(hkd:u6 P w K kd)(ha:AE X kd a fa)(hb:AE X kd b fb)(h1:X.prog=P:=by rfl)(h2:X.w=w:=by rfl)(h3:X.K=K:=by rfl)(hm:FY b:=by exact λ_ _=>rfl):AE X kd (.Subscript a b pos) (f2 fa fb zx):=gx (dA<|hkd _ h1 h2 h3) ha hb hm
def sv(z)(i:Nat)(hN:X.N.Nodup)(he:AE X kd e fa)(hi:X.N[i]? = some x:=by rfl)(hx:Loc X.env.scope x:=by first|exact Or.inl rfl|exact Or.inr rfl)(hs:swapsWith e (some<|.Name x pos') pos.line X.env=pure false:=by rfl)(hf:X.fn x=true\/X.env.scope.names.lookup x=some .local:=by first|exact Or.inl rfl|exact Or.inr rfl):
 HK X kd (.Assign [.Name x pos'] e pos) (zr z i fa):=Ag hN hi hx he hs hf
def an(i:Nat)(hN:X.N.Nodup)(hi:X.N[i]? = some x:=by rfl)(hx:Loc X.env.scope x:=by first|exact Or.inl rfl|exact Or.inr rfl)(hf:X.fn x=true\/X.env.scope.names.lookup x=some .local:=by first|exact Or.inl rfl|exact Or.inr rfl):AG X kd (.Name x pos) [i] (gN i):=Ie hN hi hx hf
def av(i:Nat)(hN:X.N[i]? = some x:=by rfl)(hv:fH X.env.scope x:=by first|exact Or.inl rfl|exact Or.inr (Or.inl rfl)|exact Or.inr (Or.inr rfl))(hd:(x==("__debug__":Str))=false:=by decide)
 (hcd:(x==("__classdict__":Str))=false:=by decide):AE X kd (.Name x pos) (fV i):=n_<|AV hN hv hd hcd
end
noncomputable def HJ{α:Type}:List Str->List α->Str->Option α
 | [],_,_=>none
 |_,[],_=>none
 |n::ns,a::as,f=>if f=n then some a else HJ ns as f
theorem YO(f):∀(ns:List Str) (vs:List V),(ns.zip vs).lookup f=HJ ns vs f
 | [],_=>rfl
 |_::_,[]=>rfl
 |n::a,v::b=>by
  show List.lookup f (_::a.zip b)=if f=n then some v else HJ a b f
  rw[List.lookup_cons]
  by_cases h:f=n
  . rw[if_pos h,beq_iff_eq.mpr h]
  . rw[if_neg h,beq_eq_false_iff_ne.mpr h];exact YO f a b
theorem uI{K O}:∀{ns:List Str}{vs:List V}{ds:List D},RpL K kd O H vs ds->HJ ns ds f=some d->∃v,HJ ns vs f=some v/\Rp K kd O H v d
 | [],_,_,_,e=>by cases e
 |_::_,_,_,.nil,e=>by cases e
 |n::a,_,_,.cons (v:=v) (d:=b) (vs:=c) (ds:=g) h r,e=>by
  have e:(if f=n then some b else HJ a g f)=some d:=e;show ∃w,(if f=n then some v else HJ a c f)=some w/\_
  by_cases q:f=n
  . rw[if_pos q]at e ⊢;cases e;exact⟨v,rfl,h⟩
  . rw[if_neg q]at e ⊢;exact uI r e
theorem Pk:∀{ns:List Str}{vs:List α},f ∉ ns->HJ ns vs f=none
 | [],_,_=>rfl
 |_::_,[],_=>rfl
 |n::a,v::b,h=>by
  show(if f=n then some v else HJ a b f)=_;rw[if_neg λe=>h<|by rw[e];exact zzF];exact Pk λm=>h<|zzD _ m
theorem L1:∀{ns:List Str}{vs:List V},ns.length=vs.length->f ∉ ns->QG f v (ns.zip vs)=(ns++[f]).zip (vs++[v])
 | [],[],_,_=>rfl
 | [],_::_,h,_=>by cases h
 |_::_,[],h,_=>by cases h
 |n::a,w::b,h,c=>by
  show(if n=f then _::a.zip b else _::QG f v (a.zip b))=_::(a++[f]).zip (b++[v]);rw[if_neg λe=>c (by rw[e];exact zzF),L1 (Nat.succ.inj h) λm=>c<|zzD _ m]
def zP(cs:List Str)(f:Str):D->Option R0
 | .ob c ns ds=>if c ∈ cs then(HJ ns ds f).bind λd=>some (.im d)else none
 |_=>none
def CF(K:zzA)(kd:KD)(cs:List Str)(f:Str):Prop:=∀c ∈ cs,Cls K (kd.c c)/\yN K (kd.c c) f
section
variable{X:Cx}{kd:KD}{a e o:Expr}{es:List Expr}{fa fo fe:EF}{fr:AF}{pos pos' apos:Pos}{m f:Str}{cs:List Str}
def n3(hc:CF X.K kd cs f)(ha:AE X kd a fa)(hb:attributeBase a f X.env (eval a X.env)=eval a X.env):AE X kd (.Attribute a f pos) (f1 fa<|zP cs f):=by
 with_unfolding_all exact(yn (Ft ha hb) λσ H Q h=>by
  obtain⟨F,B,P,as,r,m,R,e,q⟩:=h;obtain⟨⟨p,n⟩,o,e⟩:=bS_<|e;obtain⟨⟨x,S⟩,s,e⟩:=bS_ e;obtain⟨z,b,e⟩:=bS_ e;obtain⟨y,t,e⟩:=bS_ e;cases e;refine vU R o λv c u k g A=>?_;have C:=xl.vw k g s;have D:=YE k t λw E G I i J=>q w E c G I i<|A.trans J;cases C with
  |ob L T M=>
   obtain⟨l,b⟩:=ite_some' b;obtain⟨d,N,b⟩:=bS_ b;cases b;obtain⟨w,O,j⟩:=uI M N;exact⟨_,_,_,_,w,rfl,L,(hc _ l).1,(hc _ l).2,(YO _ _ _).trans O,D w u (λ_ _ z=>z) j⟩
  |_=>cases b)
def J7(X:Cx)(m:Str)(ta:TE)(t:TA):TE:=λσ H Q=>ta σ H λx H1=>∃a C dx fs k f fd ps sp,x = .ref a/\H1 a=some (.ins C dx fs)/\Cls X.K C/\Meth X.K C m f/\fs.lookup m=none/\
 FnOk X.prog X.w X.K X.mg X.base wV k f fd ps sp/\Room k X.A/\Binds X.K fd ps []/\t σ H1 λvs H2=>sp (x::vs) H2 Q λ_ _ _=>False
def Ol(he:PE X o ta)(hx:vq wV X λ_ _ _=>False)(ha:PA X (e::es) t)
 (hst:starEach (e::es) X.env=(false,eval e X.env)::starEach es X.env) (hpl:(backTo pos<|starEach es X.env).any (·.1)=false)
 (ht:eval (.Call (.Attribute o m apos) (e::es) [] pos) X.env=(do
  let ov <-eval o X.env
  standAt apos.atName
  let(f,first) <-holding [ov] (getMethod ov m pl)
  callWith pos f first (backTo pos<|starEach (e::es) X.env) (backToKw pos<|keywordEach [] X.env))):
 PE X (.Call (.Attribute o m apos) (e::es) [] pos) (J7 X m ta t):=by
 intro b s σ H Q I h;refine W.methodCall_KW (wo (he b s σ H _ I h) λu j h=>?_) ht;obtain⟨x,n,d,p,a,C,E,G,k,f,fd,J,K,v,w,c,g,l,F,y,z,q⟩:=h;subst v;obtain rfl:u=Value.ref a:=p;refine Ma d w c g l ?_;refine W.callWith_K I.ok.mod.kin g.kp (wo (ha pos b j σ n _ d q) λA L ⟨B,M,i,r,D⟩=>⟨i.kIn, ?_⟩) hst hpl;refine OP (vs:=.ref a::B) F y z .nil hx i (.cons rfl r) ?_;rw[zyE];exact D
def qc(he:PE X o ta)(hx:vq wV X λ_ _ _=>False)
 (ht:eval (.Call (.Attribute o m apos) [] [] pos) X.env=(do
  let ov <-eval o X.env
  standAt apos.atName
  let(f,first) <-holding [ov] (getMethod ov m pl)
  callWith pos f first (backTo pos<|starEach [] X.env) (backToKw pos<|keywordEach [] X.env))):
 PE X (.Call (.Attribute o m apos) [] [] pos) (J7 X m ta oJ):=by
 intro b s σ H Q I h;refine W.methodCall_KW (wo (he b s σ H _ I h) λu r h=>?_) ht;obtain⟨x,t,d,g,a,C,v,w,k,f,fd,y,z,i,j,c,e,l,F,n,p,q⟩:=h;subst i;obtain rfl:u=Value.ref a:=g;refine Ma d j c e l ?_;exact W.callWith_K0 d.kIn e.kp<|OP (vs:=[.ref a]) F n p .nil hx d (.cons rfl .nil) q
end
def HL:List (Str×Fn)->Str->Option Fn
 | [],_=>none
 |p::r,c=>if c=p.1 then some p.2 else HL r c
def MT(P:Program)(w:World)(K:zzA)(mg:Str->Option Value)(base:Heap)(kd:KD)(m:Str)(k:Nat)(tbl:List (Str×Fn)):Prop:=
 ∀c g,HL tbl c=some g->∃k' f fd ps,k'<=k/\Cls K (kd.c c)/\Meth K (kd.c c) m f/\FnOk P w K mg base wV k' f fd ps (RD K kd g)/\Binds K fd ps []
section
variable{P:Program}{w:World}{K:zzA}{mg:Str->Option Value}{base:Heap}{kd:KD}{m:Str}{k:Nat}{tbl:List (Str×Fn)}
def vp:MT P w K mg base kd m k []:=λc g h=>by cases h
def tD(hk:k'<=k)(cl:Cls K (kd.c c))(me:Meth K (kd.c c) m f)(F:FnOk P w K mg base wV k' f fd ps (RD K kd g))(b:Binds K fd ps [])(h:MT P w K mg base kd m k tbl):MT P w K mg base kd m k ((c,g)::tbl):=λc' g' e=>by
 have e:(if c'=c then some g else HL tbl c')=some g':=e
 by_cases q:c'=c
 . rw[if_pos q]at e;cases e;subst q;exact⟨k',f,fd,ps,hk,cl,me,F,b⟩
 . rw[if_neg q]at e;exact h c' g' e
end
noncomputable def cQ(m:Str):D->Option Str
 | .ob c ns _=>if m ∈ ns then none else some c
 |_=>none
def xM(tbl:List (Str×Fn))(m:Str)(fo:EF)(fr:AF):EF:=λas=>(fo as).bind λp=>(p.1.frz.view p.2).bind λw=>(cQ m w.1).bind λc=>(HL tbl c).bind λg=>(fr p.2).bind λq=>(XW q.2 (p.1.frz::q.1)).bind λx=>(g x).bind λo=>some (.ow o,q.2)
section
variable{X:Cx}{kd:KD}{a e o:Expr}{es:List Expr}{fa fo fe:EF}{fr:AF}{pos pos' apos:Pos}{m f:Str}{cs:List Str}{tbl:List (Str×Fn)}{k:Nat}
def p8(hT:MT X.prog X.w X.K X.mg X.base kd m k tbl)(hr:Room k X.A)(ht:∀σ H Q,pR X.K kd fr σ H Q->t σ H Q)(h:al X.K kd (xM tbl m fo fr) σ H Q):J7 X m (al X.K kd fo) t σ H Q:=by
 obtain⟨F,B,ad,as,r,E,R,e,q⟩:=h;obtain⟨⟨p,i⟩,G,e⟩:=bS_<|e;obtain⟨⟨w,lv⟩,I,e⟩:=bS_ e;obtain⟨c,a,e⟩:=bS_ e;obtain⟨g,J,e⟩:=bS_ e;obtain⟨⟨L,j⟩,M,e⟩:=bS_ e;obtain⟨N,O,e⟩:=bS_ e;obtain⟨o,P,e⟩:=bS_ e;cases e;refine vU R G λv l H1 z d S=>?_;have T:=xl.vw z d I;cases T with
 | @ob a' dx U C V W Y hl rl=>
  have a:(if m ∈ C then none else some U)=some c:=a
  by_cases n:m ∈ C
  . rw[if_pos n]at a;cases a
  . rw[if_neg n]at a;cases a;obtain⟨Z,f,fd,ps,s,cl,me,F1,b⟩:=hT _ _ J;refine⟨_,_,_,_,Z,f,fd,ps,_,rfl,Y,cl,me,(YO _ _ _).trans<|Pk n,F1,hr.mono s,b,ht _ _ _ ⟨F,B,l,i,L,j,z,M,λvs u H2 R2 x D=>?_⟩⟩;exact⟨_,N,o,R2.trk true,K5 R2 (.cons (d.grow D) x) O,P,Od R2 λw T' H' R' y g'=>q w T' u H' R' y<|(S.trans D).trans g'⟩
 |_=>cases a
def lH(hT:MT X.prog X.w X.K X.mg X.base kd m k tbl)(hr:Room k X.A)(hx:vq wV X λ_ _ _=>False)(ho:AE X kd o fo)(ha:AA X kd (e::es) fr)
 (hst:starEach (e::es) X.env=(false,eval e X.env)::starEach es X.env) (hpl:(backTo pos<|starEach es X.env).any (·.1)=false)
 (ht:eval (.Call (.Attribute o m apos) (e::es) [] pos) X.env=(do
  let ov <-eval o X.env
  standAt apos.atName
  let(f,first) <-holding [ov] (getMethod ov m pl)
  callWith pos f first (backTo pos<|starEach (e::es) X.env) (backToKw pos<|keywordEach [] X.env))):
 AE X kd (.Call (.Attribute o m apos) (e::es) [] pos) (xM tbl m fo fr):=by
 with_unfolding_all exact(yn (Ol ho hx ha hst hpl ht) λσ H Q h=>p8 hT hr (λ_ _ _ z=>z) h)
def sU(hT:MT X.prog X.w X.K X.mg X.base kd m k tbl)(hr:Room k X.A)(hx:vq wV X λ_ _ _=>False)(ho:AE X kd o fo)
 (ht:eval (.Call (.Attribute o m apos) [] [] pos) X.env=(do
  let ov <-eval o X.env
  standAt apos.atName
  let(f,first) <-holding [ov] (getMethod ov m pl)
  callWith pos f first (backTo pos<|starEach [] X.env) (backToKw pos<|keywordEach [] X.env))):
 AE X kd (.Call (.Attribute o m apos) [] [] pos) (xM tbl m fo aN):=by
 with_unfolding_all exact(yn (qc ho hx ht) λσ H Q h=>p8 hT hr (λσ H Q z=>by
  obtain⟨F,B,a,as,c,b,R,e,q⟩:=z;cases e;exact q [] a H R .nil Grow.refl) h)
end
abbrev J1:=AS->Option AS
def bf(K:zzA)(kd:KD)(f:J1):TS:=λD σ H=>∃F B ad as as',Rel K kd F B [] ad as σ H/\f as=some as'/\∀ad' H',Rel K kd F B [] ad' as' σ H'->Grow (Gw [] ad) H (Gw [] ad') H'->D.nx σ H'
@[irreducible] def fA(X:Cx)(kd:KD)(st:List Stmt)(f:J1):Prop:=FI X st<|bf X.K kd f
@[irreducible] def kx(X:Cx)(kd:KD)(st:Stmt)(f:J1):Prop:=PS X st<|bf X.K kd f
def VV(i:Nat)(cs:List Str)(f:Str)(fe:EF):J1:=λas=>(fe as).bind λp=>(Rr p.2 p.1).bind λx=>match x.2[i]? with
 |some (some (.nd (.ob c ns) os))=>if c ∈ cs/\f ∉ ns/\ns.length<1000 then some (x.2.set i<|some<|.nd (.ob c<|ns++[f])<|os++[.lf x.1.1 x.1.2])else none
 |_=>none
def rE(fe:EF):J1:=λas=>(fe as).bind λp=>some p.2
def ZW(f g:J1):J1:=λas=>(f as).bind g
section
variable{X:Cx}{kd:KD}{e o:Expr}{st:Stmt}{rest:List Stmt}{fe:EF}{f g:J1}{pos pos':Pos}{cs:List Str}{n:Str}
def ri(he:AE X kd e fe)(hs:swapsWith e none pos.line X.env=pure false):kx X kd (.Expr e pos) (rE fe):=by
 with_unfolding_all exact(x6 (P2 he hs) λD σ H h=>by
  obtain⟨F,B,c,as,o,R,e,q⟩:=h;obtain⟨⟨p,a⟩,d,e⟩:=bS_<|e;cases e;exact⟨F,B,c,as,p,a,R,d,λv j b f i k g=>q b f i.drop<|g.trans<|Grow.less Gw.drop⟩)
def xr(hc:CF X.K kd cs n)(ho:PE X o (Ry j))(he:AE X kd e fe)(hs:swapsWith e (some<|.Attribute o n pos') pos.line X.env=pure false):kx X kd (.Assign [.Attribute o n pos'] e pos) (VV j cs n fe):=by
 with_unfolding_all exact(x6 (D6 ho he hs) λD σ H h=>by
  obtain⟨F,B,P,as,o,R,e,q⟩:=h;obtain⟨⟨p,t⟩,Q,e⟩:=bS_<|e;obtain⟨⟨⟨A,d⟩,w⟩,S,e⟩:=bS_ e;cases f:w[j]? with
  |none=>rw[f]at e;cases e
  |some T=>
   rw[f]at e
   match T,e,f with
   |some (.nd (.ob c E) G),e,f=>
    obtain⟨⟨I,U,V⟩,e⟩:=zv e;cases e;refine⟨F,B,P,as,p,t,R,Q,λv T1 W J Y x Z=>?_⟩;obtain⟨b,R2,rp,le⟩:=Q1 Y x S;obtain⟨v0,g,i⟩:=R2.sl j _ f;refine⟨v0,g, ?_⟩;generalize k:b j=fp1 at i;cases i with
    |ob hC L s rl=>
     rename_i l M C O fp;have ec:=hC.cl_eq;subst ec;have r:=R2.nd j;rw[k]at r;have y : Za X.K kd F B (Gw [] b) J (O++[v]) (G++[.lf A d]) fp:=by
            have:=rl.append<|RoL.one<|Ro.lf rp;rw[zyE]at this;exact this
     refine⟨l,_,M,_,rfl,L,(hc _ I).1,(hc _ I).2,by rw[List.length_zip,s,Nat.min_self,<-s];exact V, ?_⟩;rw[L1 s U];obtain ⟨R4,g4⟩:=R2.mut (n:=.nd (.ob c<|E++[n]) _) (zzG.mp f).1 k g (fp':=fp) (λa m=>by
            rw[zyE]at m ⊢;exact m) (by rw[zyE];exact(zzW.mp r).2) (by rw[L];simp) λH' G' z gr kp=>.ob (.cl c) z (by rw[zzJ,zzJ,s];rfl)<|Za.grow gr kp y
     exact q _ _ R4<|(Z.trans<|Grow.less le).trans g4)
def Fu(h:kx X kd st f):fA X kd [st] f:=by
 with_unfolding_all exact(PV h)
def yW(h1:kx X kd st f)(h2:fA X kd rest g):fA X kd (st::rest) (ZW f g):=by
 with_unfolding_all exact(Xp (Wi h1 h2) λD σ H h=>by
  obtain⟨F,B,d,as,o,R,e,q⟩:=h;obtain⟨c,i,e⟩:=bS_<|e;exact⟨F,B,d,as,c,R,i,λa n j k=>⟨F,B,a,c,o,j,e,λb l R2 m=>q b l R2<|k.trans m⟩⟩)
end
def ku(c:Str):O:=.nd (.ob c []) []
def uZ(x:Bool×D):O:=.lf x.1 x.2
noncomputable def slot0:AS->Option O
 |some o::_=>if o.str=true then some o else none
 |_=>none
def nu(c:Str)(n m:Nat)(f:J1)(ds:List (Bool×D)):Option O:=if ds.length+1=m then(f<|YM n (ku c::ds.map uZ)).bind slot0 else none
def ll(K:zzA)(kd:KD)(c:Str)(g:Fn):Sp:=λvs H Q _=>∃F x dx vs' ds o,vs = .ref x::vs'/\H x=some (.ins (kd.c c) dx [])/\(∀a,F a->H a≠none)/\¬F x/\RpI K kd F (λ_=>False) (· = x) H vs' ds/\g ds=some o/\
 ∀T H',T.Nodup->(∀a ∈ T,a=x\/H a=none)->(∀b u,H b=some u->b≠x->H' b=some u)->(∀a ∈ T,H' a≠none)->Ro (λ_ v d=>Rp K kd (QL F (· ∈ T)) H' v d) (λa=>¬QL F (· ∈ T) a) H' (.ref x) o T->Q .non H'
def AQ{K}(h:RpI K kd F B G H vs ds):Za K kd F B G H vs (ds.map uZ) []:=by
 induction h with
 |nil=>exact .nil
 |cons a _ b=>exact RoL.cons (Ro.lf a) b
def Ii(ds:List (Bool×D)):(ds.map uZ).all O.isLf=true:=by
 induction ds with
 |nil=>rfl
 |cons x r a=>exact a
section
variable{P:Program}{w:World}{K:zzA}{mg:Str->Option Value}{base:Heap}
def Oa{st}{k:Nat}(Fn:Fun K x qual st f fd)(S:FnScope N ps (zd st))(hps:ps.length<=N.length)
 (hb:∀(cdv:Value) (A:Around) (outer:List Env) (s:Shared) (H:Hp) (E:XK),Room k (A.deeper<|envOfC qual (zd st) s.heap.objs.size f cdv)->fA (L5 wV P w K mg base N qual (zd st) f cdv A outer s H E).nox kd (ZL st) b):
 FnOk P w K mg base wV (k+1) f fd ps (ll K kd c<|nu c N.length ps.length b):=by
 with_unfolding_all (
 refine Fn.ok S (λvs H Q E h=>?_) λcdv A outer s H vs Q E hr h=>⟨_,hb cdv A outer s H E hr, ?_⟩
 . obtain⟨F,x,dx,vs',ds,o,rfl,_,_,_,rp,e,_⟩:=h;obtain⟨hl,_⟩:=ite_some'<|e;rw[zzT,rp.length,hl]
 . obtain⟨F,x,dx,vs',ds,o,rfl,hx,ht,hF,rp,e,q⟩:=h;obtain⟨hl,e⟩:=ite_some'<|e;obtain⟨as',e1,e2⟩:=bS_ e;have ro:Za K kd F (λ_=>False) (· ∈ [x]) H (V.ref x::vs') (ku c::ds.map uZ) [x]:=by
    have e0:(λa=>a ∈ [x])=(λa=>a=x):=by funext a;exact propext zzR
    rw[e0];exact RoL.cons (Ro.ob (.cl c) hx rfl .nil)<|AQ rp
   have R0:=Mc (N:=N) ht (by simp) (λa m=>by rw[zzR.mp m,hx];exact⟨by simp,hF⟩) (Ii ds) (by rw[zzT,zzB];exact q0U hl hps) ro;have gw:∀a,Gw [] (λi=>if i=0 then[x]else[]) a->a=x:=λa z=>z.elim (λy=>nomatch y) λ⟨i,y⟩=>by
    by_cases e:i=0
    . subst e;simpa using y
    . simp[e]at y
   refine⟨F,λ_=>False,_,_,as',R0,e1,λad' H' R' g'=>?_⟩
   match as',e2,R' with
   |some o'::r,e2,R'=>
    obtain⟨hs,e2⟩:=zv<|e2;subst e2;obtain⟨v,hv,ro'⟩:=R'.sl 0 _ rfl;have hv0:(L2.start N (V.ref x::vs'))[0]? = some _:=rfl;rw[hv0]at hv;cases hv;have rt:=Bk R' (R'.nd 0) (λa m=>.inr ⟨0,m⟩) ro' hs;exact q (ad' 0) H' rt.nd (λa m=>(g'.own a<|.inr ⟨0,m⟩).imp (gw a) id) (λb u h hb=>g'.keep b u h λz=>hb<|gw b z) rt.tr rt.ro)
end
section
variable{X:Cx}{kd:KD}{e:Expr}{es:List Expr}{fr:AF}{pos p:Pos}{g:Fn}
def mX(h:al X.K kd (zj fr g) σ H Q):pe (kd.c c) (ll X.K kd c g) [] E (pR X.K kd fr) σ H Q:=by
 obtain⟨F,B,G,as,r,I,R,e,q⟩:=h;obtain⟨⟨p,J⟩,L,e⟩:=bS_<|e;obtain⟨M,A,e⟩:=bS_ e;obtain⟨o,C,e⟩:=bS_ e;cases e;refine⟨F,B,G,as,p,_,R,L,λN d f n i O x j l s P=>?_⟩;rw[zyE];have k:∀b u,f b=some u->upd (upd f j<|.own x) x (.ins (kd.c c) j []) b=some u:=λb u h=>by rw[zG<|zZ h l,zG<|zZ h s];exact h
 have D:∀b,upd _ x _ b=none->f b=none:=λb h=>by
  cases e:f b with
  |none=>rfl
  |some u=>rw[k b u e]at h;cases h
 refine⟨Lv F B _ true,x,j,N,M,o,rfl,z_,λa z y=>n.trk true a z<|D a y,λz=>n.trk true x z l, ?_,C,λT t S U V Y Z=>⟨rfl, ?_⟩⟩
 . have ra:=K5 n i A;clear e C A i
   induction ra with
   |nil=>exact .nil
   |cons h _ ih=>
    refine .cons ?_ ih;exact Rp.grow (W:=λ_=>False) (W':=(· = x)) ⟨λb u h _=>k b u h,λb e=>.inr<|by rw[e];exact l⟩<|h.less λa z=>z.elim (λy=>y.elim id λy=>y.elim) λy=>y.elim
 . exact Od n (λw T' t R' v g'=>q w T' d t R' v<|O.trans g') (.ref x) T t S (λa m=>(U a m).elim (λe=>by rw[e];exact l)<|D a) (λb u h=>V b u (k b u h)<|zZ h l) Y Z
def tm(hC:kd.c c=C)(M:Mk X.K C f)(F:FnOk X.prog X.w X.K X.mg X.base wV k f fdt ps (ll X.K kd c g))(hr:Room (k+1) X.A)(hg:Gl X x)(hm:X.mg x=some (.ref C))(hb:Binds X.K fdt ps [])(hx:vq wV X λ_ _ _=>False)
 (ha:AA X kd (e::es) fr) (hdb:(x==("__debug__":Str))=false) (he:starEach (e::es) X.env=(false,eval e X.env)::starEach es X.env) (hpl:(backTo pos<|starEach es X.env).any (·.1)=false):
 AE X kd (.Call (.Name x p) (e::es) [] pos) (zj fr g):=by
 subst hC
 with_unfolding_all exact(yn (se M F hr hg hm hb .nil hx ha hdb he hpl) λσ H Q h=>mX h)
end
def tV(mg:Str->Option Value):Str->Addr:=λx=>match mg x with
 |some (.ref a)=>a
 |_=>0
def FV(h:mg x=some (.ref a)):tV mg x=a:=by
 unfold tV;rw[h]
structure CI(K:zzA)(kd:KD)(mg:Str->Option Value)(c:Str)(C:Addr):Prop where
 eq:kd.c c=C
 cl:Cls K C
 mks:W.makesIn K C=true
 kp:W.keepIn K (.ref C)=true
 mg:mg c=some (.ref C)
section
variable{P:Program}{w:World}{K:zzA}{mg:Str->Option Value}{base:Heap}{kd:KD}{m f:Str}{k:Nat}{tbl:List (Str×Fn)}{cs:List Str}{c:Str}{C:Addr}
def vA{k':Nat}{f}(ci:CI K kd mg c C)(me:Meth K C m f)(F:FnOk P w K mg base wV k' f fd ps (RD K kd g))(hk:k'<=k)(b:Binds K fd ps [])(h:MT P w K mg base kd m k tbl):MT P w K mg base kd m k ((c,g)::tbl):=by
 have e:=ci.eq;subst e;exact tD hk ci.cl me F b h
def vB:CF K kd [] f:=λc h=>nomatch h
def wQ(ci:CI K kd mg c C)(n:yN K C f)(h:CF K kd cs f):CF K kd (c::cs) f:=λb a=>by
 have e:=ci.eq;subst e
 rcases zzC.mp a with rfl|a
 . exact⟨ci.cl,n⟩
 . exact h b a
def CI.mk'{f}(ci:CI K kd mg c C)(me:Meth K C "__init__" f):Mk K C f:=⟨ci.mks,me.at_,me.fn,ci.kp⟩
end
def RR{prog w A E s it l}{i:Nat}{items x Q}(hit:s.heap.IsTupleIter it l i)(hl:s.heap.IsTuple l items)(hx:items[i]? = some x)
 (h:∀h':Heap,h'.IsTupleIter it l (i+1)->Heap.SameBut it s.heap h'->Q x {s with heap:=h'}):wpAny (model prog w) A (Builtin.SmallTypes.nextOf<|.ref it) Q E s:=by
 obtain⟨o,ho,hc,hd⟩:=id hit;obtain⟨ol,hol,hcl,nl,hdl⟩:=hl;refine zxF<|wpAny_callSpecial?_slot hit.typeIs F.slot_tuple_iterator_next<|zxN F.slot_tuple_iterator_next hit.typeIs F.entry_tuple_iterator_next ?_;unfold Builtin.«tuple_iterator.__next__»
 wp_walk using wpAny_field ho hd rfl,wpAny_seqItems hol hdl
 rw[hdl]
 wp_walk
 rw[zyI,hx];refine zxF<|wpAny_setField ho hd (by simp) ?_;refine zxG ⟨x,rfl,zxG<|h _ ⟨_,Heap.get?_update_self _ ho<|Obj.isFreed_of_fields<|Obj.data_mapFields hd _,(Obj.cls_mapFields o _).trans hc,(Obj.data_mapFields hd _).trans<|by simp[rawInt]⟩<|Heap.SameBut.update _ _ _⟩
def T8{prog w A E s it l}{i:Nat}{items Q}(hh:A.handled=none)(hit:s.heap.IsTupleIter it l i)(hl:s.heap.IsTuple l items)(hx:items[i]? = none)
 (h:∀(h':Heap) (e:Addr),Heap.ExtBut it s.heap h'->(∃o,h'.get? e=some o/\o.cls = .type "StopIteration")->E (.ref e) {s with heap:=h'}):wpAny (model prog w) A (Builtin.SmallTypes.nextOf<|.ref it) Q E s:=by
 obtain⟨o,ho,hc,hd⟩:=id hit;obtain⟨ol,hol,hcl,nl,hdl⟩:=hl;refine zxF<|wpAny_callSpecial?_slot hit.typeIs F.slot_tuple_iterator_next<|zxN F.slot_tuple_iterator_next hit.typeIs F.entry_tuple_iterator_next ?_;unfold Builtin.«tuple_iterator.__next__»
 wp_walk using wpAny_field ho hd rfl,wpAny_seqItems hol hdl
 rw[hdl]
 wp_walk
 rw[zyI,hx];refine zxF (wpAny_rule<|zxF<|wpAny_setField ho hd (by simp) ?_)
 wp_walk
 refine wpAny_raiseNew_none hh<|h _ _ (((Heap.SameBut.update _ _ _).extBut.push _).push _) ⟨_,zxJ _ rfl,rfl⟩
def VN(b:Bool)(h:Heap)(it l:Addr)(k:Nat):Prop:=if b=true then h.IsTupleIter it l k else h.IsListIter it l k
def Ld(b:Bool)(h:Heap)(l:Addr)(xs:Array Value):Prop:=if b=true then h.IsTuple l xs else h.IsList l xs
def vC{prog w A E s it l}{i:Nat}{items x Q}:∀{b:Bool},VN b s.heap it l i->Ld b s.heap l items->items[i]? = some x->
 (∀h':Heap,VN b h' it l (i+1)->Heap.SameBut it s.heap h'->Q x {s with heap:=h'})->wpAny (model prog w) A (Builtin.SmallTypes.nextOf<|.ref it) Q E s
 |true,h1,h2,h3,h4=>RR h1 h2 h3 h4
 |false,h1,h2,h3,h4=>wpAny_nextOf_list_item h1 h2 h3 h4
def Wx{prog w A E s it l}{i:Nat}{items Q}(hh:A.handled=none):∀{b:Bool},VN b s.heap it l i->Ld b s.heap l items->items[i]? = none->
 (∀(h':Heap) (e:Addr),Heap.ExtBut it s.heap h'->(∃o,h'.get? e=some o/\o.cls = .type "StopIteration")->E (.ref e) {s with heap:=h'})->wpAny (model prog w) A (Builtin.SmallTypes.nextOf<|.ref it) Q E s
 |true,h1,h2,h3,h4=>T8 hh h1 h2 h3 h4
 |false,h1,h2,h3,h4=>wpAny_nextOf_list_end hh h1 h2 h3 h4
def VN.ext{a h h' it l}{k:Nat}:∀{b:Bool},VN b h it l k->Heap.ExtBut a h h'->it≠a->VN b h' it l k
 |true,x,e,n=>Heap.IsTupleIter.extBut x e n
 |false,x,e,n=>Heap.IsListIter.extBut x e n
def Ld.ext{a h h' l xs}:∀{b:Bool},Ld b h l xs->Heap.ExtBut a h h'->l≠a->Ld b h' l xs
 |true,x,e,n=>Heap.IsTuple.extBut x e n
 |false,x,e,n=>Heap.IsList.extBut x e n
def VN.at{h h' it l}{k:Nat}(k':∀o,h.get? it=some o->h'.get? it=some o):∀{b:Bool},VN b h it l k->VN b h' it l k
 |true,⟨o,e,c⟩=>⟨o,k' o e,c⟩
 |false,⟨o,e,c⟩=>⟨o,k' o e,c⟩
theorem VN.push{h it l}{k:Nat}{o b}(x:VN b h it l k):VN b (h.push o) it l k:=x.at λ_ e=>zxH _ e
def M4{M A E s a Q}(h:Q (s.heap.get? a) s):wpAny M A (loadIfAlive a) Q E s:=λΓ p hΓ=>by
 unfold loadIfAlive;rw[Sem.wp_loadIfAlive];exact zxG h Γ p hΓ
def B4(h:Heap)(z TI TO:Addr)(f0:Value)(f1:Bool):Prop:=h.get? z=some {cls:=.type "zip",data:=.fields #[f0,.bool f1,.bool false,.ref TI,.ref TO]}
def Zf(f0:Value):Prop:=f0 = .none\/∃n:Int,f0=rawInt n
def CD{prog w A E s z TI TO f0 f1 Q}(hz:B4 s.heap z TI TO f0 f1)(hf:Zf f0)(h1:Q true s)(h2:∀h' f1',B4 h' z TI TO f0 f1'->Heap.SameBut z s.heap h'->Q false {s with heap:=h'}):
 wpAny (model prog w) A (Builtin.SmallTypes.ownedTupleIsFree<|.ref z) Q E s:=by
 rcases hf with rfl|⟨n,rfl⟩
 . exact zxF<|wpAny_field hz rfl rfl<|zxG h1
 . refine zxF<|wpAny_field hz rfl rfl ?_;refine zxF<|M4 ?_;cases e:s.heap.get? n.toNat with
   |none=>exact zxG h1
   |some o=>
    rw[if_neg<|by simp];refine zxF<|wpAny_field hz rfl rfl ?_;cases f1 with
    |true=>exact zxG (h2 s.heap true hz<|Heap.SameBut.refl _ _)
    |false=>exact zxF (wpAny_setField_rec hz (by simp) λh' hz' hs=>zxG<|h2 h' true hz' hs)
def AR{b1 b2 prog w A E s z TI TO i1 i2 l1 l2}{k1 k2:Nat}{xs ys}{x y a b f0:Value}{f1:Bool}{Q:Value->Shared->Prop}(D:ZipApart z TI TO i1 i2 l1 l2)
 (hz:B4 s.heap z TI TO f0 f1) (hf:Zf f0) (hTI:IsPair s.heap TI (.ref i1) (.ref i2)) (hTO:IsPair s.heap TO a b) (h1:VN b1 s.heap i1 l1 k1) (h2:VN b2 s.heap i2 l2 k2) (q1:Ld b1 s.heap l1 xs) (q2:Ld b2 s.heap l2 ys) (hx:xs[k1]? = some x) (hy:ys[k2]? = some y)
 (h:∀(h':Heap) (g0:Value) (g1:Bool),B4 h' z TI TO g0 g1->Zf g0->(∃p q,IsPair h' TO p q)->VN b1 h' i1 l1 (k1+1)->VN b2 h' i2 l2 (k2+1)->IsPair h' s.heap.objs.size x y->(∀c o,c≠z->c≠TO->c≠i1->c≠i2->s.heap.get? c=some o->h'.get? c=some o)->Q (.ref s.heap.objs.size) {s with heap:=h'}):
 wpAny (model prog w) A (Builtin.«zip.__next__» {pos:=[.ref z]}) (λfin s'=>∃v,fin=Fin.done (Flow.ret v)/\Q v s') E s:=by
 change wpAny (model prog w) A (bind (field (.ref z) 2) _) _ E s;refine zxF<|wpAny_field hz rfl rfl ?_;refine zxF<|wpAny_field hz rfl rfl<|zxF<|wpAny_seqItems hTI rfl ?_;refine zxF<|CD hz hf ?_ λh₁ g1 z1 hs₁=>?_
 . rw[if_pos rfl];refine zxF<|wpAny_rule<|zxF<|wpAny_field hz rfl rfl ?_;refine zxF<|wpAny_setField_rec hz (by simp) λh₁ hz₁ hs₁=>?_;refine zxF ?_;rw[show(#[Value.ref i1,Value.ref i2].toList.zipIdx)=[(Value.ref i1,0),(Value.ref i2,1)]from rfl,List.forIn_cons];have x1:=h1.ext hs₁.extBut D.i1z;have y1:=q1.ext hs₁.extBut D.l1z;refine zxF<|zxF<|wpAny_onRaise ?_;refine zxF<|vC x1 y1 hx λh₂ x2 hs₂=>zxG ?_;have t2:IsPair h₂ TO a b:=hs₂.extBut TO _ D.TOi1<|hs₁.extBut TO _ D.TOz hTO;refine zxF<|wpAny_seqItems t2 rfl<|zxF<|wpAny_updateSeq_pair t2 λh₃ t3 hs₃=>?_;refine zxF<|wpAny_letGo<|zxG ?_;have x3:=((h2.ext hs₁.extBut D.i2z).ext hs₂.extBut D.i12.symm).ext hs₃.extBut D.TOi2.symm;have y3:=((q2.ext hs₁.extBut D.l2z).ext hs₂.extBut D.l2i1).ext hs₃.extBut D.l2TO;change wpAny (model prog w) A (forIn [(Value.ref i2,1)] _ _) _ E _;rw[List.forIn_cons];refine zxF<|zxF<|wpAny_onRaise ?_;refine zxF<|vC x3 y3 hy λh₄ x4 hs₄=>zxG ?_;have t4:IsPair h₄ TO x b:=hs₄.extBut TO _ D.TOi2 t3;refine zxF<|wpAny_seqItems t4 rfl<|zxF<|wpAny_updateSeq_pair t4 λh₅ t5 hs₅=>?_;refine zxF<|wpAny_letGo<|zxG ?_;change wpAny (model prog w) A (forIn [] _ _) _ E _;rw[List.forIn_nil];refine zxG ?_;have t5:IsPair h₅ TO x y:=t5;refine zxF<|wpAny_seqItems t5 rfl<|zxF<|wpAny_newTuple ?_;have e5:h₅.objs.size=s.heap.objs.size:=hs₅.1.trans<|hs₄.1.trans<|hs₃.1.trans<|hs₂.1.trans hs₁.1;have z1:B4 h₁ z TI TO .ellipsis f1:=hz₁;have z5:B4 h₅ z TI TO .ellipsis f1:=hs₅.extBut z _ D.TOz.symm<|hs₄.extBut z _ D.i2z.symm<|hs₃.extBut z _ D.TOz.symm<|hs₂.extBut z _ D.i1z.symm z1;refine zxF ?_;refine zxF<|wpAny_setField_rec (zxH _ z5) (by simp) λh₇ z7 hs₇=>?_;refine wpAny_setField_rec z7 (by simp) λh₆ z6 hs₆'=>zxG ⟨_,rfl, ?_⟩;have hs₆:=hs₇.trans hs₆';have lt:=λc o q n=>hs₆.extBut c o n<|zxH _ q;have nz:h₅.objs.size≠z:=λe=>by
    have:=zxI z5;rw[<-e]at this;exact Nat.lt_irrefl _ this
   rw[e5];refine h h₆ (rawInt (h₅.objs.size:Int)) false z6 (.inr ⟨_,rfl⟩) ⟨_,_,lt TO _ t5 D.TOz⟩ ?_ ?_ ?_ λc o c1 c2 c3 c4 q=>?_
   . have:=((x2.ext hs₃.extBut D.TOi1.symm).ext hs₄.extBut D.i12).ext hs₅.extBut D.TOi1.symm;exact(VN.push this).ext hs₆.extBut D.i1z
   . exact(VN.push<|x4.ext hs₅.extBut D.TOi2.symm).ext hs₆.extBut D.i2z
   . rw[<-e5];exact hs₆.extBut _ _ nz<|zxJ _ rfl
   . exact lt c o (hs₅.extBut c o c2<|hs₄.extBut c o c4<|hs₃.extBut c o c2<|hs₂.extBut c o c3<|hs₁.extBut c o c1 q) c1
 . rw[if_neg<|by simp];change wpAny (model prog w) A (bind (forIn #[Value.ref i1,Value.ref i2] _ _) _) _ E _;rw[<-Array.forIn_toList,show #[Value.ref i1,Value.ref i2].toList=[Value.ref i1,Value.ref i2]from rfl,List.forIn_cons];have x1:=h1.ext hs₁.extBut D.i1z;have y1:=q1.ext hs₁.extBut D.l1z;refine zxF<|zxF<|zxF<|zxK ?_;refine zxF<|vC x1 y1 hx λh₂ x2 hs₂=>zxG<|zxG ?_;change wpAny (model prog w) A (forIn [Value.ref i2] _ _) _ E _;rw[List.forIn_cons];have x3:=(h2.ext hs₁.extBut D.i2z).ext hs₂.extBut D.i12.symm;have y3:=(q2.ext hs₁.extBut D.l2z).ext hs₂.extBut D.l2i1;refine zxF<|zxF<|zxK ?_;refine zxF<|vC x3 y3 hy λh₄ x4 hs₄=>zxG<|zxG ?_;change wpAny (model prog w) A (forIn [] _ _) _ E _;rw[List.forIn_nil];refine zxG<|zxF<|wpAny_newTuple ?_ (show 2<=sizeLine by decide);refine zxG ⟨_,rfl, ?_⟩;have e4:h₄.objs.size=s.heap.objs.size:=hs₄.1.trans<|hs₂.1.trans hs₁.1;have z4:B4 h₄ z TI TO f0 g1:=hs₄.extBut z _ D.i2z.symm<|hs₂.extBut z _ D.i1z.symm z1;have t4:IsPair h₄ TO a b:=hs₄.extBut TO _ D.TOi2<|hs₂.extBut TO _ D.TOi1<|hs₁.extBut TO _ D.TOz hTO;rw[e4];refine h _ f0 g1 (zxH _ z4) hf ⟨_,_,zxH _ t4⟩ (VN.push<|x2.ext hs₄.extBut D.i12) (VN.push x4) ?_ λc o c1 c2 c3 c4 q=>zxH _<|hs₄.extBut c o c4<|hs₂.extBut c o c3<|hs₁.extBut c o c1 q;rw[<-e4];exact zxJ _ rfl
def tH{b1 b2 prog w A E s z TI TO i1 i2 l1 l2}{k1 k2:Nat}{xs ys a b f0 f1 Q}(hh:A.handled=none)(D:ZipApart z TI TO i1 i2 l1 l2)
 (hz:B4 s.heap z TI TO f0 f1) (hf:Zf f0) (hTI:IsPair s.heap TI (.ref i1) (.ref i2)) (hTO:IsPair s.heap TO a b) (h1:VN b1 s.heap i1 l1 k1) (h2:VN b2 s.heap i2 l2 k2) (q1:Ld b1 s.heap l1 xs) (q2:Ld b2 s.heap l2 ys) (hx:xs[k1]? = none\/ys[k2]? = none)
 (h:∀(h':Heap) (e:Addr),(∀c o,c≠z->c≠TO->c≠i1->c≠i2->s.heap.get? c=some o->h'.get? c=some o)->(∃o,h'.get? e=some o/\o.cls = .type "StopIteration")->E (.ref e) {s with heap:=h'}):
 wpAny (model prog w) A (Builtin.«zip.__next__» {pos:=[.ref z]}) Q E s:=by
 have fin:∀(h':Heap) (e:Addr),(∃f g,B4 h' z TI TO f g)->(∀c o,c≠z->c≠TO->c≠i1->c≠i2->s.heap.get? c=some o->h'.get? c=some o)->(∃o,h'.get? e=some o/\o.cls = .type "StopIteration")->
  wpAny (model prog w) A (setField (.ref z) 0 Value.none) (λ_ s''=>E (.ref e) s'') E {s with heap:=h'}:=λh' e ⟨f,g,hf⟩ kk ⟨o,ho,hc⟩=>by
  refine wpAny_setField_rec (s:={s with heap:=h'}) hf (by simp) λh'' z'' hs=>?_;have ne:e≠z:=λe'=>by
   subst e';have:=(hf).symm.trans ho;cases this;exact absurd (show Value.type "zip"=Value.type "StopIteration" from hc) (by decide)
  exact h h'' e (λc o c1 c2 c3 c4 q=>hs.extBut c o c1<|kk c o c1 c2 c3 c4 q) ⟨o,hs.extBut e o ne ho,hc⟩
 change wpAny (model prog w) A (bind (field (.ref z) 2) _) _ E s;refine zxF<|wpAny_field hz rfl rfl ?_;refine zxF<|wpAny_field hz rfl rfl<|zxF<|wpAny_seqItems hTI rfl ?_;refine zxF<|CD hz hf ?_ λh₁ g1 z1 hs₁=>?_
 . rw[if_pos rfl];refine zxF<|wpAny_rule<|zxF<|wpAny_field hz rfl rfl ?_;refine zxF<|wpAny_setField_rec hz (by simp) λh₁ hz₁ hs₁=>?_;refine zxF ?_;rw[show(#[Value.ref i1,Value.ref i2].toList.zipIdx)=[(Value.ref i1,0),(Value.ref i2,1)]from rfl,List.forIn_cons];have z1:=hz₁;have x1:=h1.ext hs₁.extBut D.i1z;have y1:=q1.ext hs₁.extBut D.l1z;refine zxF<|zxF<|wpAny_onRaise ?_;cases e1:xs[k1]? with
   |none=>exact zxF (Wx hh x1 y1 e1 λh' e ex ho=>fin h' e ⟨_,_,ex z _ D.i1z.symm z1⟩ (λc o c1 c2 c3 c4 q=>ex c o c3<|hs₁.extBut c o c1 q) ho)
   |some x=>
    have hy:ys[k2]? = none:=hx.resolve_left (by rw[e1];simp);refine zxF<|vC x1 y1 e1 λh₂ x2 hs₂=>zxG ?_;have t2:=hs₂.extBut TO _ D.TOi1<|hs₁.extBut TO _ D.TOz hTO;refine zxF<|wpAny_seqItems t2 rfl<|zxF<|wpAny_updateSeq_pair t2 λh₃ t3 hs₃=>?_;refine zxF<|wpAny_letGo<|zxG ?_;have x3:=((h2.ext hs₁.extBut D.i2z).ext hs₂.extBut D.i12.symm).ext hs₃.extBut D.TOi2.symm;have y3:=((q2.ext hs₁.extBut D.l2z).ext hs₂.extBut D.l2i1).ext hs₃.extBut D.l2TO;change wpAny (model prog w) A (forIn [(Value.ref i2,1)] _ _) _ E _;rw[List.forIn_cons];refine zxF<|zxF<|wpAny_onRaise ?_;exact zxF<|Wx hh x3 y3 hy λh' e ex ho=>fin h' e ⟨_,_,ex z _ D.i2z.symm<|hs₃.extBut z _ D.TOz.symm<|hs₂.extBut z _ D.i1z.symm z1⟩
     (λc o c1 c2 c3 c4 q=>ex c o c4<|hs₃.extBut c o c2<|hs₂.extBut c o c3<|hs₁.extBut c o c1 q) ho
 . rw[if_neg<|by simp];change wpAny (model prog w) A (bind (forIn #[Value.ref i1,Value.ref i2] _ _) _) _ E _;rw[<-Array.forIn_toList,show #[Value.ref i1,Value.ref i2].toList=[Value.ref i1,Value.ref i2]from rfl,List.forIn_cons];have x1:=h1.ext hs₁.extBut D.i1z;have y1:=q1.ext hs₁.extBut D.l1z;refine zxF<|zxF<|zxF<|zxK ?_;cases e1:xs[k1]? with
   |none=>exact zxF (Wx hh x1 y1 e1 λh' e ex ho=>h h' e (λc o c1 c2 c3 c4 q=>ex c o c3<|hs₁.extBut c o c1 q) ho)
   |some x=>
    have hy:ys[k2]? = none:=hx.resolve_left (by rw[e1];simp);refine zxF<|vC x1 y1 e1 λh₂ x2 hs₂=>zxG<|zxG ?_;change wpAny (model prog w) A (forIn [Value.ref i2] _ _) _ E _;rw[List.forIn_cons];have x3:=(h2.ext hs₁.extBut D.i2z).ext hs₂.extBut D.i12.symm;have y3:=(q2.ext hs₁.extBut D.l2z).ext hs₂.extBut D.l2i1;refine zxF<|zxF<|zxK ?_;exact zxF<|Wx hh x3 y3 hy λh' e ex ho=>h h' e (λc o c1 c2 c3 c4 q=>ex c o c4<|hs₂.extBut c o c3<|hs₁.extBut c o c1 q) ho
def SM{b1 b2 prog w A E s z TI TO i1 i2 l1 l2}{k1 k2:Nat}{xs ys x y a b f0 f1 Q}(D:ZipApart z TI TO i1 i2 l1 l2)
 (hz:B4 s.heap z TI TO f0 f1) (hf:Zf f0) (hTI:IsPair s.heap TI (.ref i1) (.ref i2)) (hTO:IsPair s.heap TO a b) (h1:VN b1 s.heap i1 l1 k1) (h2:VN b2 s.heap i2 l2 k2) (q1:Ld b1 s.heap l1 xs) (q2:Ld b2 s.heap l2 ys) (hx:xs[k1]? = some x) (hy:ys[k2]? = some y)
 (h:∀(h':Heap) (g0:Value) (g1:Bool),B4 h' z TI TO g0 g1->Zf g0->(∃p q,IsPair h' TO p q)->VN b1 h' i1 l1 (k1+1)->VN b2 h' i2 l2 (k2+1)->IsPair h' s.heap.objs.size x y->(∀c o,c≠z->c≠TO->c≠i1->c≠i2->s.heap.get? c=some o->h'.get? c=some o)->Q (some<|.ref s.heap.objs.size) {s with heap:=h'}):
 wpAny (model prog w) A (pyNext<|.ref z) Q E s:=by
 have hT:s.TypeIs (.ref z) "zip":=⟨_,hz,rfl⟩;exact zxF<|wpAny_attempt<|wpAny_callSpecial?_slot hT F.slot_zip_next<|zxN F.slot_zip_next hT F.entry_zip_next (AR D hz hf hTI hTO h1 h2 q1 q2 hx hy λh' g0 g1 a1 a2 a3 a4 a5 a6 a7=>zxG<|h h' g0 g1 a1 a2 a3 a4 a5 a6 a7)<|F.args_zip_next_1 _
def SJ{b1 b2 prog w A E s z TI TO i1 i2 l1 l2}{k1 k2:Nat}{xs ys a b f0 f1 Q}(hh:A.handled=none)(D:ZipApart z TI TO i1 i2 l1 l2)
 (hz:B4 s.heap z TI TO f0 f1) (hf:Zf f0) (hTI:IsPair s.heap TI (.ref i1) (.ref i2)) (hTO:IsPair s.heap TO a b) (h1:VN b1 s.heap i1 l1 k1) (h2:VN b2 s.heap i2 l2 k2) (q1:Ld b1 s.heap l1 xs) (q2:Ld b2 s.heap l2 ys) (hx:xs[k1]? = none\/ys[k2]? = none)
 (h:∀h':Heap,(∀c o,c≠z->c≠TO->c≠i1->c≠i2->s.heap.get? c=some o->h'.get? c=some o)->Q none {s with heap:=h'}):wpAny (model prog w) A (pyNext<|.ref z) Q E s:=by
 have hT:s.TypeIs (.ref z) "zip":=⟨_,hz,rfl⟩;exact zxF<|wpAny_attempt<|wpAny_callSpecial?_slot hT F.slot_zip_next<|zxN F.slot_zip_next hT F.entry_zip_next (tH hh D hz hf hTI hTO h1 h2 q1 q2 hx λh' e hk ⟨o,ho,hc⟩=>zxF<|wpAny_isInstance ⟨o,ho,hc⟩ isSubtype_stop<|zxG<|h h' hk)<|F.args_zip_next_1 _
def JE{prog w A E s z TI TO T f0 f1 Q}(tg)(hz:B4 s.heap z TI TO f0 f1)(hf:Zf f0)
 (h:∀(h':Heap) (g0:Value),B4 h' z TI TO g0 f1->Zf g0->Heap.SameBut z s.heap h'->Q () {s with heap:=h'}):wpAny (model prog w) A (letOwnedTupleGo tg (.ref z)<|.ref T) Q E s:=by
 have no:wpAny (model prog w) A (pure ()) Q E s:=zxG<|h s.heap f0 hz hf<|Heap.SameBut.refl _ _;have go:wpAny (model prog w) A (bind (load z) λo=>match o.cls,o.data with
  |Value.type n,Data.fields vs=>if(["enumerate","zip","dict_itemiterator","dict_reverseitemiterator","odict_iterator","itertools.zip_longest","itertools.pairwise"].contains n&&vs[0]? == some (rawInt (T:Int)))=true then(do rule "for.unpacks-the-owned-tuple";updateField z 0 Value.none)else pure ()
  |_,_=>pure ()) Q E s:=by
  refine zxF<|wpAny_load hz ?_;show wpAny _ A (if _ then _ else _) Q E s
  split
  . refine zxF<|wpAny_rule ?_;exact wpAny_setField_rec hz (by simp) λh' z' hs=>h h' .none z' (.inl rfl) hs
  . exact no
 cases tg with
 |Tuple elts k pos=>exact go
 |List elts pos=>exact go
 |_=>exact no
noncomputable def Xm(b:Bool)(l:Addr):Obj:={cls:=.type (if b=true then "tuple_iterator" else "list_iterator"),data:=.fields #[.ref l,.int 0 0]}
def Sa{prog w A E s l xs Q}:∀{b:Bool},Ld b s.heap l xs->Q (.ref s.heap.objs.size) {s with heap:=s.heap.push (Xm b l)}->wpAny (model prog w) A (pyIter<|.ref l) Q E s
 |true,h1,h2=>wpAny_pyIter_tuple h1 h2
 |false,h1,h2=>wpAny_pyIter_list h1 h2
def Ld.at{h h' l xs}(k:∀o,h.get? l=some o->h'.get? l=some o):∀{b:Bool},Ld b h l xs->Ld b h' l xs
 |true,⟨o,e,c⟩=>⟨o,k o e,c⟩
 |false,⟨o,e,c⟩=>⟨o,k o e,c⟩
def Dd{b1 b2}(l1 l2)(xs ys):Meets (Builtin.«zip.__new__» {pos:=[.type "zip",.ref l1,.ref l2]}) λ_ R s=>Ld b1 s.heap l1 xs/\Ld b2 s.heap l2 ys/\
 ∀h':Heap,B4 h' (s.heap.objs.size+4) (s.heap.objs.size+2) (s.heap.objs.size+3) .none false->IsPair h' (s.heap.objs.size+2) (.ref s.heap.objs.size) (.ref<|s.heap.objs.size+1)->IsPair h' (s.heap.objs.size+3) .none .none->VN b1 h' s.heap.objs.size l1 0->VN b2 h' (s.heap.objs.size+1) l2 0->
  (∀c o,s.heap.get? c=some o->h'.get? c=some o)->R (.ok<|.ret<|.ref<|s.heap.objs.size+4) {s with heap:=h'}:=
 .of_wp λprog w A R s h=>by
  obtain⟨hp,g,d,tk,os⟩:=s;obtain⟨hl1,hl2,h⟩:=h;have hsub:=sub_zip;have p1:∀{Q:Value->Shared->Prop}{E:Value->Shared->Prop}{A:Around},Q (.ref hp.objs.size) ⟨hp.push<|Xm b1 l1,g,d,tk,os⟩->wpAny (model prog w) A (pyIter<|.ref l1) Q E ⟨hp,g,d,tk,os⟩:=λh=>Sa hl1 h;have p2:∀{Q:Value->Shared->Prop}{E:Value->Shared->Prop}{A:Around},Q (.ref (hp.push<|Xm b1 l1).objs.size) ⟨(hp.push<|Xm b1 l1).push<|Xm b2 l2,g,d,tk,os⟩->wpAny (model prog w) A (pyIter<|.ref l2) Q E ⟨hp.push<|Xm b1 l1,g,d,tk,os⟩:=λh=>Sa (s:=⟨hp.push<|Xm b1 l1,g,d,tk,os⟩) (hl2.at λo e=>zxH _ e) h
  wp_walk using p1,p2
  refine⟨_,rfl, ?_⟩;have s1:(hp.push<|Xm b1 l1).objs.size=hp.objs.size+1:=zxL _ _;have s2:((hp.push<|Xm b1 l1).push<|Xm b2 l2).objs.size=hp.objs.size+2:=(zxL _ _).trans (congrArg (· + 1) s1);generalize hh2:(hp.push<|Xm b1 l1).push (Xm b2 l2)=h2 at s2 ⊢;have i1:VN b1 h2 hp.objs.size l1 0:=by
   have:h2.get? hp.objs.size=some (Xm b1 l1):=by rw[<-hh2];exact zxH _<|zxJ _ rfl
   cases b1<;>exact⟨_,this,rfl,rfl⟩
  have i2:VN b2 h2 (hp.objs.size+1) l2 0:=by
   have:h2.get? (hp.objs.size+1)=some (Xm b2 l2):=by rw[<-hh2,<-s1];exact zxJ _ rfl
   cases b2<;>exact⟨_,this,rfl,rfl⟩
  have kp:∀c o,hp.get? c=some o->h2.get? c=some o:=λc o q=>by rw[<-hh2];exact zxH _<|zxH _ q
  rw[s1];change R (.ok<|.ret<|.ref ((h2.push {cls:=.type "tuple",data:=.seq #[.ref hp.objs.size,.ref<|hp.objs.size+1]}).push {cls:=.type "tuple",data:=.seq #[.none,.none]}).objs.size)
   ⟨((h2.push {cls:=.type "tuple",data:=.seq #[.ref hp.objs.size,.ref<|hp.objs.size+1]}).push {cls:=.type "tuple",data:=.seq #[.none,.none]}).push {cls:=.type "zip",data:=.fields #[.none,.bool false,.bool false,.ref h2.objs.size,.ref (h2.push {cls:=.type "tuple",data:=.seq #[.ref hp.objs.size,.ref<|hp.objs.size+1]}).objs.size]},g,d,tk,os⟩
  have g3:=zxJ h2 (o:={cls:=.type "tuple",data:=.seq #[.ref hp.objs.size,.ref<|hp.objs.size+1]}) rfl;have s3:(h2.push {cls:=.type "tuple",data:=.seq #[.ref hp.objs.size,.ref<|hp.objs.size+1]}).objs.size=hp.objs.size+3:=(zxL _ _).trans (congrArg (· + 1) s2);rw[s2]at g3;rw[s2,s3];have k3:∀c o,h2.get? c=some o->(h2.push {cls:=.type "tuple",data:=.seq #[.ref hp.objs.size,.ref<|hp.objs.size+1]}).get? c=some o:=λc o q=>zxH _ q;generalize (h2.push {cls:=.type "tuple",data:=.seq #[.ref hp.objs.size,.ref<|hp.objs.size+1]})=h3 at *;have g4:=zxJ h3 (o:={cls:=.type "tuple",data:=.seq #[.none,.none]}) rfl;have s4:(h3.push {cls:=.type "tuple",data:=.seq #[.none,.none]}).objs.size=hp.objs.size+4:=(zxL _ _).trans (congrArg (· + 1) s3);have k4:∀c o,h3.get? c=some o->(h3.push {cls:=.type "tuple",data:=.seq #[.none,.none]}).get? c=some o:=λc o q=>zxH _ q;rw[s3]at g4;rw[s4];generalize (h3.push {cls:=.type "tuple",data:=.seq #[.none,.none]})=h4 at *;have g5:=zxJ h4 (o:={cls:=.type "zip",data:=.fields #[.none,.bool false,.bool false,.ref<|hp.objs.size+2,.ref<|hp.objs.size+3]}) rfl;rw[s4]at g5;exact h _ g5 (zxH _<|k4 _ _ g3) (zxH _ g4) (i1.at λo e=>zxH _<|k4 _ _<|k3 _ _ e) (i2.at λo e=>zxH _<|k4 _ _<|k3 _ _ e) λc o q=>zxH _<|k4 _ _<|k3 _ _<|kp c o q
def JC{b1 b2 prog w A E s l1 l2 xs ys Q}(hl1:Ld b1 s.heap l1 xs)(hl2:Ld b2 s.heap l2 ys)
 (h:∀h':Heap,B4 h' (s.heap.objs.size+4) (s.heap.objs.size+2) (s.heap.objs.size+3) .none false->IsPair h' (s.heap.objs.size+2) (.ref s.heap.objs.size) (.ref<|s.heap.objs.size+1)->IsPair h' (s.heap.objs.size+3) .none .none->VN b1 h' s.heap.objs.size l1 0->VN b2 h' (s.heap.objs.size+1) l2 0->
  (∀c o,s.heap.get? c=some o->h'.get? c=some o)->Q (.ref<|s.heap.objs.size+4) {s with heap:=h'}):wpAny (model prog w) A (call (.type "zip") [.ref l1,.ref l2]) Q E s:=
 callType_new F.called_zip (by decide) (F.typeCall_zip_2 _ _) (F.newCall_zip_2 _ _) (λobj=>F.args_object_init_3 obj _ _) F.entry_zip_new (Dd l1 l2 xs ys)
  ⟨hl1,hl2,λh' a1 a2 a3 a4 a5 a6=>⟨⟨_,a1,rfl⟩,h h' a1 a2 a3 a4 a5 a6⟩⟩
def Gu{prog w A E s z TI TO f0 f1 Q}(hz:B4 s.heap z TI TO f0 f1)(h:Q (.ref z) s):wpAny (model prog w) A (pyIter<|.ref z) Q E s:=by
 have hT:s.TypeIs (.ref z) "zip":=⟨_,hz,rfl⟩;exact wpAny_pyIter_slot hT F.slot_zip_iter<|zxN F.slot_zip_iter hT F.entry_zip_iter (zxG ⟨.ref z,rfl,"zip",.builtin "zip.__next__",hT,F.slot_zip_next.lookup,h⟩)<|F.args_zip_iter_1 _
def MK(K:zzA)(H:Hp):Bool->Addr->List V->Prop
 |true,a,xs=>RF K H a xs
 |false,a,xs=>VX K H a xs
def MK.ok{X pins σ H s}(I:Inv X pins σ H s):∀{b:Bool}{a:Addr}{xs:List V},MK X.K H b a xs->∃its:List Value,zS xs its/\Ld b s.heap a its.toArray
 |true,a,xs,h=>by obtain⟨its,rv,p,_⟩:=I.tuple h;exact⟨its,rv,p⟩
 |false,a,xs,h=>by obtain⟨its,rv,p,_⟩:=I.list h;exact⟨its,rv,p.isList⟩
def MK.inj{X pins σ H s}(I:Inv X pins σ H s):∀{b:Bool}{a:Addr}{xs ys:List V},MK X.K H b a xs->MK X.K H b a ys->xs=ys
 |true,_,_,_,h,h'=>I.tuple_inj h h'
 |false,_,_,_,h,h'=>I.list_inj h h'
def Ld.ex{h l xs}:∀{b:Bool},Ld b h l xs->∃o,h.get? l=some o
 |true,⟨o,e,_⟩=>⟨o,e⟩
 |false,⟨o,e,_⟩=>⟨o,e⟩
def VN.ex{h it l}{k:Nat}:∀{b:Bool},VN b h it l k->∃o,h.get? it=some o/\∀v,o.data ≠ .cell v
 |true,⟨o,e,_,d⟩=>⟨o,e,λv z=>by rw[d]at z;cases z⟩
 |false,⟨o,e,_,d⟩=>⟨o,e,λv z=>by rw[d]at z;cases z⟩
def tG(K:zzA)(b1 b2:Bool)(a b:Addr):It:=
 ⟨λi H=>∃xs ys x y,MK K H b1 a xs/\MK K H b2 b ys/\xs[i]? = some x/\ys[i]? = some y,
  λi H v H'=>∃T x y,H T=none/\v = .ref T/\H'=upd H T (.tup [x,y])/\(∀xs,MK K H b1 a xs->xs[i]? = some x)/\∀ys,MK K H b2 b ys->ys[i]? = some y,
  λi H=>∃xs ys,MK K H b1 a xs/\MK K H b2 b ys/\(xs.length<=i\/ys.length<=i)⟩
def IW{P w K tg b1 b2}(a b z TI TO i1 i2)(D:ZipApart z TI TO i1 i2 a b):Turn P w K tg (tG K b1 b2 a b) [z,TI,TO,i1,i2] z
 (λi h=>(∃f0 f1,B4 h z TI TO f0 f1/\Zf f0)/\IsPair h TI (.ref i1) (.ref i2)/\(∃p q,IsPair h TO p q)/\VN b1 h i1 a i/\VN b2 h i2 b i)where
 mem:=by simp
 obj:=λi h st c hc=>by
  obtain⟨⟨f0,f1,hz,_⟩,hTI,⟨p,q,hTO⟩,h1,h2⟩:=st;simp only[zzC,zxB,or_false]at hc
  rcases hc with rfl|rfl|rfl|rfl|rfl
  . exact⟨_,hz,λv z=>by cases z⟩
  . exact⟨_,hTI,λv z=>by cases z⟩
  . exact⟨_,hTO,λv z=>by cases z⟩
  . exact h1.ex
  . exact h2.ex
 keep:=λi h h' st kk=>by
  obtain⟨⟨f0,f1,hz,hf⟩,hTI,⟨p,q,hTO⟩,h1,h2⟩:=st;exact⟨⟨f0,f1,kk z (by simp) _ hz,hf⟩,kk TI (by simp) _ hTI,⟨p,q,kk TO (by simp) _ hTO⟩,h1.at λo e=>kk i1 (by simp) o e,h2.at λo e=>kk i2 (by simp) o e⟩
 item:=by
  intro X hP hw hK hc i pins s σ H E I hf st hg;subst hP hw hK;obtain⟨xs,ys,x,y,hq,hr,hx,hy⟩:=hg;obtain⟨its,rv,p⟩:=hq.ok I;obtain⟨jts,rw',p'⟩:=hr.ok I;obtain⟨u,hu,ru⟩:=rv.get hx;obtain⟨u',hu',ru'⟩:=rw'.get hy;obtain⟨⟨f0,f1,hz,zf⟩,hTI,⟨pp,qq,hTO⟩,h1,h2⟩:=st;refine SM D hz zf hTI hTO h1 h2 p p' (by simpa using hu) (by simpa using hu') λh' g0 g1 z' zf' to' i1' i2' pr kk=>⟨_,rfl,JE tg z' zf' λh9 e0 z2 zf2 hs=>?_⟩;have hn:=I.hok.fresh<|zzN _;have fr:∀c o,s.heap.get? c=some o->c≠s.heap.objs.size:=λc o e z=>by
   have:=zxI e;rw[z]at this;exact Nat.lt_irrefl _ this
  have nz:=(fr z _ hz).symm;have k2:∀c o,c ∉ [z,TI,TO,i1,i2]->s.heap.get? c=some o->h9.get? c=some o:=λc o hb q=>by
   simp only[zzC,zxB,or_false,not_or]at hb;exact hs.extBut c o hb.1<|kk c o hb.1 hb.2.2.1 hb.2.2.2.1 hb.2.2.2.2 q
  have hTI2:=hs.extBut TI _ D.TIz<|kk TI _ D.TIz D.TITO D.TIi1 D.TIi2 hTI;obtain⟨p1,q1,to1⟩:=to';refine⟨.ref s.heap.objs.size,upd H s.heap.objs.size<|.tup [x,y],RI (s:=s) (t':=s.toks) I hf k2 (zzN _) ⟨by show 2<=sizeLine;decide,[u,u'],.cons ru<|.cons ru' .nil,⟨_,hs.extBut _ _ nz pr,rfl,_,rfl⟩⟩,rfl,
   ⟨_,x,y,hn,rfl,rfl,λq hq'=>by rw[MK.inj I hq' hq];exact hx,λq hq'=>by rw[MK.inj I hq' hr];exact hy⟩,⟨⟨e0,g1,z2,zf2⟩,hTI2,⟨p1,q1,hs.extBut TO _ D.TOz to1⟩,i1'.ext hs.extBut D.i1z,i2'.ext hs.extBut D.i2z⟩,λc hc=>?_⟩
  have hcT:c≠s.heap.objs.size:=by
   simp only[zzC,zxB,or_false]at hc
   rcases hc with rfl|rfl|rfl|rfl|rfl
   . exact fr _ _ hz
   . exact fr _ _ hTI
   . exact fr _ _ hTO
   . obtain⟨o,e,_⟩:=h1.ex;exact fr _ _ e
   . obtain⟨o,e,_⟩:=h2.ex;exact fr _ _ e
  rw[zG hcT];exact(hf c hc).1
 done:=by
  intro X hP hw hK hc i pins s σ H E I hf st hg;subst hP hw hK;obtain⟨xs,ys,hq,hr,hx⟩:=hg;obtain⟨its,rv,p⟩:=hq.ok I;obtain⟨jts,rw',p'⟩:=hr.ok I;have hl:=rv.length;have hl':=rw'.length;obtain⟨⟨f0,f1,hz,zf⟩,hTI,⟨pp,qq,hTO⟩,h1,h2⟩:=st;refine SJ (I.ok.hd hc) D hz zf hTI hTO h1 h2 p p' (hx.imp (λh=>by simp;exact q0r hl h) λh=>by simp;exact q0r hl' h) λh' eb=>⟨rfl,MC (t':=s.toks) I hf λc o hc q=>?_⟩;simp only[zzC,zxB,or_false,not_or]at hc;exact eb c o hc.1 hc.2.2.1 hc.2.2.2.1 hc.2.2.2.2 q
 self:=λ_ _ _ _ _ st h=>let⟨⟨_,_,hz,_⟩,_⟩:=st;Gu hz h
section
variable{X:Cx}{tg:Expr}
def n6(K:zzA)(ta:TA):TI:=λσ H R=>ta σ H λvs H1=>∃a b b1 b2,vs=[.ref a,.ref b]/\(∃xs,MK K H1 b1 a xs)/\(∃ys,MK K H1 b2 b ys)/\R (tG K b1 b2 a b) H1
def CK{l l' ta p pos}(hg:Gl X "zip")(hm:X.mg "zip"=none)(ha:PA X [l,l'] ta)(hs:starEach [l,l'] X.env=[(false,eval l X.env),(false,eval l' X.env)])(hs2:starEach [l'] X.env=[(false,eval l' X.env)]):
 PI X tg (.Call (.Name "zip" p) [l,l'] [] pos) (n6 X.K ta):=by
 intro pins s σ H R I h;refine Call_ (Va I hg hm boot_zip<|PyProof.Rows.callWith_type1 (wo (ha pos pins s σ H _ I h) λus s1 ⟨vs,H1,I1,r1,q1⟩=>?_) (by rw[hs,hs2])<|by rw[hs2];rfl);obtain⟨a,b,b1,b2,rfl,⟨xs,hq⟩,⟨ys,hr⟩,q⟩:=q1;cases r1 with
 |cons r rr=>
  cases rr with
  |cons r' rr=>
   cases rr;cases r;cases r';obtain⟨its,rv,pl⟩:=hq.ok I1;obtain⟨jts,rw',pl'⟩:=hr.ok I1;obtain⟨o1,ho1⟩:=pl.ex;obtain⟨o2,ho2⟩:=pl'.ex;refine JC pl pl' λh' hZ hTI hTO hi1 hi2 hk=>?_;refine Gu hZ ⟨s1.heap.objs.size+4,[s1.heap.objs.size+4,s1.heap.objs.size+2,s1.heap.objs.size+3,s1.heap.objs.size,s1.heap.objs.size+1],_,_,H1,rfl,I1.kept (t':=s1.toks) hk,IW a b _ _ _ _ _<|JK _ _ _ (zxI ho1)<|zxI ho2,⟨⟨_,_,hZ,.inl rfl⟩,hTI,⟨_,_,hTO⟩,hi1,hi2⟩,λc hc=>?_,q⟩;have hb':s1.heap.objs.size<=c:=by
    simp only[zzC,zxB,or_false]at hc
    rcases hc with rfl|rfl|rfl|rfl|rfl<;>first|exact zzN _|exact Nat.le_add_right _ _
   exact I1.fpOk hb'<|I1.hok.fresh hb'
end
section
variable{X:Cx}{kd:KD}{tg e:Expr}{fa:EF}
def tW{K F B ad H a b b1 b2 vs ws st ds es}(hs:∀(ad3:Ad) (H3:Hp),Grow (Gw [] ad) H (Gw [] ad3) H3->MK K H3 b1 a vs)(hs':∀(ad3:Ad) (H3:Hp),Grow (Gw [] ad) H (Gw [] ad3) H3->MK K H3 b2 b ws)
 (r:RpL K kd (Lv F B (Gw [] ad) st) H vs ds) (r':RpL K kd (Lv F B (Gw [] ad) st) H ws es):ItOk K kd F B ad H (tG K b1 b2 a b) (Ut st ds es):=⟨λad3 H3 g3 tr i=>by
 have hr3:=hs ad3 H3 g3;have hr4:=hs' ad3 H3 g3;have rl3:=RpL.grow g3 r;have rl4:=RpL.grow g3 r';have hlen:=RH st ds es;have l1:=r.length;have l2:=r'.length;refine⟨λhi=>?_,λhi=>⟨_,_,hr3,hr4,q2b hlen hi l1 l2⟩,λv H4 hy=>?_⟩
 . obtain⟨u,hu,_⟩:=r.get<|zzE (show i<ds.length from q1m hi hlen);obtain⟨u',hu',_⟩:=r'.get<|zzE (show i<es.length from q1s hi hlen);exact⟨_,_,u,u',hr3,hr4,hu,hu'⟩
 . obtain⟨T,x,y,hn,rfl,rfl,hv,hv'⟩:=hy;refine⟨xF hn,λq hq=>?_⟩;obtain⟨d,e,hd,he,rfl⟩:=N3 hq;obtain⟨u,hu,ru⟩:=rl3.get hd;obtain⟨u',hu',ru'⟩:=rl4.get he;have:=hv _ hr3;rw[hu]at this;cases this;have:=hv' _ hr4;rw[hu']at this;cases this;exact .tup (λz=>tr _ _ z hn) (.inl z_)<|.cons (Rp.grow ⟨λb o q _=>xF hn b o q,λb z=>.inl z⟩ ru)<|.cons (Rp.grow ⟨λb o q _=>xF hn b o q,λb z=>.inl z⟩ ru') .nil⟩
def t7{K F H a b b1 b2 vs ws st ds es}(ft:∀a,F a->H a≠none)(hs:∀H3:Hp,(∀b u,H b=some u->H3 b=some u)->MK K H3 b1 a vs)(hs':∀H3:Hp,(∀b u,H b=some u->H3 b=some u)->MK K H3 b2 b ws)
 (r:RpL K kd (λa=>st=true/\F a) H vs ds) (r':RpL K kd (λa=>st=true/\F a) H ws es):ItC K kd F H (tG K b1 b2 a b) (Ut st ds es):=⟨λH3 T k hT i=>by
 have hr3:=hs H3 k;have hr4:=hs' H3 k;have hlen:=RH st ds es;have l1:=r.length;have l2:=r'.length;refine⟨λhi=>?_,λhi=>⟨_,_,hr3,hr4,q2b hlen hi l1 l2⟩,λv H4 hy=>?_⟩
 . obtain⟨u,hu,_⟩:=r.get<|zzE (show i<ds.length from q1m hi hlen);obtain⟨u',hu',_⟩:=r'.get<|zzE (show i<es.length from q1s hi hlen);exact⟨_,_,u,u',hr3,hr4,hu,hu'⟩
 . obtain⟨A,x,y,hn,rfl,rfl,hv,hv'⟩:=hy;have hnH:H A=none:=by
    cases e:H A with
    |none=>rfl
    |some u=>rw[k A u e]at hn;cases hn
   refine⟨xF hn,λq hq=>?_⟩;obtain⟨d,e,hd,he,rfl⟩:=N3 hq;obtain⟨u,hu,ru⟩:=r.get hd;obtain⟨u',hu',ru'⟩:=r'.get he;have:=hv _ hr3;rw[hu]at this;cases this;have:=hv' _ hr4;rw[hu']at this;cases this;have up:∀{v:V}{d:D},Rp K kd (λa=>st=true/\F a) H v d->Rp K kd (λa=>st=true/\(F a\/T a)) (upd H3 A<|.tup [x,y]) v d:=λrp=>
    (rp.since (λb o q=>xF hn b o<|k b o q) λa z=>(hT a z).1).less λa z=>z.2.elim (λy=>.inl ⟨z.1,y⟩) .inr
   exact .tup (λz=>z.2.elim (λy=>ft A y hnH) λy=>(hT A y).2 hn) (.inl z_)<|.cons (up ru)<|.cons (up ru') .nil⟩
noncomputable def sW:RV->Option (Bool×Bool×List D)
 | .ow (.lf s (.lst l))=>some (s,false,l)
 | .ow (.lf s (.tup l))=>some (s,true,l)
 |_=>none
def VR(fr:AF):IF:=λas=>(fr as).bind λp=>(oF p.1).bind λo=>(sW o.1).bind λa=>(sW o.2).bind λb=>some (Ut (a.1&&b.1) a.2.2 b.2.2,p.2)
def Wu{K F B ad σ H v r x}(e:sW r=some x)(rv:xl K kd F B [] ad σ H v r):∃a vs,v = .ref a/\MK K H x.2.1 a vs/\(∀H3:Hp,(∀b u,¬Gw [] ad b->H b=some u->H3 b=some u)->MK K H3 x.2.1 a vs)/\RpL K kd (Lv F B (Gw [] ad) x.1) H vs x.2.2:=by
 cases r with
 |bo i=>cases e
 |ow o=>
  cases o with
  |nd k os=>cases e
  |lf s d=>
   cases rv with
   |lf rp=>
    cases rp with
    |lst hn hr rl=>
     cases e;refine⟨_,_,rfl,.inl hr,λH3 k=>?_,rl⟩
     rcases hr with hr|⟨o,hr⟩
     . exact .inl<|.inl<|k _ _ (λz=>hn<|.inr z) hr
     . exact .inl (.inr ⟨o,k _ _ (λz=>hn<|.inr z) hr⟩)
    |lstK a b c rl=>cases e;exact⟨_,_,rfl,.inr ⟨_,_,_,a,rfl,rfl,rfl,b,c⟩,λH3 k=>.inr ⟨_,_,_,a,rfl,rfl,rfl,b,c⟩,rl⟩
    |tup hn hr rl=>
     cases e;refine⟨_,_,rfl,.inl hr,λH3 k=>?_,rl⟩
     rcases hr with hr|⟨o,hr⟩
     . exact .inl<|.inl<|k _ _ (λz=>hn<|.inr z) hr
     . exact .inl (.inr ⟨o,k _ _ (λz=>hn<|.inr z) hr⟩)
    |tupK a b c e' f rl=>cases e;exact⟨_,_,rfl,.inr ⟨_,_,_,a,b,c,e',f⟩,λH3 k=>.inr ⟨_,_,_,a,b,c,e',f⟩,rl⟩
    |_=>cases e
def qh{F B G p q}:∀a,Lv F B G (p&&q) a->Lv F B G p a:=Th λz=>(Bool.and_eq_true_iff.mp z).1
def rA{F B G p q}:∀a,Lv F B G (p&&q) a->Lv F B G q a:=Th λz=>(Bool.and_eq_true_iff.mp z).2
def qK{l l' fr p pos}(hg:Gl X "zip")(hm:X.mg "zip"=none)(ha:AA X kd [l,l'] fr)(hs:starEach [l,l'] X.env=[(false,eval l X.env),(false,eval l' X.env)])(hs2:starEach [l'] X.env=[(false,eval l' X.env)]):
 AI X kd tg (.Call (.Name "zip" p) [l,l'] [] pos) (VR fr):=by
 with_unfolding_all (
 intro pins s σ H R I h;obtain⟨F,B,ad,as,ds,as',Rl,e',q⟩:=h;obtain⟨⟨rs,as1⟩,h1,e'⟩:=bS_<|e';obtain⟨⟨o1,o2⟩,e1,e'⟩:=bS_ e';obtain⟨x1,e2,e'⟩:=bS_ e';obtain⟨x2,e3,e'⟩:=bS_ e';cases FH e1;cases e';refine CK hg hm ha hs hs2 pins s σ H R I ⟨F,B,ad,as,_,as1,Rl,h1,λvs ad1 H1 R1 rv1 g1=>?_⟩;cases rv1 with
 |cons r1 rr=>
  cases rr with
  |cons r2 rr=>
   cases rr;obtain⟨a,vs,rfl,sa,ka,ra⟩:=Wu e2 r1;obtain⟨b,ws,rfl,sb,kb,rb⟩:=Wu e3 r2;exact⟨a,b,_,_,rfl,⟨_,sa⟩,⟨_,sb⟩,q _ ad1 H1 R1 g1<|tW (λad3 H3 g3=>ka H3 λb u n h=>g3.keep b u h n) (λad3 H3 g3=>kb H3 λb u n h=>g3.keep b u h n) (ra.less qh)<|rb.less rA⟩)
def rT{l l' fr p pos}(hg:Gl X "zip")(hm:X.mg "zip"=none)(ha:AA X kd [l,l'] fr)(hs:starEach [l,l'] X.env=[(false,eval l X.env),(false,eval l' X.env)])(hs2:starEach [l'] X.env=[(false,eval l' X.env)]):
 qF X kd tg (.Call (.Name "zip" p) [l,l'] [] pos) (VR fr):=by
 with_unfolding_all (
 intro pins s σ H R I h;obtain⟨F,B,ad,as,ds,as',Rl,e',q⟩:=h;obtain⟨⟨rs,as1⟩,h1,e'⟩:=bS_<|e';obtain⟨⟨o1,o2⟩,e1,e'⟩:=bS_ e';obtain⟨x1,e2,e'⟩:=bS_ e';obtain⟨x2,e3,e'⟩:=bS_ e';cases FH e1;cases e';refine CK hg hm ha hs hs2 pins s σ H R I ⟨F,B,ad,as,_,as1,Rl,h1,λvs ad1 H1 R1 rv1 g1=>?_⟩;cases rv1 with
 |cons r1 rr=>
  cases rr with
  |cons r2 rr=>
   cases rr;obtain⟨a,vs,rfl,sa,ka,ra⟩:=Wu e2 r1;obtain⟨b,ws,rfl,sb,kb,rb⟩:=Wu e3 r2;refine⟨a,b,_,_,rfl,⟨_,sa⟩,⟨_,sb⟩,q _ ad1 H1 R1 g1<|t7 (R1.trk true) (λH3 k=>ka H3 λb u n h=>k b u h) (λH3 k=>kb H3 λb u n h=>k b u h) (ra.less λa z=>?_)<|rb.less λa z=>?_⟩
   . have z1:=(Bool.and_eq_true_iff.mp z.1).1;rw[z1];exact z.2
   . have z1:=(Bool.and_eq_true_iff.mp z.1).2;rw[z1];exact z.2)
end
def ny:List D->Option R0:=mw λx=>(nM x).bind λds=>(Qw ds).bind λns=>some<|.im<|.int ns.sum
theorem Mz:∀{us:List Value}{ns:List Int},IntsAre us ns->∃ps:List (Int×Tok),us=ps.map (λp=>Value.int p.1 p.2)/\ps.map (·.1)=ns
 |_,_,.nil=>⟨[],rfl,rfl⟩
 |_,_,.cons a t h=>by
  obtain⟨b,rfl,rfl⟩:=Mz h;exact⟨(a,t)::b,rfl,rfl⟩
theorem Hm{ps:List (Int×Tok)}:∀k,k<=ps.length->preSum (numAt ps.toArray) k=((ps.take k).map (·.1)).sum
 |0,_=>by rw[List.take_zero];rfl
 |k+1,h=>by
  have a:=Hm (ps:=ps) k<|q1v h;rw[List.take_add_one,zyM,List.sum_append,<-a];show preSum _ k+numAt ps.toArray k=_
  congr 1
  rw[zzE (show k<ps.length from q1x h)];show((ps.toArray[k]?).map _).getD 0=_;rw[List.getElem?_toArray,zzE (show k<ps.length from q1x h)];simp
section
variable{X:Cx}{kd:KD}
def Jd(hc:X.calm=true):XB X kd (.builtin "sum") ny:=by
 intro f s σ H E F Q I r h;obtain⟨O,G,J,K,i,a,q⟩:=h;obtain⟨x,d,rfl,j,a⟩:=TY i a;obtain⟨l,k,b⟩:=bS_<|a;cases TX k
 . obtain⟨m,n,c⟩:=bS_ b;cases c
   . cases j with
     |lst o p=>
      obtain⟨u,rfl,t⟩:=vals1 r;cases t;obtain⟨e,v,w,L⟩:=I.list o.sq;obtain⟨g,y,z⟩:=Mz<|u9 p v n;refine sum_intListG (I.ok.hd hc) (xs:=g.toArray) ?_ λM A B C=>?_
      . have D:intItems g.toArray=e.toArray:=by rw[y];simp[intItems]
        rw[D];exact w.isList
      . refine⟨.int m.sum,H,I.kept (t':=A) C,⟨B, ?_⟩,yc q<|.int _⟩;rw[zzH,Hm _<|zzN _,List.take_length,z]
end
def JA(h:n<=1000000):n<=sizeLine:=zzO h (by decide)
section
variable{as:AS}{f fo a b:EF}{fr:AF}{s t:Bool}{x y z d:D}{c m:Str}{ns cs:List Str}{ds:List D}{tbl:List (Str×Fn)}{g:Fn}{o:O}
def Tb(h:WD fo as s (.ob c ns ds))(hc:c ∈ cs)(hl:HJ ns ds n=some d):WD (f1 fo<|zP cs n) as (zB d||s) d:=by
 unfold WD f1 at *;rw[h];show(if c ∈ cs then(HJ ns ds n).bind λd=>some _ else none:Option R0).bind _=_;rw[if_pos hc,hl];show(if _=true then _ else _:Option RV).bind _=_;rw[if_pos<|by simp];rfl
def Lk(ho:WD fo as s (.ob c ns ds))(hm:m ∉ ns)(ht:HL tbl c=some g)(hr:WA fr as rs)(hg:g ((s,.ob c ns ds)::rs.map λx=>(zB x.2||x.1,x.2))=some o):xM tbl m fo fr as=some (.ow o,as):=by
 unfold xM;unfold WD at ho;unfold WA at hr;rw[ho];show(if m ∈ ns then none else some c:Option Str).bind _=_;rw[if_neg hm];show(HL tbl c).bind _=_;rw[ht];rw[hr];show((XW as _).bind _:Option _).bind _=_;rw[YF];show(g ((s,.ob c ns ds)::_)).bind _=_;rw[hg];rfl
def j8(ho:WD fo as true (.ob c ns ds))(hm:m ∉ ns)(ht:HL tbl c=some g)(hg:RE (g [(true,.ob c ns ds)]) z):WE (xM tbl m fo aN) as z:=by
 obtain⟨o,a,b,d⟩:=hg;exact⟨o,Lk ho hm ht zq a,b,d⟩
def Mm(ho:WD fo as true (.ob c ns ds))(hm:m ∉ ns)(ht:HL tbl c=some g)(ha:WE a as x)(hg:RE (g [(true,.ob c ns ds),(true,x)]) z):WE (xM tbl m fo<|aC a aN) as z:=by
 obtain⟨o,b,d,e⟩:=hg;exact⟨o,Lk ho hm ht (y_ ha zq) (by show g [_,(zB x||true,x)]=_;rw[zyD];exact b),d,e⟩
def Se(ho:WD fo as true (.ob c ns ds))(hm:m ∉ ns)(ht:HL tbl c=some g)(ha:WE a as x)(hb:WE b as y)(hg:RE (g [(true,.ob c ns ds),(true,x),(true,y)]) z):WE (xM tbl m fo<|aC a<|aC b aN) as z:=by
 obtain⟨o,d,e,f⟩:=hg;exact⟨o,Lk ho hm ht (y_ ha<|y_ hb zq) (by show g [_,(zB x||true,x),(zB y||true,y)]=_;rw[zyD,zyD];exact d),e,f⟩
def q8(ho:WD fo as true (.ob c ns ds))(hm:m ∉ ns)(ht:HL tbl c=some g)(ha:WE a as x)(hb:WE b as y)(he:WE e as w)(hg:RE (g [(true,.ob c ns ds),(true,x),(true,y),(true,w)]) z):WE (xM tbl m fo<|aC a<|aC b<|aC e aN) as z:=by
 obtain⟨o,d,f,h⟩:=hg;exact⟨o,Lk ho hm ht (y_ ha<|y_ hb<|y_ he zq) (by show g [_,(zB x||true,x),(zB y||true,y),(zB w||true,w)]=_;rw[zyD,zyD,zyD];exact d),f,h⟩
inductive SqD:D->List D->Prop
 |l (ds:List D):SqD (.lst ds) ds
 |t (ds:List D):SqD (.tup ds) ds
theorem QI(st):∀(xs ys:List D),Ut st xs ys=(xs.zip ys).map λq=>(st,.tup [q.1,q.2])
 | [],_=>rfl
 |_::_,[]=>rfl
 |x::r,y::t=>congrArg (_ :: ·)<|QI st r t
def ui(ha:WE a as x)(hb:WE b as y)(hx:SqD x xs)(hy:SqD y ys):VR (aC a<|aC b aN) as=some ((xs.zip ys).map λq=>(true,.tup [q.1,q.2]),as):=by
 have h:=y_ ha<|y_ hb zq;unfold WA at h;unfold VR;rw[h,<-QI];cases hx<;>cases hy<;>rfl
theorem E7:∀(l:List α),(∀q ∈ l,∃as1,gg (it q) as0=some as1/\WE fe as1 (h q))->∃os,xB gg yD fe as0 (l.map it)=some os/\O.strs os=true/\O.toDs os=l.map h
 | [],_=>⟨[],rfl,rfl,rfl⟩
 |q::l,H=>by
  obtain⟨a,d,e,f⟩:=E7 l λp m=>H p<|zzD _ m;obtain⟨b,g,o,i,c,j⟩:=H q zzF;refine⟨o::a, ?_,by show(o.str&&O.strs a)=true;rw[c,e];rfl,by show o.toD::O.toDs a=_;rw[j,f];rfl⟩;show xB gg yD fe as0 (it q::l.map it)=_;unfold xB;rw[g];show((fe b).bind _)=_;rw[i];show(if o.str=true then _ else _)=_;rw[if_pos c,d];rfl
theorem Ex:∀(l:List α),(∀q ∈ l,∃as1,gg (it q) as0=some as1/\WT tt as1 (p q)/\(p q=true->WE fe as1 (h q)))->∃os,xB gg tt fe as0 (l.map it)=some os/\O.strs os=true/\O.toDs os=(l.filter p).map h
 | [],_=>⟨[],rfl,rfl,rfl⟩
 |q::l,H=>by
  obtain⟨c,d,e,f⟩:=Ex l λp m=>H p<|zzD _ m;obtain⟨a,g,b,j⟩:=H q zzF;cases hp:p q with
  |false=>
   rw[hp]at b;refine⟨c,JY g b d,e, ?_⟩;rw[List.filter_cons_of_neg<|by simp[hp]];exact f
  |true=>
   rw[hp]at b;obtain⟨o,k,i,n⟩:=j hp;refine⟨o::c, ?_,by show(o.str&&O.strs c)=true;rw[i,e];rfl, ?_⟩
   . unfold WT at b;show xB gg tt fe as0 (it q::l.map it)=_;unfold xB;rw[g];show(tt a).bind _=_;rw[b];show((fe a).bind _)=_;rw[k];show(if o.str=true then _ else _)=_;rw[if_pos i,d];rfl
   . rw[List.filter_cons_of_pos hp];show o.toD::O.toDs c=_;rw[n,f];rfl
def B_{os}(h1:fi as=some (xs,as))(hl:xs.length<=1000000)(h2:xB gg tt fe (Yq cap as) xs=some os)(hs:O.strs os=true)(e:O.toDs os=zs):WE (zU fi cap gg tt fe) as (.lst zs):=by
 refine⟨.nd .ls os, ?_,hs,congrArg D.lst e⟩;unfold zU;rw[h1];show(if xs.length<=sizeLine then _ else _)=_;rw[if_pos<|JA hl,h2];rfl
def Qg(l:List α)(h1:fi as=some (l.map it,as))(hl:l.length<=1000000)(H:∀q ∈ l,∃as1,gg (it q) (Yq cap as)=some as1/\WE fe as1 (h q)):WE (zU fi cap gg yD fe) as (.lst<|l.map h):=by
 obtain⟨d,a,b,c⟩:=E7 l H;exact B_ h1 (by rw[zzB];exact hl) a b c
def Of(l:List α)(h1:fi as=some (l.map it,as))(hl:l.length<=1000000)(H:∀q ∈ l,∃as1,gg (it q) (Yq cap as)=some as1/\WT tt as1 (p q)/\(p q=true->WE fe as1 (h q))):WE (zU fi cap gg tt fe) as (.lst<|(l.filter p).map h):=by
 obtain⟨d,a,b,c⟩:=Ex l H;exact B_ h1 (by rw[zzB];exact hl) a b c
def Rt(r:Option Out)(x:D):Prop:=∃o,r=some (.rt o)/\o.str=true/\o.toD=x
def zH{n m:Nat}{c ds}(hl:ds.length=m)(h:Rt (c<|Zr n ds) x):RE (xJ n m c ds) x:=by
 obtain⟨o,a,b,d⟩:=h;exact⟨o,xo hl a,b,d⟩
def zc{f g}(h1:f as=some (.nx as1))(h2:Rt (g as1) x):Rt (zh f g as) x:=by
 obtain⟨o,e,h⟩:=h2;exact⟨o,zo h1 e,h⟩
def yk{f g}(h1:Rt (f as) x):Rt (zh f g as) x:=by
 obtain⟨o,e,h⟩:=h1;exact⟨o,wB e,h⟩
def yK{c f g}(h:WT c as true)(h1:Rt (f as) x):Rt (y6 c f g as) x:=by
 obtain⟨o,e,a⟩:=h1;exact⟨o,yL h e,a⟩
def zA(h:WE f as x):Rt (zy f as) x:=by
 obtain⟨o,b,a,c⟩:=h;refine⟨o, ?_,a,c⟩;unfold zy;rw[b];show((if o.str=true then some o else none).bind _)=_;rw[if_pos a];rfl
theorem RE.lf(h:r=some (.lf true x)):RE r x:=⟨_,h,rfl,rfl⟩
def Fs{c}(h:WT c as true)(ha:WE a as x):WE (Iq c a b) as x:=by
 obtain⟨o,d,e,f⟩:=ha;exact⟨o,by unfold Iq;unfold WT at h;rw[h];exact d,e,f⟩
def Bi{c}(h:WT c as false)(hb:WE b as x):WE (Iq c a b) as x:=by
 obtain⟨o,d,e,f⟩:=hb;exact⟨o,by unfold Iq;unfold WT at h;rw[h];exact d,e,f⟩
def Px{g}(ha:WE a as x)(hg:g [x]=some (.im z)):WE (fP (aC a aN) g) as z:=WD.e<|O3 ha hg
def lV{os}(h:WO fd as os)(hl:os.length<=1000000)(hs:O.strs os=true)(e:O.toDs os=zs):WE (yj fd) as (.tup zs):=by
 refine⟨UV os,Au h<|JA hl, ?_, ?_⟩
 . unfold UV;split
   . exact hs
   . exact hs
 . subst e;unfold UV;split
   . rfl
   . rfl
def jF{os}(h:WE a as x)(hr:WO fd as os):∃o,o.str=true/\o.toD=x/\WO (dC a fd) as (o::os):=by
 obtain⟨o,b,c,d⟩:=h;exact⟨o,c,d,De b hr⟩
def yu(ha:WE a as x)(hb:WE b as y):WE (yj<|dC a<|dC b dN) as (.tup [x,y]):=by
 obtain⟨p,c,rfl,d⟩:=jF hb yp;obtain⟨o,e,rfl,f⟩:=jF ha d;exact lV f (by show 2<=_;omega) (by show(o.str&&(p.str&&true))=true;rw[e,c];rfl) rfl
def UF{g}(ha:WE a as x)(hb:WE b as y)(hg:g x y=some (.im z)):WE (f2 a b g) as z:=WD.e<|Jv ha hb hg
end
open AutoSeq1 (wpAny_loadPart')
section
variable{X:Cx}{kd:KD}
def kh(x:D)(lo hi:Option Int):Option R0:=(nM x).bind λxs=>if lo=none/\hi=some (-1)then some (.fl xs.reverse)else none
theorem Hk:∀r:List Value,(List.range r.length).filterMap (λk=>r[k]?)=r
 | []=>rfl
 |a::r=>by
  rw[zzT,List.range_succ_eq_map,List.filterMap_cons,List.filterMap_map];show a::(List.range r.length).filterMap (λk=>r[k]?)=_;rw[Hk r]
theorem V8{α β:Type}{f g:α->Option β}:∀{l:List α},(∀a ∈ l,f a=g a)->l.filterMap f=l.filterMap g
 | [],_=>rfl
 |a::l,h=>by rw[List.filterMap_cons,List.filterMap_cons,h a zzF,V8 λb hb=>h b<|zzD _ hb]
def Dq(l:List Value):slicePick l.toArray none none (some (-1))=l.reverse.toArray:=by
 have e:sliceBounds none none (some (-1)) l.toArray.size=((l.length:Int)-1, -1, -1):=by
  rw[zzH];rfl
 unfold slicePick;rw[e];have e2:(sliceRange ((l.length:Int)-1) (-1) (-1))=(List.range l.length).map λk=>l.length-1-k:=by
  unfold sliceRange;rw[if_neg<|by decide]
  rcases Nat.eq_zero_or_pos l.length with h|h
  . rw[h];rfl
  . rw[if_pos (by omega),Int.neg_neg,Int.ediv_one];have:((l.length:Int)-1 - -1 - -1-1).toNat=l.length:=by omega
    show List.map _ _=_;rw[this];refine List.map_congr_left λk hk=>?_;have:=List.mem_range.mp hk;omega
 rw[e2]
 congr 1
 rw[List.filterMap_map];have e3:(List.range l.length).filterMap (λk=>l.toArray[l.length-1-k]?)=(List.range l.reverse.length).filterMap (λk=>l.reverse[k]?):=by
  rw[List.length_reverse];refine V8 λk hk=>?_;rw[List.getElem?_reverse<|List.mem_range.mp hk];simp
 exact e3.trans<|Hk _
def rJ{K O H vs ds}(r:RpL K kd O H vs ds):RpL K kd O H vs.reverse ds.reverse:=RpL.ind (P:=λvs ds=>RpL K kd O H vs.reverse ds.reverse) .nil (λa _ ih=>by
 rw[List.reverse_cons,List.reverse_cons];exact ih.append<|.cons a .nil) r
def m3{e st te th p2 pos}(he:PE X e te)(hst:PO X (some st) th):PE X (.Subscript e (.Slice none none (some st) p2) pos)
 (cP (λx lo u H Q=>∃a xs,x = .ref a/\VX X.K H a xs/\u=some (-1)/\∀p,H p=none->Q (.ref p) (upd H p<|.lst xs.reverse)) te CB th):=by
 intro pins s σ H Q I h;refine Subscript_<|wo (he pins s σ H _ I h) λv s1 ⟨x,H1,I1,r1,q1⟩=>?_;refine wpAny_Slice ?_;rw[evalPart_none];refine zxG<|zxG<|wo (hst pins s1 σ H1 _ I1 q1) λvu s3 ⟨u,H3,I3,pu,q3⟩=>?_;have I4:Inv X pins σ H3 {s3 with heap:=s3.heap.push {cls:=.type "slice",data:=.fields #[.none,.none,vu]}}:=I3.kept (t':=s3.toks) λb ob q=>zxH _ q;obtain⟨a,xs,rfl,hx,rfl,q⟩:=q3;cases r1;obtain⟨its,r',pl,hz⟩:=I4.list hx;have hlen:=r'.length;refine tail_any pl.isList.typeIs slot_list_getitem.lookup (wpAny_getItem_list_slice pl.isList (Heap.IsSliceOf.new ..) .none .none pu (by decide) ?_<|by rw[zzH];exact q0r hlen hz) (by with_unfolding_all rfl);rw[Dq];exact⟨.ref _,_,I4.lnew (t':=s3.toks) r'.reverse (by rw[List.length_reverse];exact hz),rfl,q _ I4.fresh⟩
def mZ{a st fa fs pos p2}(ha:AE X kd a fa)(hs:AE X kd st fs):AE X kd (.Subscript a (.Slice none none (some st) p2) pos) (Rj fa oN (oS fs) kh):=by with_unfolding_all exact(yn (m3 ha<|K4 hs) λσ H Q h=>by
 obtain⟨F,B,ad,as,r,as',R,e,q⟩:=h;obtain⟨⟨p,as1⟩,h1,e⟩:=bS_<|e;obtain⟨⟨l,as2⟩,h2,e⟩:=bS_ e;cases h2;obtain⟨⟨u,as3⟩,h3,e⟩:=bS_ e;obtain⟨⟨d,lv⟩,h4,e⟩:=bS_ e;obtain⟨r',h5,e⟩:=bS_ e;obtain⟨z,h6,e⟩:=bS_ e;cases e;obtain⟨xs,h7,h5⟩:=bS_<|h5;obtain⟨c,e5⟩:=zv h5;cases e5;refine vU R h1 λv ad1 H1 R1 rv1 g1=>⟨F,B,ad1,as1,u,_,R1,h3,λad3 H3 R3 g3=>?_⟩;have vx:=xl.vw R3 (rv1.grow g3) h4;have rq:=YE R3 h6 λw T' H' R' rv' g'=>q w T' ad3 H' R' rv'<|(g1.trans g3).trans g';cases TX h7;cases vx with
 |lst hr rl=>exact⟨_,_,rfl,hr.sq,c.2,Tv rq<|rJ rl⟩)
end
def rd(n:Nat)(K:zzA)(kd:KD)(F B:Addr->Prop)(ad:Ad)(σ:St)(H:Hp)(D:Ends):Out->Prop
 | .nx as'=>∀σ' ad' H',(∀i,i<n->σ'[i]? = σ[i]?)->Rel K kd F B [] ad' as' σ' H'->Grow (Gw [] ad) H (Gw [] ad') H'->D.nx σ' H'
 | .bk as'=>∀σ' ad' H',(∀i,i<n->σ'[i]? = σ[i]?)->Rel K kd F B [] ad' as' σ' H'->Grow (Gw [] ad) H (Gw [] ad') H'->D.bk σ' H'
 | .ct as'=>∀σ' ad' H',(∀i,i<n->σ'[i]? = σ[i]?)->Rel K kd F B [] ad' as' σ' H'->Grow (Gw [] ad) H (Gw [] ad') H'->D.ct σ' H'
 | .rt _=>False
def bp(n:Nat)(K:zzA)(kd:KD)(f:SF):TS:=λD σ H=>∃F B ad as o,Rel K kd F B [] ad as σ H/\f as=some o/\rd n K kd F B ad σ H D o
@[irreducible] def AP(X:Cx)(kd:KD)(n:Nat)(st:Stmt)(f:SF):Prop:=PS X st<|bp n X.K kd f
@[irreducible] def p5(X:Cx)(kd:KD)(n:Nat)(st:List Stmt)(f:SF):Prop:=FI X st<|bp n X.K kd f
def rd.pre{n:Nat}{K ad ad1 D}(s:∀i,i<n->σ1[i]? = σ[i]?)(g:Grow (Gw [] ad) H (Gw [] ad1) H1)(h:rd n K kd F B ad σ H D o):rd n K kd F B ad1 σ1 H1 D o:=by
 cases o with
 |nx as=>exact λσ' ad' H' s' R g'=>h σ' ad' H' (λi hi=>(s' i hi).trans<|s i hi) R (g.trans g')
 |bk as=>exact λσ' ad' H' s' R g'=>h σ' ad' H' (λi hi=>(s' i hi).trans<|s i hi) R (g.trans g')
 |ct as=>exact λσ' ad' H' s' R g'=>h σ' ad' H' (λi hi=>(s' i hi).trans<|s i hi) R (g.trans g')
 |rt _=>exact h
section
variable{X:Cx}{kd:KD}{n:Nat}{e c tg iter:Expr}{st:Stmt}{rest sts body:List Stmt}{fa:EF}{ta:TF}{f g:SF}{pos pos':Pos}
def CU:p5 X kd n [] yX:=by with_unfolding_all exact(Xp BP λD σ H h=>by
 obtain⟨F,B,a,as,o,R,e,q⟩:=h;cases e;exact q σ a H (λ_ _=>rfl) R Grow.refl)
def Ly(h1:AP X kd n st f)(h2:p5 X kd n rest g):p5 X kd n (st::rest) (zh f g):=by with_unfolding_all exact(Xp (Wi h1 h2) λD σ H h=>by
 obtain⟨F,B,ad,as,o,R,e,q⟩:=h;obtain⟨o1,e1,e⟩:=bS_<|e;refine⟨F,B,ad,as,o1,R,e1, ?_⟩;cases o1 with
 |nx as1=>exact λσ' ad' H' s' R' g'=>⟨F,B,ad',as1,o,R',e,q.pre s' g'⟩
 |bk as1=>cases e;exact q
 |ct as1=>cases e;exact q
 |rt r=>cases e;exact q)
def Pb(h1:AP X kd n st f):p5 X kd n [st] f:=by with_unfolding_all exact(PV h1)
def pL(hc:AT X kd c ta)(ha:p5 X kd n sts f)(hb:p5 X kd n rest g):AP X kd n (.If c sts rest pos) (y6 ta f g):=by with_unfolding_all exact(x6 (AX hc ha hb) λD σ H h=>by
 obtain⟨F,B,i,as,o,R,e,q⟩:=h;obtain⟨⟨p,a⟩,j,e⟩:=bS_<|e;refine⟨F,B,i,as,p,a,R,j,λb k d g=>?_⟩;cases p with
 |true=>exact⟨F,B,b,a,o,d,e,q.pre (λ_ _=>rfl) g⟩
 |false=>exact⟨F,B,b,a,o,d,e,q.pre (λ_ _=>rfl) g⟩)
def FF(he:AE X kd e fa)(hs:swapsWith e none pos.line X.env=pure false):AP X kd n (.Expr e pos) (yo fa):=by with_unfolding_all exact(x6 (P2 he hs) λD σ H h=>by
 obtain⟨F,B,c,as,o,R,e,q⟩:=h;obtain⟨⟨p,a⟩,d,e⟩:=bS_<|e;cases e;exact⟨F,B,c,as,p,a,R,d,λv j b f i k g=>q σ b f (λ_ _=>rfl) i.drop<|g.trans<|Grow.less Gw.drop⟩)
def nJ{i:Nat}(hn:n<=i)(hN:X.N.Nodup)(hi:X.N[i]? = some x)(hx:Loc X.env.scope x)(he:AE X kd e fa)(hs:swapsWith e (some<|.Name x pos') pos.line X.env=pure false)(hf:X.fn x=true\/X.env.scope.names.lookup x=some .local):
 AP X kd n (.Assign [.Name x pos'] e pos) (zr z i fa):=by with_unfolding_all exact(x6 (D_ hN hi hx he hs hf) λD σ H h=>by
 obtain⟨F,B,c,as,o,R,e,q⟩:=h;obtain⟨⟨p,a⟩,d,e⟩:=bS_<|e;obtain⟨⟨y,f⟩,j,e⟩:=bS_ e;obtain⟨l,e⟩:=zv e;cases e;refine⟨F,B,c,as,p,a,R,d,λv w m r s t g=>?_⟩;obtain⟨b,R2,u⟩:=HM s t j l;exact q _ b r (λk A=>zzY<|q0x A hn) R2<|g.trans<|Grow.less u)
def DP(hS:∀i,i<n->i ∉ S)(hp:PassesOwn (model X.prog X.w) X.A X.env X.xe)(hc:X.calm=true)(hi:AI X kd tg iter fi)(hg:AG X kd tg S gt)(hb:p5 X kd n body f)(hs:∀x,foldedSetIterable iter X.env x=pure x):
 AP X kd n (.For tg iter body [] pos) (yC fi gt f):=by with_unfolding_all exact(x6 (D8 hp hc hi hg hb hs) λD σ H h=>by
 obtain⟨F,B,ad,as,o,R,e,q⟩:=h;obtain⟨⟨ds,as1⟩,h1,e⟩:=bS_<|e;refine⟨F,B,ad,as,ds,as1,R,h1,λJ ad1 H1 R1 g1 it=>?_⟩;refine⟨λi m σ2 H2=>m+i=ds.length/\∃ad2 as2,(∀k,k<n->σ2[k]? = σ[k]?)/\Rel X.K kd F B [] ad2 as2 σ2 H2/\Grow _ H1 (Gw [] ad2) H2/\forL gt f (ds.drop i) as2=some o,⟨ds.length,rfl,ad1,as1,λ_ _=>rfl,R1,Grow.refl,e⟩, ?_⟩
 rintro i m σ2 H2 ⟨hm,ad2,as2,s2,R2,g2,e2⟩
 obtain⟨k1,k2,k3⟩:=it.all ad2 H2 g2 R2.trk i
 by_cases hi:i<ds.length
 . refine .inr ⟨k1 hi,λσ3 H3=>∃ad3 as3,_/\Rel X.K kd F B [] ad3 as3 σ3 H3/\Grow _ H1 _ H3/\forL gt f _ as3=some o,λσ3 H3 ⟨ad3,as3,s3,R3,g3,e3⟩=>⟨m-1,q0q hm hi,q0k hm hi,ad3,as3,s3,R3,g3,e3⟩,λv H3 hy=>?_⟩;obtain⟨kp,rp⟩:=k3 v H3 hy;rw[zyQ hi]at e2;obtain⟨as3,e3,e2⟩:=bS_<|e2;obtain⟨o3,e4,e2⟩:=bS_ e2;obtain⟨R3,g3⟩:=R2.more kp;refine⟨F,B,ad2,as2,_,as3,R3,rp _<|zzE hi,e3,λσ4 ad4 H4 R4 g4 s4=>?_⟩;refine⟨F,B,ad4,as3,o3,R4,e4, ?_⟩;have gg:=(g2.trans g3).trans g4;have s4':∀k,k<n->σ4[k]? = σ[k]? := λk hk=>(s4 k<|hS k hk).trans<|s2 k hk;cases o3 with
   |nx as5=>exact λσ5 ad5 H5 s5 R5 g5=>⟨ad5,as5,λk hk=>(s5 k hk).trans<|s4' k hk,R5,gg.trans g5,e2⟩
   |ct as5=>exact λσ5 ad5 H5 s5 R5 g5=>⟨ad5,as5,λk hk=>(s5 k hk).trans<|s4' k hk,R5,gg.trans g5,e2⟩
   |bk as5=>
    cases e2;exact λσ5 ad5 H5 s5 R5 g5=>q σ5 ad5 H5 (λk hk=>(s5 k hk).trans<|s4' k hk) R5 (g1.trans<|gg.trans g5)
   |rt r=>cases e2;exact q.elim
 . refine .inl ⟨k2<|q0n hm hi, ?_⟩;rw[List.drop_eq_nil_of_le<|q0n hm hi]at e2;cases e2;exact q σ2 ad2 H2 s2 R2<|g1.trans g2)
end
section
variable{K:zzA}{kd:KD}{F B:Addr->Prop}{ad:Ad}{as:AS}{σ:St}{H H':Hp}
def G1(G:Addr->Prop)(T T':List Addr):Addr->Prop:=λa=>(G a/\a ∉ T)\/a ∈ T'
def Rel.chg1{i:Nat}(R:Rel K kd F B [] ad as σ H)(hi:i<as.length)(s0:σ[i]? = some (some v0))(nd:T0.Nodup)
 (sub:∀a ∈ T0,a ∈ ad i\/H a=none) (kp:∀c u,H c=some u->c ∉ ad i->H' c=some u) (al:∀a ∈ T0,H' a≠none)
 (r0:Xj K kd F B (G1 (Gw [] ad) (ad i) T0) H' v0 o0 T0):
 Rel K kd F B [] (Yk ad i T0) (as.set i<|some o0) σ H'/\Grow (Gw [] ad) H (Gw []<|Yk ad i T0) H':=by
 have v:Yk ad i T0 i=T0:=zX;have q:∀k,k≠i->Yk ad i T0 k=ad k:=λk h=>yb h;have r:∀k a,k≠i->a ∈ ad k->a ∉ ad i:=λk a h m z=>h<|R.inj k i a m z;have C:∀a,Gw [] (Yk ad i T0) a->G1 (Gw [] ad) (ad i) T0 a:=λa z=>by
  rcases z with z|⟨k,z⟩
  . exact nomatch z
  . by_cases e:k=i
    . subst e;rw[v]at z;exact .inr z
    . rw[q k e]at z;exact .inl ⟨.inr ⟨k,z⟩,r k a e z⟩
 have A:=λk a h m z=>(sub a z).elim (r k a h m) λy=>(R.gtr a<|.inr ⟨k,m⟩).1 y;have g:Grow _ H _ H':=⟨λb o h n=>kp b o h λz=>n<|.inr ⟨i,z⟩,λb z=>(C b z).elim (λy=>.inl y.1) λy=>(sub b y).elim (λx=>.inl<|.inr ⟨i,x⟩) .inr⟩;have D:∀a,H a≠none->a ∉ ad i->H' a≠none:=λa h n=>by
  cases e:H a with
  |none=>exact absurd e h
  |some u=>rw[kp a u e n];simp
 have d:∀a,a ∈ ad i->Gw [] ad a:=λa z=>.inr ⟨i,z⟩;refine⟨⟨by rw[zzU];exact R.len,λk I=>?_,λk=>?_,λk l a j p=>?_,zyJ,(λ_ _ _ z=>nomatch z),λa z=>D a (R.ftr a z) λy=>(R.gtr a<|d a y).2 z,λa z=>?_,λa z=>?_,λk s e=>?_⟩,g⟩
 . rw[zzU]at I;rw[q k<|q0x hi I];exact R.out k I
 . by_cases e:k=i
   . subst e;rw[v];exact nd
   . rw[q k e];exact R.nd k
 . by_cases e:k=i
   . subst e;rw[v]at j
     by_cases E:l=k
     . exact E.symm
     . rw[q l E]at p;exact absurd j<|A l a E p
   . rw[q k e]at j
     by_cases t:l=i
     . subst t;rw[v]at p;exact absurd p<|A k a e j
     . rw[q l t]at p;exact R.inj k l a j p
 . obtain⟨j,p,G⟩:=R.btr a z;refine⟨D a j λy=>G<|d a y,p,λy=>(C a y).elim (λx=>G x.1) λx=>(sub a x).elim (λw=>G<|d a w) j⟩
 . rcases C a z with⟨y,n⟩|y
   . exact⟨D a (R.gtr a y).1 n,(R.gtr a y).2⟩
   . exact⟨al a y,(sub a y).elim (λw=>(R.gtr a<|d a w).2) λw f=>R.ftr a f w⟩
 . by_cases t:k=i
   . subst t;rw[zyK hi]at e;cases e;rw[v];exact⟨v0,s0,Xj.lv (λJ a z=>z.imp id<|C a) r0⟩
   . rw[zzY λz=>t z.symm]at e;rw[q k t];exact(R.sl k s e).grow g λa m u h=>kp a u h<|r k a t m
end
def Ap(K:zzA)(kd:KD)(g:List Zj->O->Option O):Sp:=λvs H Q _=>∃(F B G:Addr->Prop) (T:List Addr) (ws:List V) (v:V) (xs:List Zj) (o r:O),vs=ws++[v]/\(∀a,F a->H a≠none)/\(∀a,B a->H a≠none/\¬F a/\¬G a)/\(∀a,G a->H a≠none/\¬F a)/\
 T.Nodup/\(∀a ∈ T,G a)/\RpI K kd F B G H ws xs/\Xj K kd F B G H v o T/\g xs o=some r/\
 ∀(H':Hp) (T':List Addr),(∀c u,H c=some u->c ∉ T->H' c=some u)->T'.Nodup->(∀a ∈ T',a ∈ T\/H a=none)->(∀a ∈ T',H' a≠none)->Xj K kd F B (G1 G T T') H' v r T'->Q .non H'
noncomputable def B6(i:Nat):List RV->Option (List Zj)
 | []=>none
 |r::rs=>match r with
  | .bo j=>if j=i/\rs.isEmpty=true then some []else none
  | .ow (.lf st d)=>(B6 i rs).bind λxs=>some ((st,d)::xs)
  | .ow (.nd _ _)=>none
theorem Sv{K ad}{i:Nat}:∀{rs:List RV}{vs:List V}{xs:List Zj},RVs K kd F B ad σ H vs rs->B6 i rs=some xs->∃ws v,vs=ws++[v]/\RpI K kd F B (Gw [] ad) H ws xs/\σ[i]? = some (some v)
 | [],_,_,_,e=>by cases e
 |r::rs,_,xs,h,e=>by
  cases h with
  |cons hv hr=>
   rename_i v vs;cases r with
   |bo j=>
    have e:=e;obtain⟨⟨e1,e2⟩,e3⟩:=zv e;cases e3;rw[List.isEmpty_iff]at e2;subst e1 e2;cases hr;exact⟨[],v,rfl,.nil,hv.2⟩
   |ow o=>
    cases o with
    |lf st d=>
     obtain⟨ys,e1,e⟩:=bS_<|e;cases e;obtain⟨ws,w,rfl,h1,h2⟩:=Sv hr e1;have hv:=hv;cases hv with
     |lf rp=>exact⟨v::ws,w,rfl,.cons rp h1,h2⟩
    |nd k os=>cases e
def WZ(i:Nat)(fr:AF)(g:List Zj->O->Option O):SF:=λas=>(fr as).bind λp=>(B6 i p.1).bind λxs=>(p.2[i]?).bind λa=>a.bind λo=>(g xs o).bind λr=>some<|.nx<|p.2.set i<|some r
section
variable{X:Cx}{kd:KD}{e:Expr}{es:List Expr}{fr:AF}{pos pos':Pos}
def S3{n i k:Nat}{f}(F:FnOk X.prog X.w X.K X.mg X.base wV k f fdt ps (Ap X.K kd g))(hr:Room k X.A)(hg:Gl X x)(hm:X.mg x=some (.ref f))(hk:W.keepIn X.K (.ref f)=true)
 (hb:Binds X.K fdt ps []) (hx:vq wV X (λ_ _ _=>False)) (ha:AA X kd (e::es) fr) (hdb:(x==("__debug__":Str))=false) (he:starEach (e::es) X.env=(false,eval e X.env)::starEach es X.env) (hpl:(backTo pos<|starEach es X.env).any (·.1)=false)
 (hs:swapsWith (.Call (.Name x p) (e::es) [] pos) none pos'.line X.env=pure false):
 AP X kd n (.Expr (.Call (.Name x p) (e::es) [] pos) pos') (WZ i fr g):=by
 with_unfolding_all exact(x6 (P2 (Iz F hr hg hm hk hb .nil hx ha hdb he hpl) hs) λD σ H h=>by
  obtain⟨F,B,I,as,o,R,e,q⟩:=h;obtain⟨⟨J,d⟩,L,M⟩:=bS_<|e;obtain⟨N,P,Q⟩:=bS_ M;obtain⟨a,z,S⟩:=bS_ Q;obtain⟨T,U,V⟩:=bS_ S;obtain⟨r,j,Y⟩:=bS_ V;subst U;have l:=zzZ Y;refine(⟨F,B,I,as,J,d,R,L,λvs c Z b s g1=>?_⟩);obtain⟨C,v,rfl,t,E⟩:=Sv s P;obtain⟨w0,G,u⟩:=b.sl i _ z;rw[E]at G;cases G;rw[zyE];refine⟨F,B,Gw [] c,c i,C,v,N,T,r,rfl,b.ftr,b.btr,b.gtr,b.nd i,λa m=>.inr ⟨i,m⟩,t,u,j,λH' T' kp nd y al r0=>?_⟩;obtain⟨R3,g3⟩:=b.chg1 (zzG.mp z).1 E nd y kp al r0;subst l;exact q σ _ _ (λ_ _=>rfl) R3<|g1.trans g3)
def uz{i k:Nat}(F:FnOk X.prog X.w X.K X.mg X.base wV k f fdt ps (Ap X.K kd g))(hr:Room k X.A)(hg:Gl X x)(hm:X.mg x=some (.ref f))(hk:W.keepIn X.K (.ref f)=true)
 (hb:Binds X.K fdt ps []) (hx:vq wV X (λ_ _ _=>False)) (ha:AA X kd (e::es) fr) (hdb:(x==("__debug__":Str))=false) (he:starEach (e::es) X.env=(false,eval e X.env)::starEach es X.env) (hpl:(backTo pos<|starEach es X.env).any (·.1)=false)
 (hs:swapsWith (.Call (.Name x p) (e::es) [] pos) none pos'.line X.env=pure false):
 HK X kd (.Expr (.Call (.Name x p) (e::es) [] pos) pos') (WZ i fr g):=by
 have h:=S3 (n:=0) (i:=i) F hr hg hm hk hb hx ha hdb he hpl hs
 with_unfolding_all exact(x6 h λD σ H h=>by
  obtain⟨F,B,ad,as,o,R,e,q⟩:=h;refine⟨F,B,ad,as,o,R,e, ?_⟩;cases o with
  |nx as'=>exact λσ' ad' H' _ R' g'=>q σ' ad' H' R' g'
  |bk as'=>exact λσ' ad' H' _ R' g'=>q σ' ad' H' R' g'
  |ct as'=>exact λσ' ad' H' _ R' g'=>q σ' ad' H' R' g'
  |rt r=>
   obtain⟨⟨rs,as1⟩,h1,e1⟩:=bS_<|e;obtain⟨xs,h2,e2⟩:=bS_ e1;obtain⟨a,ka,e3⟩:=bS_ e2;obtain⟨o0,qa,e4⟩:=bS_ e3;obtain⟨r,hgr,e5⟩:=bS_ e4;cases e5)
end
def br(n:Nat)(K:zzA)(kd:KD)(f:SF):TS:=λD σ H=>∃F B ad as as',Rel K kd F B [] ad as σ H/\f as=some (.nx as')/\∀σ' ad' H',(∀i,i<n->σ'[i]? = σ[i]?)->Rel K kd F B [] ad' as' σ' H'->Grow (Gw [] ad) H (Gw [] ad') H'->D.nx σ' H'/\D.rt .non H'
@[irreducible] def cn(X:Cx)(kd:KD)(n:Nat)(st:List Stmt)(f:SF):Prop:=FI X st<|br n X.K kd f
section
variable{X:Cx}{kd:KD}{n:Nat}{c:Expr}{st:Stmt}{rest:List Stmt}{ta:TF}{f g:SF}{pos pos':Pos}
def Jr(hc:AT X kd c ta)(ha:AP X kd n st f)(hb:p5 X kd n rest g):cn X kd n (.If c [st,.Return none pos'] [] pos::rest) (y6 ta f g):=by
 with_unfolding_all exact(Xp (Wi (AX hc (Wi ha<|PV tK) BP) hb) λD σ H h=>by
  obtain⟨F,B,r,as,s,R,e,q⟩:=h;obtain⟨⟨p,a⟩,t,e⟩:=bS_<|e;refine⟨F,B,r,as,p,a,R,t,λd u m o=>?_⟩;cases p with
  |true=>exact⟨F,B,d,a,_,m,e,λi b j k R2 l=>(q i b j k R2<|o.trans l).2⟩
  |false=>exact⟨F,B,d,a,_,m,e,λi b j k R2 l=>(q i b j k R2<|o.trans l).1⟩)
end
noncomputable def Rx(n:Nat)(xs:List Zj)(o:O):AS:=(xs.map λx=>some<|O.lf x.1 x.2)++some o::List.replicate (n-(xs.length+1)) none
def gL(n m:Nat)(c:SF)(xs:List Zj)(o:O):Option O:=if xs.length+1=m then(c<|Rx n xs o).bind λout=>match out with
 | .nx as=>(as[xs.length]?).bind id
 |_=>none
 else none
def oU(k:Nat)(T:List Addr):Ad:=λi=>if i=k then T else[]
def T7{k:Nat}:Gw [] (oU k T) a ↔ a ∈ T:=by
 constructor
 . rintro(z|⟨i,z⟩)
   . exact nomatch z
   . unfold oU at z
     by_cases e:i=k
     . rw[if_pos e]at z;exact z
     . rw[if_neg e]at z;exact nomatch z
 . intro z;exact .inr ⟨k,by unfold oU;rw[if_pos rfl];exact z⟩
theorem Lb{K}:∀{vs:List V}{xs:List Zj},RpI K kd F B G H vs xs->vs.length=xs.length
 |_,_,.nil=>rfl
 |_,_,.cons _ h=>congrArg Nat.succ<|Lb h
theorem CG{K}:∀{vs:List V}{xs:List Zj}{i:Nat}{x:Zj},RpI K kd F B G H vs xs->xs[i]? = some x->∃v,vs[i]? = some v/\Rp K kd (Lv F B G x.1) H v x.2
 |_,_,i,x,.nil,e=>by cases e
 |_,_,0,x,.cons r h,e=>by cases e;exact⟨_,rfl,r⟩
 |_,_,i+1,x,.cons r h,e=>CG (i:=i) h e
def HZ{K}(hN:xs.length+1<=N.length)(ht:∀a,F a->H a≠none)(hB:∀a,B a->H a≠none/\¬F a/\¬G a)(hG:∀a,G a->H a≠none/\¬F a)(nd:T.Nodup)(hT:∀a ∈ T,G a)
 (rpi:RpI K kd F B G H ws xs) (r0:Xj K kd F B G H v o T):Rel K kd F (λa=>B a\/(G a/\a ∉ T)) [] (oU xs.length T) (Rx N.length xs o) (L2.start N<|ws++[v]) H:=by
 have d:=Lb rpi;have k:∀c a,Lv F (λa=>B a\/(G a/\a ∉ T)) (Gw []<|oU xs.length T) c a->Lv F B G c a:=λc a z=>by
  rcases z with(z|z|z)|z
  . exact .inl<|.inl z
  . exact .inl<|.inr z
  . exact .inr z.1
  . exact .inr<|hT a<|T7.mp z
 have b:∀i,i≠xs.length->oU xs.length T i=[]:=λi h=>if_neg h;have f:oU xs.length T xs.length=T:=if_pos rfl;have l:(Rx N.length xs o).length=N.length:=by unfold Rx;simp;omega
 have c:L2.start N (ws++[v])=ws.map some++some v::List.replicate (N.length-(xs.length+1)) none:=by
  unfold L2.start;simp[d]
 refine⟨by rw[l,c];simp[d];omega,λi t=>b i (by omega),λi=>?_,λi j a x y=>?_,zyJ,(λ_ _ _ z=>nomatch z),ht,λa z=>?_,λa z=>hG a<|hT a<|T7.mp z,λi s e=>?_⟩
 . by_cases h:i=xs.length
   . subst h;rw[f];exact nd
   . rw[b i h];exact zyJ
 . by_cases h:i=xs.length
   . by_cases g:j=xs.length
     . rw[h,g]
     . rw[b j g]at y;exact nomatch y
   . rw[b i h]at x;exact nomatch x
 . rcases z with z|z
   . exact⟨(hB a z).1,(hB a z).2.1,λy=>(hB a z).2.2<|hT a<|T7.mp y⟩
   . exact⟨(hG a z.1).1,(hG a z.1).2,λy=>z.2<|T7.mp y⟩
 . rw[c];unfold Rx at e
   by_cases h:i<xs.length
   . rw[zyP (by rw[zzB];exact h),zzI]at e;obtain⟨x,m,rfl⟩:=zzX.mp e;obtain⟨u,n,p⟩:=CG rpi m;rw[b i (by omega),zyP (by rw[zzB,d];exact h),zzI,n];exact⟨u,rfl,.lf<|p.less<|k x.1⟩
   . rw[zyR (by rw[zzB];exact q0S d h),zzB]at e;rw[zyR (by rw[zzB,d];exact q0S d h),zzB,d]
     by_cases g:i=xs.length
     . subst g;rw[Nat.sub_self]at e ⊢;cases e;rw[f];exact⟨v,rfl,Xj.lv k r0⟩
     . rw[b i g];obtain⟨j,q⟩:∃j,i-xs.length=j+1:=⟨i-xs.length-1,by omega⟩;rw[q]at e;have e:=e;have r:=(List.mem_replicate.mp<|zyA e).2;subst r;rfl
section
variable{P:Program}{w:World}{K:zzA}{mg:Str->Option Value}{base:Heap}
def oA{kd st}{k:Nat}(Fn:Fun K x qual st f fd)(S:FnScope N ps (zd st))(hN:ps.length<=N.length)
 (hb:∀(cdv:Value) (A:Around) (outer:List Env) (s:Shared) (H:Hp) (E:XK),Room k (A.deeper<|envOfC qual (zd st) s.heap.objs.size f cdv)->cn (L5 wV P w K mg base N qual (zd st) f cdv A outer s H E).nox kd ps.length (ZL st) c):
 FnOk P w K mg base wV (k+1) f fd ps (Ap K kd<|gL N.length ps.length c):=by
 with_unfolding_all (
 refine Fn.ok S (λX H Q E h=>?_) λy A j s H X Q E Y h=>⟨_,hb y A j s H E Y, ?_⟩
 . obtain⟨F,B,G,T,I,v,d,o,r,rfl,J,L,M,nd,O,i,U,e,q⟩:=h;unfold gL at e
   by_cases p:d.length+1=ps.length
   . rw[zzJ,Lb i];exact p
   . rw[if_neg p]at e;cases e
 . obtain⟨F,B,G,T,I,v,d,o,r,rfl,J,L,M,nd,O,i,U,e,q⟩:=h;unfold gL at e
   by_cases p:d.length+1=ps.length
   . rw[if_pos p]at e;obtain⟨C,Z,V⟩:=bS_ e;cases C with
     |nx as=>
      obtain⟨a,k0,e3⟩:=bS_ V;have e4:=e3;subst e4;refine⟨F,_,_,Rx N.length d o,as,HZ (q0U p hN) J L M nd O i U,Z,λσ' b H' sp R g=>?_⟩;obtain⟨u0,W,t0⟩:=R.sl d.length _ k0;rw[sp d.length<|by omega]at W;have sv:(L2.start N<|I++[v])[d.length]? = some (some v):=by
       have wl:=Lb i;unfold L2.start;rw[<-wl];simp
      cases(sv.symm.trans W);have l:∀a,a ∈ b d.length->Gw [] b a:=λa z=>.inr ⟨_,z⟩;have lv:∀D a,Lv F B (G1 G T _) D a->Lv F (λa=>B a\/_) _ D a:=λD a z=>by
       rcases z with(z|z)|z|z
       . exact .inl<|.inl z
       . exact .inl<|.inr<|.inl z
       . exact .inl<|.inr<|.inr z
       . exact .inr<|l a z
      have t:=q H' _ (λc u h n=>g.keep c u h λz=>n<|T7.mp z) (R.nd _) (λa m=>(g.own a<|l a m).imp T7.mp id) (λa m=>(R.gtr a<|l a m).1)<|Xj.lv lv t0;exact⟨t,t⟩
     |_=>cases V
   . rw[if_neg p]at e;cases e)
end
section
variable{X:Cx}{kd:KD}{n:Nat}
def ko(z)(i:Nat)(hn:n<=i)(hN:X.N.Nodup)(he:AE X kd e fa)(hi:X.N[i]? = some x:=by rfl)(hx:Loc X.env.scope x:=by first|exact Or.inl rfl|exact Or.inr rfl)(hs:swapsWith e (some<|.Name x pos') pos.line X.env=pure false:=by rfl)(hf:X.fn x=true\/X.env.scope.names.lookup x=some .local:=by first|exact Or.inl rfl|exact Or.inr rfl):
 AP X kd n (.Assign [.Name x pos'] e pos) (zr z i fa):=nJ hn hN hi hx he hs hf
end
section
variable{P:Program}{w:World}{K:zzA}{mg:Str->Option Value}{base:Heap}{kd:KD}
def DK{k:Nat}:FnOk P w K mg base wV k f fd ps (Ap K kd λ_ _=>none):=
 ⟨λc H Q E h=>(by obtain⟨_,_,_,_,_,_,_,_,_,_,_,_,_,_,_,_,_,e,_⟩:=h;cases e),λA a s H b d c Q E _ _ _ _ h=>(by obtain⟨_,_,_,_,_,_,_,_,_,_,_,_,_,_,_,_,_,e,_⟩:=h;cases e)⟩
end
def oC(f:EF):EF:=λas=>(f as).bind λp=>some (p.1.frz,p.2)
def kO(h:AE X kd e fa):AE X kd e (oC fa):=by with_unfolding_all exact(yn h λσ H Q q=>by
 obtain⟨F,B,ad,as,r,as',R,e,k⟩:=q;obtain⟨⟨p,as1⟩,h1,e⟩:=bS_<|e;cases e;exact⟨F,B,ad,as,p,as1,R,h1,λv T' ad' H' R' rv g=>k v [] ad' H' R'.drop (xl.drop R' rv)<|g.trans<|Grow.less Gw.drop⟩)
section
variable{X:Cx}{kd:KD}{P:Program}{w:World}{K:zzA}{a b e o:Expr}{es:List Expr}{fa fb fo:EF}{fr:AF}{fd_:DF}{pos p apos:Pos}{k n:Nat}
def wb(h1:sc.kind = .function:=by rfl)(h2:sc.isCoroutine=false:=by rfl)(h3:sc.isGenerator=false:=by rfl)(h4:N.Nodup:=by decide +kernel)(h5:N.take Ps.length=Ps:=by rfl)(h6:∀x ∈ Ps,sc.names.lookup x=some .local\/sc.names.lookup x=some .cell:=by decide +kernel)(h7:∀y ∈ sc.names,y.2 ≠ .free:=by decide +kernel):FnScope N Ps sc:=⟨h1,h2,h3,h4,h5,h6,h7⟩
def bs{st}(F:Fun K x qual st f fd)
 (h:∀(kV doc pm:Value) (an:Option Addr) (cdv ct:Value) (us:List Value),us.length=ps.length->bindArgs (W.fnOf x qual (K_ st) (ZL st) (zd st) .none kV doc pm an cdv ct) ⟨us,[]⟩=pure (ps.zip us):=by first|exact λ_ _ _ _ _ _=>af λ_=>rfl|exact λ_ _ _ _ _ _=>bw λ_ _=>rfl|exact λ_ _ _ _ _ _=>bH λ_ _ _=>rfl|exact λ_ _ _ _ _ _=>b_ λ_ _ _ _=>rfl|exact λ_ _ _ _ _ _=>bV λ_ _ _ _ _=>rfl|exact λ_ _ _ _ _ _=>l6_ λ_ _ _ _ _ _=>rfl):Binds K fd ps []:=F.binds h
def bc(ha:AE X kd a fa)(hr:AA X kd es fr)(hs:isStar a=false:=by rfl):AA X kd (a::es) (aC fa fr):=sD ha hr<|EL hs
def bd(ha:AE X kd a fa)(hr:AD X kd es fd_)(hs:isStar a=false:=by rfl):AD X kd (a::es) (dC fa fd_):=sZ ha hr<|EL hs
def bn{op}(ha:AE X kd a fa)(hb:AE X kd b fb):AE X kd (.BinOp a op b pos) (f2 fa fb<|Y4 op):=lL (mH op) ha hb
def tc{op}(hkd:u6 P w K kd)(hr:Room k X.A)(ha:AE X kd a fa)(hb:AE X kd b fb)(h1:X.prog=P:=by rfl)(h2:X.w=w:=by rfl)(h3:X.K=K:=by rfl)(hm:behindInMarks op b=false:=by exact uo _):AT X kd (.Compare a [op] [b] pos) (fT<|f2 fa fb<|zz op):=o6 (Ga (hkd _ h1 h2 h3) (N2 hr) op) (qC op) ha hb hm
def ec{op}(hkd:u6 P w K kd)(hr:Room k X.A)(ha:AE X kd a fa)(hb:AE X kd b fb)(h1:X.prog=P:=by rfl)(h2:X.w=w:=by rfl)(h3:X.K=K:=by rfl)(hm:behindInMarks op b=false:=by exact uo _):AE X kd (.Compare a [op] [b] pos) (f2 fa fb<|zz op):=ni (Ga (hkd _ h1 h2 h3) (N2 hr) op) ha hb hm
def fd(hc:CF X.K kd cs f)(ha:AE X kd a fa)(hb:attributeBase a f X.env (eval a X.env)=eval a X.env:=by rfl):AE X kd (.Attribute a f pos) (f1 fa<|zP cs f):=n3 hc ha hb
def ck(F:FnOk X.prog X.w X.K X.mg X.base wV k f fdt ps (RD X.K kd gg))(hr:Room n X.A)(hm:X.mg x=some (.ref f))(hk:W.keepIn X.K (.ref f)=true)
 (hb:Binds X.K fdt ps []) (ha:AA X kd (e::es) fr) (hn:k<=n:=by omega) (hg:Gl X x:=by rfl) (hdb:(x==("__debug__":Str))=false:=by decide) (he:starEach (e::es) X.env=(false,eval e X.env)::starEach es X.env:=by rfl) (hpl:(backTo pos<|starEach es X.env).any (·.1)=false:=by rfl):
 AE X kd (.Call (.Name x p) (e::es) [] pos) (zj fr gg):=CZ F (hr.mono hn) hg hm hk hb ZP ha hdb he hpl
def bi{id}(hc:XB X kd (.builtin id) gg)(hm:X.mg x=none)(hv:bootBuiltins x=some (.builtin id))(ha:AA X kd (e::es) fr)(hg:Gl X x:=by rfl)(hn:x≠"__name__":=by exact Bt.n _ rfl)(hdb:(x==("__debug__":Str))=false:=by decide)
 (he:starEach (e::es) X.env=(false,eval e X.env)::starEach es X.env:=by rfl) (hpl:(backTo pos<|starEach es X.env).any (·.1)=false:=by rfl):AE X kd (.Call (.Name x p) (e::es) [] pos) (fP fr gg):=oB hc hg hm hv ha hn hdb he hpl
def lK(hc:XB X kd (.type T) gg)(hm:X.mg x=none)(hv:bootBuiltins x=some (.type T))(ha:AA X kd (e::es) fr)(hg:Gl X x:=by rfl)(hn:x≠"__name__":=by exact Bt.n _ rfl)(hdb:(x==("__debug__":Str))=false:=by decide)
 (he:starEach (e::es) X.env=(false,eval e X.env)::starEach es X.env:=by rfl) (hpl:(backTo pos<|starEach es X.env).any (·.1)=false:=by rfl):AE X kd (.Call (.Name x p) (e::es) [] pos) (fP fr gg):=mC hc hg hm hv ha hn hdb he hpl
def mq(hC:kd.c c=C)(M:Mk X.K C f)(F:FnOk X.prog X.w X.K X.mg X.base wV k f fdt ps (ll X.K kd c g))(hr:Room n X.A)(hm:X.mg x=some (.ref C))(hb:Binds X.K fdt ps [])
 (ha:AA X kd (e::es) fr) (hn:k+1<=n:=by omega) (hg:Gl X x:=by rfl) (hdb:(x==("__debug__":Str))=false:=by decide) (he:starEach (e::es) X.env=(false,eval e X.env)::starEach es X.env:=by rfl) (hpl:(backTo pos<|starEach es X.env).any (·.1)=false:=by rfl):
 AE X kd (.Call (.Name x p) (e::es) [] pos) (zj fr g):=tm hC M F (hr.mono hn) hg hm hb ZP ha hdb he hpl
def sj(i:Nat){rest}(hN:X.N.Nodup)(he:AE X kd e fa)(h2:JV X kd rest g)(hi:X.N[i]? = some x:=by rfl)(hx:Loc X.env.scope x:=by first|exact Or.inl rfl|exact Or.inr rfl)(hs:swapsWith e (some<|.Name x pos') pos.line X.env=pure false:=by rfl)(hf:X.fn x=true\/X.env.scope.names.lookup x=some .local:=by first|exact Or.inl rfl|exact Or.inr rfl):
 JV X kd (.Assign [.Name x pos'] e pos::rest) (zh (zr z i fa) g):=xG (Ag hN hi hx he hs hf) h2
def mt(hT:MT X.prog X.w X.K X.mg X.base kd m k tbl)(hr:Room n X.A)(ho:AE X kd o fo)(ha:AA X kd (e::es) fr)
 (ht:eval (.Call (.Attribute o m apos) (e::es) [] pos) X.env=(do
  let ov <-eval o X.env
  standAt apos.atName
  let(f,first) <-holding [ov] (getMethod ov m pl)
  callWith pos f first (backTo pos<|starEach (e::es) X.env) (backToKw pos<|keywordEach [] X.env)))
 (hn:k<=n:=by omega) (hst:starEach (e::es) X.env=(false,eval e X.env)::starEach es X.env:=by rfl) (hpl:(backTo pos<|starEach es X.env).any (·.1)=false:=by rfl):
 AE X kd (.Call (.Attribute o m apos) (e::es) [] pos) (xM tbl m fo fr):=lH hT (hr.mono hn) ZP ho ha hst hpl ht
def bx(hT:MT X.prog X.w X.K X.mg X.base kd m k tbl)(hr:Room n X.A)(ho:AE X kd o fo)
 (ht:eval (.Call (.Attribute o m apos) [] [] pos) X.env=(do
  let ov <-eval o X.env
  standAt apos.atName
  let(f,first) <-holding [ov] (getMethod ov m pl)
  callWith pos f first (backTo pos<|starEach [] X.env) (backToKw pos<|keywordEach [] X.env)))
 (hn:k<=n:=by omega):AE X kd (.Call (.Attribute o m apos) [] [] pos) (xM tbl m fo aN):=sU hT (hr.mono hn) ZP ho ht
end
section
variable{K:zzA}{kd:KD}{F B:Addr->Prop}{ad:Ad}{as:AS}{σ:St}{H:Hp}{i:Nat}{c f1 f2:Str}{st:Bool}{w:D}{ts:List O}
def Rel.mks(R:Rel K kd F B [] ad as σ H)(k:as[i]? = some (some<|.nd (.ob c [f1,f2]) [.lf st w,.nd .ls ts])):∃a dx l v1 vs fp,σ[i]? = some (some<|.ref a)/\H a=some (.ins (kd.c c) dx [(f1,v1),(f2,.ref l)])/\Rp K kd (Lv F B (Gw [] ad) st) H v1 w/\H l=some (.lst vs)/\Za K kd F B (Gw [] ad) H vs ts fp/\ad i=a::l::fp:=by
 obtain⟨v,e,d⟩:=R.sl i _ k;generalize f:ad i=g at d;cases d with
 |ob h j t m=>
  have ec:=h.cl_eq;subst ec;cases m with
  |cons n o=>
   cases n with
   |lf p=>
    cases o with
    |cons q r=>
     cases r with
     |nil=>
      cases q with
      |ls s b=>exact⟨_,_,_,_,_,_,e,j,p,s,b,by simp⟩
end
def Cu(i:Nat)(cs:List Str)(f:Str):EF:=λas=>match as[i]? with
 |some (some (.nd (.ob c [f1,f2]) [.lf st w,.nd .ls ts]))=>if c ∈ cs/\f=f1 then some (.ow<|.lf st w,as)else none
 |_=>none
def ig(i:Nat)(cs:List Str)(f:Str):EF:=λas=>match as[i]? with
 |some (some (.nd (.ob c [f1,f2]) [.lf st w,.nd .ls ts]))=>if c ∈ cs/\f=f2/\f1≠f2 then some (.ow<|.lf true<|.int ts.length,as)else none
 |_=>none
def iZ(i j:Nat)(cs:List Str)(f:Str):SF:=λas=>match as[i]? with
 |some (some (.nd (.ob c [f1,f2]) [.lf st w,.nd .ls ts]))=>(match as[j]? with|some (some (.lf s d))=>if c ∈ cs/\f=f2/\f1≠f2/\ts.length<sizeLine then some (.nx<|as.set i<|some<|.nd (.ob c [f1,f2]) [.lf st w,.nd .ls<|ts++[.lf s d]])else none|_=>none)
 |_=>none
def qO{i:Nat}{cs f as x}(e:Cu i cs f as=some x):∃c f2 st w ts,as[i]? = some (some<|.nd (.ob c [f,f2]) [.lf st w,.nd .ls ts])/\c ∈ cs/\x=(.ow<|.lf st w,as):=by
 unfold Cu at e
 split at e
 . rename_i c f1 f2 g w h k;obtain⟨⟨a,b⟩,d⟩:=zv e;subst b;cases d;exact⟨_,_,_,_,_,k,a,rfl⟩
 . cases e
def sX{i:Nat}{cs f as x}(e:ig i cs f as=some x):∃c f1 st w ts,as[i]? = some (some<|.nd (.ob c [f1,f]) [.lf st w,.nd .ls ts])/\c ∈ cs/\f1≠f/\x=(.ow<|.lf true<|.int ts.length,as):=by
 unfold ig at e
 split at e
 . rename_i c f1 f2 h w j k;obtain⟨⟨a,b,d⟩,g⟩:=zv e;subst b;cases g;exact⟨_,_,_,_,_,k,a,d,rfl⟩
 . cases e
def sJ{i j:Nat}{cs f as x}(e:iZ i j cs f as=some x):∃c f1 st w ts s d,as[i]? = some (some<|.nd (.ob c [f1,f]) [.lf st w,.nd .ls ts])/\as[j]? = some (some<|.lf s d)/\c ∈ cs/\f1≠f/\ts.length<sizeLine/\x = .nx (as.set i<|some<|.nd (.ob c [f1,f]) [.lf st w,.nd .ls<|ts++[.lf s d]]):=by
 unfold iZ at e
 split at e
 . rename_i k
   split at e
   . rename_i a;obtain⟨⟨b,g,h,l⟩,m⟩:=zv e;subst g;cases m;exact⟨_,_,_,_,_,_,_,k,a,b,h,l,rfl⟩
   . cases e
 . cases e
section
variable{X:Cx}{kd:KD}{i j n:Nat}{cs:List Str}{f x y:Str}{p p' pos apos cpos:Pos}
def Hz(hc:CF X.K kd cs f)(ho:PE X (.Name x p) (Ry i))(hb:attributeBase (.Name x p) f X.env (eval (.Name x p) X.env)=eval (.Name x p) X.env):AE X kd (.Attribute (.Name x p) f pos) (Cu i cs f):=by
 with_unfolding_all exact(yn (Ft ho hb) λσ H Q h=>by
  obtain⟨F,B,g,as,r,j,R,e,q⟩:=h;obtain⟨c,f2,u,w,v,k,b,e⟩:=qO e;cases e;obtain⟨a,m,l,d,y,z,n,o,s,A,C,t⟩:=R.mks k;exact⟨.ref a,n,a,_,m,_,d,rfl,o,(hc _ b).1,(hc _ b).2,by simp,q d [] g H R (.lf s) Grow.refl⟩)
def jg(hc:CF X.K kd cs f)(ho:PE X (.Name x p) (Ry i))(hb:attributeBase (.Name x p) f X.env (eval (.Name x p) X.env)=eval (.Name x p) X.env)(hg:Gl X "len")(hm:X.mg "len"=none)
 (he:starEach [.Attribute (.Name x p) f pos] X.env=(false,eval (.Attribute (.Name x p) f pos) X.env)::starEach [] X.env) (hpl:(backTo cpos<|starEach [] X.env).any (·.1)=false):
 AE X kd (.Call (.Name "len" p') [.Attribute (.Name x p) f pos] [] cpos) (ig i cs f):=by
 with_unfolding_all exact(yn (Nh ua hg hm rfl (Vb (Ft ho hb) Gg he) (by decide) (by decide) he hpl) λσ H Q h=>by
  obtain⟨F,B,ad,as,r,as',R,e,q⟩:=h;obtain⟨c,f1,st,w,ts,k,hm,hne,e⟩:=sX e;cases e;obtain⟨a,dx,l,v1,vs,fp,hs,hH,rp,hL,rl,hfp⟩:=R.mks k;refine⟨.ref a,hs,a,_,dx,_,.ref l,rfl,hH,(hc _ hm).1,(hc _ hm).2, ?_,.ref l,ts.length,rfl,.inl ⟨vs,.inl<|.inl hL,rl.length.symm⟩,q _ [] ad H R (.lf<|.int _) Grow.refl⟩;rw[List.lookup_cons,beq_eq_false_iff_ne.mpr<|Ne.symm hne];simp)
def kP(hc:CF X.K kd cs f)(ho:PE X (.Name x p) (Ry i))(hy:PE X (.Name y p') (Ry j))(hb:attributeBase (.Name x p) f X.env (eval (.Name x p) X.env)=eval (.Name x p) X.env)
 (hbase:attributeBase (.Attribute (.Name x p) f pos) "append" X.env (eval (.Attribute (.Name x p) f pos) X.env)=eval (.Attribute (.Name x p) f pos) X.env)
 (hfew:((backTo cpos<|starEach [.Name y p'] X.env).all (λx=>!x.1)&&(backToKw cpos<|keywordEach [] X.env).all (λx=>x.1.isSome)
  && decide (([.Name y p']:List Expr).length+([]:List Keyword).length+(if([]:List Keyword).isEmpty then 0 else 1)<30))=true)
 (hline:(apos.endLine==cpos.line)=true) (hst:starEach [.Name y p'] X.env=(false,eval (.Name y p') X.env)::starEach [] X.env) (hplain:(backTo cpos<|starEach [] X.env).any (·.1)=false) {spos}
 (hsw:swapsWith (.Call (.Attribute (.Attribute (.Name x p) f pos) "append" apos) [.Name y p'] [] cpos) none spos.line X.env=pure false):
 AP X kd n (.Expr (.Call (.Attribute (.Attribute (.Name x p) f pos) "append" apos) [.Name y p'] [] cpos) spos) (iZ i j cs f):=by
 with_unfolding_all exact(x6 (P2 (q_ PySem.F.plainAttrs_list PySem.F.slot_list_append PySem.F.type_list_append Tr (Ft ho hb) (Vb hy Gg hst) hbase hfew hline hst hplain) hsw) λD σ H h=>by
  obtain⟨F,B,g,as,o,R,e,q⟩:=h;obtain⟨c,f1,O,w,E,s,d,k,k',P,G,hz,e⟩:=sJ e;subst e;obtain⟨a,Q,l,v1,t,fp,S,T,rp,U,V,r⟩:=R.mks k;obtain⟨v,hj,A⟩:=R.sl j _ k';have hi:=(zzG.mp k).1;generalize hfj:g j=fj at A;cases A with
  |lf I=>
   have nd:=R.nd i;rw[r]at nd;have J:a≠l:=λe=>(zzW.mp nd).1 (by rw[e];exact zzF);have L:=(zzW.mp (zzW.mp nd).2).1;have W:l ∈ g i:=by rw[r];exact zzD _ zzF
   have M:Grow _ H (G1 (Gw [] g) (g i)<|g i) (upd H l<|.lst<|t++[v]):=⟨λb u h n=>by rw[zG λe=>n<|by subst e;exact .inr ⟨i,W⟩];exact h,λb z=>.inl<|z.elim (λy=>y.1) λy=>.inr ⟨i,y⟩⟩;obtain⟨R2,g2⟩:=R.chg1 (H':=upd H l<|.lst _) hi S (R.nd i) (λa m=>.inl m) (λb u h n=>by rw[zG λe=>n<|by subst e;exact W];exact h) (λb m=>by
    by_cases e:b=l
    . subst e;rw[z_];simp
    . rw[zG e];exact(R.gtr b<|.inr ⟨i,m⟩).1) (by
    have r2:=Hv (Rp.grow M I) E<|Za.grow M (λb m u h=>by rw[zG λe=>L<|by subst e;exact m];exact h) V;have Y:=RoL.cons (Ro.lf<|Rp.grow M rp)<|RoL.cons (Ro.ls z_ r2) .nil;rw[zyE,List.nil_append]at Y;have Z:=Ro.ob (Rp.cl c) (show upd H l _ a=some (.ins (kd.c c) Q<|[f1,f].zip [v1,.ref l]) by rw[zG J];exact T) rfl Y;rw[r];rw[r]at Z;exact Z)
   refine⟨.ref a,S,a,_,Q,_,.ref l,rfl,T,(hc _ P).1,(hc _ P).2, ?_,.inl ⟨rfl,t,.inl<|.inl U⟩,v,hj,l,t,v,rfl,rfl,U,by rw[V.length];exact hz,q σ _ _ (λ_ _=>rfl) R2 g2⟩;rw[List.lookup_cons,beq_eq_false_iff_ne.mpr<|Ne.symm G];simp)
end
noncomputable def nc(n0:List Str):Nat->D->Bool
 |0,_=>false
 |n+1,.tup ds=>ds.all (nc n0 n)
 |n+1,.ob _ ns ds=>decide (ns≠n0)&&ds.all (nc n0 n)
 |_+1,.lst _=>false
 |_+1,.dct _=>false
 |_+1,_=>true
section
variable{K:zzA}{kd:KD}{O:Addr->Prop}{H:Hp}{a l C dx:Addr}{f1 f2:Str}{v1 v2:V}{vs0:List V}
def iY(ha:H a=some (.ins C dx [(f1,v1),(f2,v2)]))(hl:H l=some (.lst vs0)){v d}(h:Rp K kd O H v d):∀n,nc [f1,f2] n d=true->Rp K kd (λz=>O z\/z=a\/z=l) H v d:=
 Rp.rec (motive_2:=λg f _=>∀n,f.all _=true->RpL K kd (λz=>O z\/z=a\/z=l) H g f) (motive_3:=λ_ _ _=>True)
  (λ_ _=>.non) (λb _ _=>.bl b) (λi _ _=>.int i) (λx _ _=>.str x)
  (λ{c g f} n h _ r m e=>by
   cases m with
   |zero=>cases e
   |succ m=>
    refine .tup (λz=>z.elim n λq=>?_) h<|r m e
    rcases q with q|q<;>subst q
    . rcases h with h|⟨o,h⟩<;>(rw[ha]at h;cases h)
    . rcases h with h|⟨o,h⟩<;>(rw[hl]at h;cases h))
  (λk p s t u _ r m e=>by
   cases m with
   |zero=>cases e
   |succ m=>exact .tupK k p s t u (r m e))
  (λ_ _ _ _ m e=>by cases m<;>cases e) (λ_ _ _ _ _ m e=>by cases m<;>cases e)
  (λ_ _ _ _ m e=>by cases m<;>cases e) (λ_ _ _ m e=>by cases m<;>cases e) (λc _ _=>.cl c)
  (λ{c w A j g f} n h y _ r m e=>by
   cases m with
   |zero=>cases e
   |succ m=>
    have e:(decide _&&f.all _)=true:=e;rw[zyC]at e;refine .ob (λz=>z.elim n λq=>?_) h y<|r m e.2
    rcases q with q|q<;>subst q
    . rw[ha]at h;injection h with h
      injection h with _ _ h
      have:=List.map_fst_zip (l₁:=j) (l₂:=g) (by omega);rw[<-h]at this;exact of_decide_eq_true e.1 this.symm
    . rw[hl]at h;cases h)
  (λ_ _=>.nil) (λ_ _ h r n e=>by
   rw[List.all_cons,zyC]at e;exact .cons (h n e.1)<|r n e.2) ⟨⟩ (λ_ _ _ _=>⟨⟩) h
end
theorem RpA.less{K kd F F' H}(g:∀a,F' a->F a):∀{vs:List V}{ds:List (Bool×D)},RpA K kd F H vs ds->RpA K kd F' H vs ds
 |_,_,.nil=>.nil
 |_,_,.cons h r=>.cons (h.less λz q=>⟨q.1,g z q.2⟩)<|RpA.less g r
def cE(n0:List Str):O->Bool
 | .lf _ d=>nc n0 60 d
 |_=>false
def p6(n0:List Str):O->Bool
 | .lf _ d=>nc n0 60 d
 | .nd .ls os=>os.all (cE n0)
 |_=>false
def LS:Option (Option O)->Option D
 |some (some (.nd (.ob c [f1,f2]) [.lf st w,.nd .ls ts]))=>if st=true/\ts.all O.isLf=true/\O.strs ts=true then some (.ob c [f1,f2] [w,.lst<|O.toDs ts])else none
 |_=>none
def bD:D->List Str
 | .ob _ ns _=>ns
 |_=>[]
def L9{s d}(e:LS s=some d):∃c f1 f2 w ts,s=some (some<|.nd (.ob c [f1,f2]) [.lf true w,.nd .ls ts])/\ts.all O.isLf=true/\O.strs ts=true/\d = .ob c [f1,f2] [w,.lst<|O.toDs ts]:=by
 unfold LS at e
 split at e
 . obtain⟨⟨a,b,f⟩,g⟩:=zv e;subst a;cases g;exact⟨_,_,_,_,_,rfl,b,f,rfl⟩
 . cases e
def YS(i:Nat)(tbl:List (Str×Fn))(m:Str)(fr:AF):EF:=λas=>(LS as[i]?).bind λd0=>(cQ m d0).bind λc=>(HL tbl c).bind λg=>(fr as).bind λq=>(LS q.2[i]?).bind λd=>(XW q.2 q.1).bind λx=>(g ((true,d)::x)).bind λo=>if p6 (bD d) o=true then some (.ow o,q.2)else none
section
variable{K:zzA}{kd:KD}{F F' B G:Addr->Prop}{H:Hp}{T:List Addr}{n0:List Str}
def oM(cv:∀v d,nc n0 60 d=true->Rp K kd (QL F' (· ∈ T)) H v d->∀st,Rp K kd (Lv F B G st) H v d){N v o fp}(e:p6 n0 o=true)(h:Ro (λ_ v d=>Rp K kd (QL F' (· ∈ T)) H v d) N H v o fp):Xj K kd F B G H v o fp:=by
 cases h with
 |lf r=>exact .lf (cv _ _ e r _)
 |ls a c=>
  refine .ls a ?_;have e:=e;clear a;exact RoL.ind (P:=λf b g=>b.all (cE n0)=true->Za K kd F B G H f b g) (λ_=>.nil) (λh _ i e=>by
   rw[List.all_cons,zyC]at e;cases h with
   |lf r=>exact .cons (.lf<|cv _ _ e.1 r _) (i e.2)
   |_=>cases e.1) c e
 |_=>cases e
end
section
variable{X:Cx}{kd:KD}{e:Expr}{es:List Expr}{fr:AF}{pos apos p:Pos}{m x:Str}{tbl:List (Str×Fn)}{k i:Nat}
def nW(hT:MT X.prog X.w X.K X.mg X.base kd m k tbl)(hr:Room k X.A){σ H Q t}(ht:∀σ H Q,pR X.K kd fr σ H Q->t σ H Q)(h:al X.K kd (YS i tbl m fr) σ H Q):J7 X m (Ry i) t σ H Q:=by
 obtain⟨F,B,ad,as,r,as',R,e,q⟩:=h;obtain⟨d0,h0,e⟩:=bS_<|e;obtain⟨c,p,e⟩:=bS_ e;obtain⟨g,h4,e⟩:=bS_ e;obtain⟨⟨rs,G⟩,h5,e⟩:=bS_ e;obtain⟨d,h6,e⟩:=bS_ e;obtain⟨ds,h7,e⟩:=bS_ e;obtain⟨o,h8,e⟩:=bS_ e;obtain⟨I,e⟩:=zv e;cases e;obtain⟨c0,f1,f2,w,ts,k0,_,_,e0⟩:=L9 h0;subst e0;obtain⟨a,dx,l,v1,vs0,fp,Z,hH,_,_,_,_⟩:=R.mks k0;have p:(if m ∈ [f1,f2]then none else some c0)=some c:=p
 by_cases u:m ∈ [f1,f2]
 . rw[if_pos u]at p;cases p
 rw[if_neg u]at p;cases p;obtain⟨k',f,fd,ps,J,cl,me,F1,b⟩:=hT _ _ h4;refine⟨.ref a,Z,a,_,dx,_,k',f,fd,ps,_,rfl,hH,cl,me, ?_,F1,hr.mono J,b,ht _ _ _ ⟨F,B,ad,as,rs,G,R,h5,λvs j H2 R2 L g2=>?_⟩⟩
 . have:List.lookup m ([f1,f2].zip [v1,V.ref l])=none:=(YO _ _ _).trans<|Pk u;exact this
 obtain⟨c1,g1,M,w1,ts1,k1,N,O,s⟩:=L9 h6;subst s;obtain⟨a',dx',D,v1',vs',fp',x,y,P,C,S,hfp'⟩:=R2.mks k1;rw[Z]at x;cases x;have off:∀z,(Lv F B _ true z/\z≠a/\z≠D)->Lv F B (Gw [] j) true z:=λz q=>q.1;refine⟨λz=>Lv F B _ true z/\z≠a/\z≠D,_,o,λz n=>R2.trk true z n.1,.cons ?_ ?_,h8,λv T H' u hT U W ro=>?_⟩
 . refine .ob (λz=>z.2.2.1 rfl) y rfl<|.cons (P.less λz q=>q.2.1)<|.cons (.lst (λz=>z.2.2.2 rfl) (.inl C) ?_) .nil;have:=T9 S N;rw[O]at this;exact this.less λz q=>q.2.1
 . exact(K5 R2 L h7).less λz q=>q.1
 . obtain⟨R',g'⟩:=R2.news u hT U W;refine q v T j H' R' (oM (F':=λz=>Lv F B _ true z/\z≠a/\z≠D) (λv d Y rp st=>?_) I ro)<|g2.trans g';refine(iY (U _ _ y) (U _ _ C) rp 60 Y).less λz n=>?_
   by_cases s:z=a
   . exact .inr<|.inl s
   by_cases E:z=D
   . exact .inr<|.inr E
   refine .inl ?_
   rcases n with(n|n)|n|n
   . exact .inl ⟨.inl<|.inl ⟨rfl,n.2⟩,s,E⟩
   . exact .inl ⟨.inl<|.inr n,s,E⟩
   . exact .inr n
   . exact .inl ⟨.inr<|.inr n,s,E⟩
def Q2{pl}(hT:MT X.prog X.w X.K X.mg X.base kd m k tbl)(hr:Room k X.A)(hx:vq wV X λ_ _ _=>False)(ho:PE X (.Name x p) (Ry i))(ha:AA X kd (e::es) fr)
 (hst:starEach (e::es) X.env=(false,eval e X.env)::starEach es X.env) (hpl:(backTo pos<|starEach es X.env).any (·.1)=false)
 (ht:eval (.Call (.Attribute (.Name x p) m apos) (e::es) [] pos) X.env=(do
  let ov <-eval (.Name x p) X.env
  standAt apos.atName
  let(f,first) <-holding [ov] (getMethod ov m pl)
  callWith pos f first (backTo pos<|starEach (e::es) X.env) (backToKw pos<|keywordEach [] X.env))):
 AE X kd (.Call (.Attribute (.Name x p) m apos) (e::es) [] pos) (YS i tbl m fr):=by
 with_unfolding_all exact(yn (Ol ho hx ha hst hpl ht) λσ H Q h=>nW hT hr (λσ H Q z=>z) h)
end
noncomputable def Da(i:Nat)(cs:List Str)(f:Str)(fe:EF):J1:=λas=>(fe as).bind λp=>match p.1 with
 | .ow o=>match p.2[i]? with
  |some (some (.nd (.ob c ns) os))=>if c ∈ cs/\f ∉ ns/\ns.length<1000 then some (p.2.set i<|some<|.nd (.ob c<|ns++[f])<|os++[o])else none
  |_=>none
 |_=>none
def Jl{i:Nat}{cs:List Str}{f}{r:RV}{as as':AS}(e:(match r with
 | .ow o=>match as[i]? with
  |some (some (.nd (.ob c ns) os))=>if c ∈ cs/\f ∉ ns/\ns.length<1000 then some (as.set i<|some<|.nd (.ob c<|ns++[f])<|os++[o])else none
  |_=>none
 |_=>none)=some as'):∃o c ns os,r = .ow o/\as[i]? = some (some<|.nd (.ob c ns) os)/\c ∈ cs/\f ∉ ns/\ns.length<1000/\as'=as.set i (some<|.nd (.ob c<|ns++[f])<|os++[o]):=by
 split at e
 . split at e
   . obtain⟨⟨a,b,d⟩,g⟩:=zv e;cases g;rename_i k;exact⟨_,_,_,_,rfl,k,a,b,d,rfl⟩
   . cases e
 . cases e
def uC{X:Cx}{kd e o}{fe:EF}{pos pos' cs n}{j:Nat}(hc:CF X.K kd cs n)(ho:PE X o (Ry j))(he:AE X kd e fe)(hs:swapsWith e (some<|.Attribute o n pos') pos.line X.env=pure false):kx X kd (.Assign [.Attribute o n pos'] e pos) (Da j cs n fe):=by
 with_unfolding_all exact(x6 (D6 ho he hs) λD σ H h=>by
  obtain⟨F,B,ad,as,as',R,e,q⟩:=h;obtain⟨⟨p,as1⟩,h1,e⟩:=bS_<|e;obtain⟨o0,c,ns,os,rfl,k1,hm,hf,hz,rfl⟩:=Jl e;refine⟨F,B,ad,as,_,as1,R,h1,λv T1 ad1 H1 R1 rv1 g1=>?_⟩;obtain⟨v0,hs0,ro0⟩:=R1.sl j _ k1;refine⟨v0,hs0, ?_⟩;generalize hfp:ad1 j=fp1 at ro0;cases ro0 with
  |ob hC hH hl rl=>
   rename_i l dx C vs fp;have ec:=hC.cl_eq;subst ec;have hnd:=R1.nd j;rw[hfp]at hnd;have rl':Za X.K kd F B _ H1 _ _ _:=rl.append<|RoL.one rv1;refine⟨l,_,dx,_,rfl,hH,(hc _ hm).1,(hc _ hm).2,by rw[List.length_zip,hl,Nat.min_self,<-hl];exact hz, ?_⟩;rw[L1 hl hf];have dis:=λa m=>R1.dis j a (by rw[hfp];exact zzD _ m);obtain⟨R4,g4⟩:=R1.mut (n:=.nd (.ob c<|ns++[n]) _) (zzG.mp k1).1 hfp hs0 (fp':=fp++T1) (λa m=>by
    rw[zyE]at m;exact m) (by
    rw[zyE];exact zxE.mpr ⟨(zzW.mp hnd).2,R1.tnd,λa m b m' e=>dis a m<|by rw[e];exact m'⟩) (by rw[hH];simp) λH' G' hl' gr kp=>.ob (.cl c) hl' (by rw[zzJ,zzJ,hl];rfl)<|Za.grow gr kp rl'
   exact q _ _ R4<|g1.trans g4)
abbrev VF:=AS->Option (D×AS)
def bv(n:Nat)(K:zzA)(kd:KD)(f:VF):TS:=λD σ H=>∃F B ad as d as',Rel K kd F B [] ad as σ H/\f as=some (d,as')/\zB d=true/\∀σ' ad' H' v,(∀i,i<n->σ'[i]? = σ[i]?)->Rel K kd F B [] ad' as' σ' H'->Grow (Gw [] ad) H (Gw [] ad') H'->Rp K kd (λ_=>False) H' v d->D.rt v H'
@[irreducible] def fm(X:Cx)(kd:KD)(n:Nat)(st:List Stmt)(f:VF):Prop:=FI X st<|bv n X.K kd f
noncomputable def bB:RV×AS->Option (D×AS)
 |(.ow (.lf _ d),as)=>some (d,as)
 |_=>none
def FL(fe:EF):VF:=λas=>(fe as).bind bB
def L6(f:SF)(g:VF):VF:=λas=>(f as).bind λo=>match o with
 | .nx as1=>g as1
 |_=>none
section
variable{X:Cx}{kd:KD}{n:Nat}{e:Expr}{st:Stmt}{rest:List Stmt}{fe:EF}{f:SF}{g:VF}{pos:Pos}
def pj:AP X kd n st Ab:=by with_unfolding_all exact(λa s σ H D I h=>by obtain⟨F,B,b,as,o,R,e,q⟩:=h;cases e)
def Lm(he:AE X kd e fe):fm X kd n [.Return (some e) pos] (FL fe):=by with_unfolding_all exact(Xp (PV<|uj he) λD σ H h=>by
 obtain⟨F,B,ad,as,d,as',R,e,hf,q⟩:=h;obtain⟨⟨p,as1⟩,h1,e⟩:=bS_<|e
 match p,e,h1 with
 | .ow (.lf st d0),e,h1=>
  cases e;refine⟨F,B,ad,as,_,_,R,h1,λv T' ad' H' R' rv g=>?_⟩;have rv:=rv;cases rv with
  |lf rp=>exact q σ ad' H' v (λ_ _=>rfl) R' g (rp.flat hf))
def ZT(h1:AP X kd n st f)(h2:fm X kd n rest g):fm X kd n (st::rest) (L6 f g):=by with_unfolding_all exact(Xp (Wi h1 h2) λD σ H h=>by
 obtain⟨F,B,l,as,d,a,R,e,m,q⟩:=h;obtain⟨o,p,e⟩:=bS_<|e;cases o with
 |nx b=>exact⟨F,B,l,as,_,R,p,λA c C r s t=>⟨F,B,c,b,d,a,s,e,m,λu j w v x R2 y z=>q u j w v (λi k=>(x i k).trans<|r i k) R2 (t.trans y) z⟩⟩
 |_=>cases e)
end
def tE(n m:Nat)(c:VF)(xs:List Zj)(o:O):Option (D×O):=if xs.length+1=m then(c<|YM n (o::xs.map uZ)).bind λz=>(z.2[0]?).bind λs=>s.bind λr=>if r.str=true/\zB z.1=true then some (z.1,r)else none else none
def spS(K:zzA)(kd:KD)(g:List Zj->O->Option (D×O)):Sp:=λvs H Q _=>∃(F:Addr->Prop) (T:List Addr) (v:V) (ws:List V) (xs:List Zj) (o:O) (d:D) (r:O),vs=v::ws/\(∀a,F a->H a≠none)/\T.Nodup/\(∀a ∈ T,H a≠none/\¬F a)/\RpI K kd F (λ_=>False) (· ∈ T) H ws xs/\Xj K kd F (λ_=>False) (· ∈ T) H v o T/\g xs o=some (d,r)/\
 ∀(u:V) (H':Hp) (T':List Addr),(∀c u,H c=some u->c ∉ T->H' c=some u)->T'.Nodup->(∀a ∈ T',a ∈ T\/H a=none)->(∀a ∈ T',H' a≠none)->Xj K kd F (λ_=>False) (· ∈ T') H' v r T'->Rp K kd (λ_=>False) H' u d->Q u H'
section
variable{P:Program}{w:World}{K:zzA}{mg:Str->Option Value}{base:Heap}
def Bo{kd x qual st f fd N ps}{k:Nat}{c}(Fn:Fun K x qual st f fd)(S:FnScope N ps (zd st))(hN:ps.length<=N.length)
 (hb:∀(cdv:Value) (A:Around) (outer:List Env) (s:Shared) (H:Hp) (E:XK),Room k (A.deeper<|envOfC qual (zd st) s.heap.objs.size f cdv)->fm (L5 wV P w K mg base N qual (zd st) f cdv A outer s H E).nox kd 1 (ZL st) c):
 FnOk P w K mg base wV (k+1) f fd ps (spS K kd<|tE N.length ps.length c):=by
 with_unfolding_all (
 refine Fn.ok S (λX H Q E h=>?_) λB A b s H X Q E Y h=>⟨_,hb B A b s H E Y, ?_⟩
 . obtain⟨F,T,v,C,t,o,d,r,rfl,L,M,O,j,U,e,q⟩:=h;obtain⟨V,_⟩:=ite_some'<|e;rw[zzT,j.length];exact V
 . obtain⟨F,T,v,C,t,o,d,r,rfl,L,M,O,j,U,e,q⟩:=h;obtain⟨V,Z⟩:=ite_some'<|e;obtain⟨⟨d0,D⟩,e1,z1⟩:=bS_ Z;obtain⟨G,k0,z2⟩:=bS_ z1;obtain⟨r0,e2,z3⟩:=bS_ z2;obtain⟨⟨hr0,I⟩,z4⟩:=zv z3;subst e2;cases z4;have J:Za K kd F (λ_=>False) (· ∈ T) H (v::C) (o::t.map uZ) T:=by
    have:=RoL.cons U<|AQ j
    rwa [zyE]at this
   have R0:=Mc (N:=N) L M O (Ii t) (by rw[zzT,zzB];exact q0U V hN) J;have W:∀a,Gw [] (λi=>if i=0 then T else[]) a->a ∈ T:=λa z=>z.elim (λy=>nomatch y) λ⟨i,y⟩=>by
    by_cases e:i=0
    . subst e;simpa using y
    . simp[e]at y
   refine⟨F,λ_=>False,_,YM N.length _,d0,D,R0,e1,I,λσ' l H' u sp R g rp=>?_⟩;obtain⟨u0,G,t0⟩:=R.sl 0 _ k0;rw[sp 0<|by omega]at G;have sv:(L2.start N (v::C))[0]? = some (some v):=rfl;cases(sv.symm.trans G);have p:∀a,a ∈ l 0->Gw [] l a:=λa z=>.inr ⟨_,z⟩;exact q u H' (l 0) (λc u h n=>g.keep c u h λz=>n<|W c z) (R.nd _) (λa m=>(g.own a<|p a m).imp (W a) id) (λa m=>(R.gtr a<|p a m).1) (Xj.lv (λst a z=>z.imp id<|p a) t0) rp)
end
def Ro.monoS{L L' N N' H}(hL:∀v d,L true v d->L' true v d)(hN:∀a,N a->N' a){v o fp}(s:o.str=true)(h:Ro L N H v o fp):Ro L' N' H v o fp:=
 Ro.rec (motive_2:=λg f b _=>O.strs f=true->RoL L' N' H g f b)
  (λ{i v d} h s=>by have e:=s;subst e;exact .lf<|hL _ _ h) (λh _ r s=>.ls h<|r s) (λh l _ r s=>.dc h l<|r s) (λc h l _ r s=>.ob (hL _ _ c) h l<|r s) (λn h _ r s=>.tp (hN _ n) h<|r s)
  (λ_=>.nil) (λ_ _ h r s=>.cons (h ((zyC _ _).mp s).1)<|r ((zyC _ _).mp s).2) h s
def Mb(i:Nat)(as:AS):List RV->Option (List Zj)
 | []=>some []
 | .ow o::rs=>(Mb i as rs).bind λy=>some ((zB o.toD||o.str,o.toD)::y)
 | .bo j::rs=>(as[j]?).bind λs=>s.bind λo=>if j=i then none else(Mb i as rs).bind λy=>some ((false,o.toD)::y)
section
variable{K:zzA}{kd:KD}{F B:Addr->Prop}{ad:Ad}{as:AS}{σ:St}{H:Hp}{i:Nat}
def rM(R:Rel K kd F B [] ad as σ H){vs rs xs}(h:RVs K kd F B ad σ H vs rs)(e:Mb i as rs=some xs):RpI K kd (λz=>Lv F B (Gw [] ad) true z/\z ∉ ad i) (λ_=>False) (· ∈ ad i) H vs xs:=by
 induction h generalizing xs with
 |nil=>cases e;exact .nil
 |cons h t l=>
  rename_i v r E q;cases r with
  |ow o=>
   obtain⟨y,f,e⟩:=bS_<|e;cases e;refine .cons ?_<|l f;cases hf:zB o.toD with
   |true=>exact(LU h).flat hf
   |false=>
    refine(Lq h).less λa z=>?_
    rcases z with(z|z)|z
    . rw[show o.str=true from z.1];exact z.2.1
    . exact z.elim
    . exact .inr (.inr ⟨i,z⟩)
  |bo j=>
   obtain⟨s,k,u⟩:=bS_<|e;obtain⟨o,x,c⟩:=bS_ u;subst x
   by_cases g:j=i
   . rw[if_pos g]at c;cases c
   rw[if_neg g]at c;obtain⟨y,f,A⟩:=bS_ c;cases A;refine .cons ?_<|l f;obtain⟨w,p,C⟩:=R.sl j _ k;rw[h.2]at p;cases p;have ob:∀z,Lv (λz=>Lv F B (Gw [] ad) true z/\z ∉ ad i) (λ_=>False) _ false z->z ∈ ad i:=λz b=>by
    rcases b with(b|b)|b
    . exact nomatch b.1
    . exact b.elim
    . exact b
   exact Ro.rp false (λD v d _ r=>(r).less λz b=>.inr<|.inr ⟨i,ob z b⟩) (λa n z=>n<|.inr<|.inr ⟨i,ob a z⟩) (λz=>Bool.noConfusion z) (λa m z=>g<|R.inj j i a m<|ob a z) C
end
noncomputable def d6(m:Str):Option (Option O)->Option Str
 |some (some (.nd (.ob c ns) _))=>if m ∈ ns then none else some c
 |_=>none
def Vj(i:Nat)(c0 m:Str)(g:List Zj->O->Option (D×O))(fr:AF):EF:=λas=>(d6 m as[i]?).bind λc=>if c=c0 then(fr as).bind λq=>(Mb i q.2 q.1).bind λxs=>(q.2[i]?).bind λs=>s.bind λo=>(g xs o).bind λz=>if zB z.1=true/\z.2.str=true then some (.ow<|.lf true z.1,q.2.set i<|some z.2)else none else none
def MS(P:Program)(w:World)(K:zzA)(mg:Str->Option Value)(base:Heap)(kd:KD)(m:Str)(k:Nat)(c:Str)(g:List Zj->O->Option (D×O)):Prop:=
 ∃k' f fd ps,k'<=k/\Cls K (kd.c c)/\Meth K (kd.c c) m f/\FnOk P w K mg base wV k' f fd ps (spS K kd g)/\Binds K fd ps []
section
variable{X:Cx}{kd:KD}{e:Expr}{es:List Expr}{fr:AF}{pos apos p:Pos}{m x c0:Str}{g:List Zj->O->Option (D×O)}{k i:Nat}
def mV(hT:MS X.prog X.w X.K X.mg X.base kd m k c0 g)(hr:Room k X.A){σ H Q t}(ht:∀σ H Q,pR X.K kd fr σ H Q->t σ H Q)(h:al X.K kd (Vj i c0 m g fr) σ H Q):J7 X m (Ry i) t σ H Q:=by
 obtain⟨F,B,ad,as,r,as',R,e,q⟩:=h;obtain⟨c,h0,e⟩:=bS_<|e;obtain⟨ec,z0⟩:=ite_some' e;subst ec;obtain⟨⟨rs,as2⟩,h5,z1⟩:=bS_ z0;obtain⟨xs,h6,z2⟩:=bS_ z1;obtain⟨s,k2,z3⟩:=bS_ z2;obtain⟨o,e1,z4⟩:=bS_ z3;subst e1;obtain⟨⟨d,r⟩,h7,z5⟩:=bS_ z4;obtain⟨⟨hf,hst⟩,z6⟩:=zv z5;cases z6;obtain⟨ns,os,k0,hn⟩:∃ns os,as[i]? = some (some _)/\m ∉ ns:=by
  unfold d6 at h0
  split at h0
  . rename_i c' ns' os' k0
    by_cases hm:m ∈ ns'
    . rw[if_pos hm]at h0;cases h0
    . rw[if_neg hm]at h0;cases h0;exact⟨_,_,k0,hm⟩
  . cases h0
 obtain⟨v,hs,ro⟩:=R.sl i _ k0;generalize hfp:ad i=fp0 at ro;cases ro with
 |ob hC hH hl rl=>
  rename_i a dx C vs0 fp;have ec:=hC.cl_eq;subst ec;obtain⟨k',f,fd,ps,hk',cl,me,F1,b⟩:=hT;refine⟨.ref a,hs,a,_,dx,_,k',f,fd,ps,_,rfl,hH,cl,me,(YO _ _ _).trans<|Pk hn,F1,hr.mono hk',b,ht _ _ _ ⟨F,B,ad,as,rs,as2,R,h5,λvs ad2 H2 R2 rv2 g2=>?_⟩⟩;obtain⟨v',hv',ro'⟩:=R2.sl i _ k2;rw[hs]at hv';cases hv';have hi:=(zzG.mp k2).1;refine⟨λz=>Lv F B _ true z/\z ∉ ad2 i,ad2 i,.ref a,vs,xs,o,d,r,rfl,λz hz=>R2.trk true z hz.1,R2.nd i,λz mz=>⟨(R2.gtr z<|.inr ⟨i,mz⟩).1,λy=>y.2 mz⟩,rM R2 rv2 h6,Xj.lv (λst z hz=>?_) ro',h7,λu H' T' kp nd sub al ro3 rp=>?_⟩
  . rcases hz with(hz|hz)|hz
    . rw[hz.1];exact hz.2.1
    . exact hz.elim
    . exact .inr<|.inr ⟨i,hz⟩
  . have le:∀z,Lv F B (G1 _ (ad2 i) T') true z->Lv (λz=>Lv F B (Gw [] ad2) true z/\z ∉ ad2 i) (λ_=>False) (· ∈ T') true z:=λz hz=>by
     rcases hz with(hz|hz)|hz|hz
     . exact .inl<|.inl ⟨rfl,.inl<|.inl hz,λy=>(R2.gtr z<|.inr ⟨i,y⟩).2 hz.2⟩
     . exact .inl<|.inl ⟨rfl,.inl<|.inr hz,λy=>(R2.btr z hz).2.2<|.inr ⟨i,y⟩⟩
     . exact .inl<|.inl ⟨rfl,.inr hz.1,hz.2⟩
     . exact .inr hz
    have r0:Xj X.K kd F B _ H' (.ref a) r T':=Ro.monoS (λv d h=>Rp.less le h) (λz n y=>n<|le z y) hst ro3;obtain⟨R3,g3⟩:=R2.chg1 hi hs nd sub kp al r0;exact q u [] _ H' R3 (.lf<|rp.flat hf)<|g2.trans g3
def K7{pl}(hT:MS X.prog X.w X.K X.mg X.base kd m k c0 g)(hr:Room k X.A)(hx:vq wV X λ_ _ _=>False)(ho:PE X (.Name x p) (Ry i))(ha:AA X kd (e::es) fr)
 (hst:starEach (e::es) X.env=(false,eval e X.env)::starEach es X.env) (hpl:(backTo pos<|starEach es X.env).any (·.1)=false)
 (ht:eval (.Call (.Attribute (.Name x p) m apos) (e::es) [] pos) X.env=(do
  let ov <-eval (.Name x p) X.env
  standAt apos.atName
  let(f,first) <-holding [ov] (getMethod ov m pl)
  callWith pos f first (backTo pos<|starEach (e::es) X.env) (backToKw pos<|keywordEach [] X.env))):
 AE X kd (.Call (.Attribute (.Name x p) m apos) (e::es) [] pos) (Vj i c0 m g fr):=by
 with_unfolding_all exact(yn (Ol ho hx ha hst hpl ht) λσ H Q h=>mV hT hr (λσ H Q z=>z) h)
end
def Cw{P w K mg base kd m c}{k k':Nat}{C f fd ps g}(ci:CI K kd mg c C)(me:Meth K C m f)(F:FnOk P w K mg base wV k' f fd ps (spS K kd g))(b:Binds K fd ps [])(hk:k'<=k:=by decide):MS P w K mg base kd m k c g:=by
 have e:=ci.eq;subst e;exact⟨_,_,_,_,hk,ci.cl,me,F,b⟩
abbrev oj(h:Heap)(T:Nat)(a b c:Value):Prop:=h.get? T=some {cls:=.type "tuple",data:=.seq #[a,b,c]}
structure Z3(h:Heap)(I l1 l2 l3 k:Nat)(f0:Value):Prop where
 z:IsZip h (I+5) (I+3) (I+4) f0
 ti:oj h (I+3) (.ref I) (.ref<|I+1) (.ref<|I+2)
 to:∃a b c,oj h (I+4) a b c
 h1:h.IsListIter I l1 k
 h2:h.IsListIter (I+1) l2 k
 h3:h.IsListIter (I+2) l3 k
section
variable{prog:Program}{w:World}{A:Around}{E:Value->Shared->Prop}{s:Shared}
def Bm{T:Nat}{a b c x}{k:Nat}{Q}(hT:oj s.heap T a b c)
 (h:∀h',h'.get? T=some {cls:=.type "tuple",data:=.seq ((#[a,b,c]:Array Value).setIfInBounds k x)}->Heap.SameBut T s.heap h'->Q () {s with heap:=h'}):wpAny (model prog w) A (updateSeq T (·.setIfInBounds k x)) Q E s:=by
 refine wpAny_updateSeq hT rfl<|h _ ?_<|Heap.SameBut.update ..;rw[Heap.get?_update_self _ hT rfl];simp[Obj.mapSeq]
def qz{I l1 l2 l3 k:Nat}{xs ys zs x y z}{Q:Value->Shared->Prop}(d1:l1<I)(d2:l2<I)(d3:l3<I)(Z:Z3 s.heap I l1 l2 l3 k .none)
 (hl1:s.heap.IsList l1 xs) (hl2:s.heap.IsList l2 ys) (hl3:s.heap.IsList l3 zs) (hx:xs[k]? = some x) (hy:ys[k]? = some y) (hw:zs[k]? = some z)
 (hQ:∀h',Z3 h' I l1 l2 l3 (k+1) (rawInt s.heap.objs.size)->oj h' s.heap.objs.size x y z->(∀(c:Nat) o,c<I\/I+5<c->s.heap.get? c=some o->h'.get? c=some o)->Q (.ref s.heap.objs.size) {s with heap:=h'}):
 wpAny (model prog w) A (Builtin.«zip.__next__» ⟨[.ref<|I+5],[]⟩) (λfin s'=>∃v,fin = .done (.ret v)/\Q v s') E s:=by
 obtain⟨t,B,⟨a,b,c,K⟩,h1,h2,h3⟩:=Z;have d:∀{p q:Nat},p<q\/q<p->p≠q:=λh=>q0I h
 show wpAny _ _ (field (.ref<|I+5) 2 >>= _) _ _ _;refine zxF<|wpAny_field t rfl rfl ?_;refine zxF<|wpAny_field t rfl rfl ?_;refine zxF<|wpAny_seqItems B rfl ?_;refine zxF ?_;unfold Builtin.SmallTypes.ownedTupleIsFree;refine zxF<|wpAny_field t rfl (x:=.none) rfl<|zxG ?_;simp only[if_true];refine zxF<|wpAny_rule ?_;refine zxF<|wpAny_field t rfl rfl ?_;refine zxF (wpAny_setField_rec t (by simp) λg1 g V=>?_)
 replace g:IsZip g1 (I+5) (I+3) (I+4) .ellipsis:=g
 refine zxF ?_;simp only[List.zipIdx_cons,List.zipIdx_nil,List.forIn_cons,List.forIn_nil];refine zxF<|zxF<|wpAny_onRaise ?_;have L:=λp o n=>V.extBut p o n;refine zxF<|wpAny_nextOf_list_item (h1.at λo e=>L _ o (d<|q0i) e) (hl1.at λo e=>L _ o (d<|q0u d1) e) hx λg2 i2 M=>zxG ?_;have W:=λp o n (m:p≠I) e=>M.extBut p o m<|L p o n e;have X:=W _ _ (d<|q0C) (d<|by omega) K;refine zxF<|wpAny_seqItems X rfl ?_;refine zxF (Bm X λY N F=>?_)
 replace N:oj Y (I+4) x b c:=N
 refine zxF<|wpAny_letGo<|zxG ?_;have O:=λp o n (m:p≠I) r e=>F.extBut p o r<|W p o n m e;have i3:=i2.at λo e=>F.extBut _ o (d<|q0E) e;refine zxF<|zxF<|wpAny_onRaise ?_;refine zxF<|wpAny_nextOf_list_item (h2.at λo e=>O _ o (d<|q0A) (d<|by omega) (d<|q0F) e) (hl2.at λo e=>O _ o (d<|q0u d2) (d<|q1U d2) (d<|q1G d2) e) hy λg4 j4 C=>zxG ?_;have t4:=C.extBut _ _ (d<|by omega) N;refine zxF<|wpAny_seqItems t4 rfl ?_;refine zxF (Bm t4 λP R D=>?_)
 replace R:oj P (I+4) x y c:=R
 refine zxF<|wpAny_letGo<|zxG ?_;have S:=λp o n (m:p≠I) r u e=>D.extBut p o r<|C.extBut p o u<|O p o n m r e;have i5:=i3.at λo e=>D.extBut _ o (d<|q0E)<|C.extBut _ o (d<|by omega) e;have j5:=j4.at λo e=>D.extBut _ o (d<|q0F) e;refine zxF<|zxF<|wpAny_onRaise ?_;refine zxF<|wpAny_nextOf_list_item (h3.at λo e=>S _ o (d<|q0y) (d<|by omega) (d<|q1t) (d<|by omega) e) (hl3.at λo e=>S _ o (d<|q0u d3) (d<|q1U d3) (d<|q1G d3) (d<|by omega) e) hw λg6 l6 i=>zxG ?_;have t6:=i.extBut _ _ (d<|by omega) R;refine zxF<|wpAny_seqItems t6 rfl ?_;refine zxF (Bm t6 λf G j=>?_)
 replace G:oj f (I+4) x y z:=G
 refine zxF<|wpAny_letGo<|zxG<|zxG ?_;have k7:=λp o n (m:p≠I) (r:p≠I+4) (u:p≠I+1) (v:p≠I+2) e=>j.extBut p o r<|i.extBut p o v<|S p o n m r u e;have i7:=i5.at λo e=>j.extBut _ o (d<|q0E)<|i.extBut _ o (d<|by omega) e;have j7:=j5.at λo e=>j.extBut _ o (d<|q0F)<|i.extBut _ o (d<|by omega) e;have l7:=l6.at λo e=>j.extBut _ o (d<|q1t) e;have z7:=j.extBut _ _ (d<|q0G)<|i.extBut _ _ (d<|by omega)<|D.extBut _ _ (d<|q0G)<|C.extBut _ _ (d<|by omega)<|F.extBut _ _ (d<|q0G)<|M.extBut _ _ (d<|q1z) g;have u7:=k7 _ _ (d<|q0z) (d<|by omega) (d<|by omega) (d<|by omega) (d<|by omega) B;have T:f.objs.size=s.heap.objs.size:=by rw[j.1,i.1,D.1,C.1,F.1,M.1,V.1]
 refine zxF<|wpAny_seqItems G rfl ?_;refine zxF<|wpAny_newTuple ?_;have zl:=zxI z7;refine zxF ?_;unfold Builtin.SmallTypes.ownedTupleHandOut;have z8:IsZip (f.push {cls:=.type "tuple",data:=.seq #[x,y,z]}) (I+5) (I+3) (I+4) .ellipsis:=zxH _ z7;refine zxF (wpAny_setField_rec z8 (by simp) λg9 U q9=>?_)
 replace U:IsZip g9 (I+5) (I+3) (I+4) (rawInt f.objs.size):=U
 refine wpAny_setField_rec U (by simp) λH J q0=>?_
 replace J:IsZip H (I+5) (I+3) (I+4) (rawInt f.objs.size):=J
 have l:∀(c:Nat) o,c≠I+5->f.get? c=some o->H.get? c=some o:=λc o c1 e=>q0.extBut _ _ c1<|q9.extBut _ _ c1<|zxH _ e;have hT:=q0.extBut _ _ (d<|.inr zl)<|q9.extBut _ _ (d<|.inr zl)<|zxJ _ rfl;refine zxG ⟨_,rfl, ?_⟩;rw[T]at J hT ⊢;exact hQ H ⟨J,l _ _ (d<|q0z) u7,⟨x,y,z,l _ _ (d<|q0C) G⟩,i7.at λo e=>l _ o (d<|q0i) e,j7.at λo e=>l _ o (d<|q0A) e,l7.at λo e=>l _ o (d<|q0y) e⟩ hT λc o hc e=>l c o (d<|q0m hc)<|k7 c o (d<|q0m hc) (d<|q1k hc) (d<|by omega) (d<|by omega) (d<|by omega) e
def m4{I l1 l2 l3 k:Nat}{xs Q}(hh:A.handled=none)(d1:l1<I)(Z:Z3 s.heap I l1 l2 l3 k .none)(hl1:s.heap.IsList l1 xs)(hx:xs[k]? = none)
 (hE:∀h' e,(∀(c:Nat) o,c<I\/I+5<c->s.heap.get? c=some o->h'.get? c=some o)->(∃o,h'.get? e=some o/\o.cls = .type "StopIteration")->E (.ref e) {s with heap:=h'}):
 wpAny (model prog w) A (Builtin.«zip.__next__» ⟨[.ref<|I+5],[]⟩) Q E s:=by
 obtain⟨i,m,⟨a,b,c,y⟩,z,J,K⟩:=Z;have g:∀{p q:Nat},p<q\/q<p->p≠q:=λh=>q0I h
 show wpAny _ _ (field _ 2 >>= _) _ _ _;refine zxF<|wpAny_field i rfl rfl ?_;refine zxF<|wpAny_field i rfl rfl ?_;refine zxF<|wpAny_seqItems m rfl ?_;refine zxF ?_;unfold Builtin.SmallTypes.ownedTupleIsFree;refine zxF<|wpAny_field i rfl rfl<|zxG ?_;simp only[if_true];refine zxF<|wpAny_rule ?_;refine zxF<|wpAny_field i rfl rfl ?_;refine zxF (wpAny_setField_rec i (by simp) λB d C=>?_)
 replace d:IsZip B (I+5) (I+3) (I+4) .ellipsis:=d
 refine zxF ?_;simp only[List.zipIdx_cons,List.zipIdx_nil,List.forIn_cons,List.forIn_nil];refine zxF<|zxF<|wpAny_onRaise ?_;have r:=λp o n=>C.extBut p o n;refine zxF<|wpAny_nextOf_list_end hh (z.at λo e=>r _ o (g<|q0i) e) (hl1.at λo e=>r _ o (g<|q0u d1) e) hx λD e u F=>?_;obtain⟨G,f,j⟩:=F;have l:=u _ _ (g<|q1z) d;have t:e≠I+5:=λx=>by subst x;rw[l]at f;cases f;simp at j
 refine wpAny_setField_rec l (by simp) λH _ v=>hE H e (λc o L x=>v.extBut _ _ (g<|q0m L)<|u _ _ (g<|q1k L)<|r c o (g<|q0m L) x) ⟨G,v.extBut _ _ t f,j⟩
end
section
variable{prog:Program}{w:World}{A:Around}{E:Value->Shared->Prop}{s:Shared}
def Dl{I l1 l2 l3 k:Nat}{xs ys zs x y z Q}(d1:l1<I)(d2:l2<I)(d3:l3<I)(Z:Z3 s.heap I l1 l2 l3 k .none)
 (hl1:s.heap.IsList l1 xs) (hl2:s.heap.IsList l2 ys) (hl3:s.heap.IsList l3 zs) (hx:xs[k]? = some x) (hy:ys[k]? = some y) (hw:zs[k]? = some z)
 (hQ:∀h',Z3 h' I l1 l2 l3 (k+1) (rawInt s.heap.objs.size)->oj h' s.heap.objs.size x y z->(∀(c:Nat) o,c<I\/I+5<c->s.heap.get? c=some o->h'.get? c=some o)->Q (some<|.ref s.heap.objs.size) {s with heap:=h'}):
 wpAny (model prog w) A (pyNext<|.ref<|I+5) Q E s:=by
 have hT:s.TypeIs (.ref<|I+5) "zip":=⟨_,Z.z,rfl⟩;unfold pyNext;exact zxF<|wpAny_attempt<|wpAny_callSpecial?_slot hT PySem.F.slot_zip_next<|zxN PySem.F.slot_zip_next hT PySem.F.entry_zip_next (qz d1 d2 d3 Z hl1 hl2 hl3 hx hy hw λh' a1 a2 a3=>zxG<|hQ h' a1 a2 a3)<|PySem.F.args_zip_next_1 _
def uA{I l1 l2 l3 k:Nat}{xs Q}(hh:A.handled=none)(d1:l1<I)(Z:Z3 s.heap I l1 l2 l3 k .none)(hl1:s.heap.IsList l1 xs)(hx:xs[k]? = none)
 (hQ:∀h',(∀(c:Nat) o,c<I\/I+5<c->s.heap.get? c=some o->h'.get? c=some o)->Q none {s with heap:=h'}):wpAny (model prog w) A (pyNext<|.ref<|I+5) Q E s:=by
 have hT:s.TypeIs (.ref<|I+5) "zip":=⟨_,Z.z,rfl⟩;unfold pyNext;refine zxF<|wpAny_attempt<|wpAny_callSpecial?_slot hT PySem.F.slot_zip_next<|zxN PySem.F.slot_zip_next hT PySem.F.entry_zip_next (m4 hh d1 Z hl1 hx λh' e hk he=>?_)<|PySem.F.args_zip_next_1 _;obtain⟨o,ho,hc⟩:=he;refine zxF<|wpAny_isInstance ⟨o,ho,hc⟩ isSubtype_stop ?_;exact zxG<|hQ _ hk
end
noncomputable abbrev fw(h:Heap)(l1 l2 l3:Nat):Heap:=zipH1 (zipH2 h l1 l2) l3
abbrev fE(h:Heap)(l1 l2 l3:Nat):Heap:=(fw h l1 l2 l3).push {cls:=.type "tuple",data:=.seq #[.ref h.objs.size,.ref (zipH1 h l1).objs.size,.ref (zipH2 h l1 l2).objs.size]}
abbrev fK(h:Heap)(l1 l2 l3:Nat):Heap:=(fE h l1 l2 l3).push {cls:=.type "tuple",data:=.seq #[.none,.none,.none]}
abbrev oT(h:Heap)(l1 l2 l3:Nat):Heap:=(fK h l1 l2 l3).push {cls:=.type "zip",data:=.fields #[.none,.bool false,.bool false,.ref (fw h l1 l2 l3).objs.size,.ref (fE h l1 l2 l3).objs.size]}
set_option maxHeartbeats 4000000 in
def lI(l1 l2 l3:Nat)(xs ys zs):Meets (Builtin.«zip.__new__» ⟨[.type "zip",.ref l1,.ref l2,.ref l3],[]⟩) (λ_ R s=>s.heap.IsList l1 xs/\s.heap.IsList l2 ys/\s.heap.IsList l3 zs/\
 R (.ok<|.ret<|.ref (fK s.heap l1 l2 l3).objs.size) {s with heap:=oT s.heap l1 l2 l3}):=
 .of_wp λprog w A R s h=>by
  obtain⟨hp,g,d,tk,os⟩:=s;obtain⟨hl1,hl2,hl3,h⟩:=h;have hsub:=sub_zip;have hL1:=hl1;have hL2:Heap.IsList (Shared.heap ⟨hp.push {cls:=.type "list_iterator",data:=.fields #[.ref l1,.int 0 0]},g,d,tk,os⟩) l2 ys:=Heap.IsList.push hl2 _;have hL3:Heap.IsList (Shared.heap ⟨(hp.push {cls:=.type "list_iterator",data:=.fields #[.ref l1,.int 0 0]}).push {cls:=.type "list_iterator",data:=.fields #[.ref l2,.int 0 0]},g,d,tk,os⟩) l3 zs:=Heap.IsList.push (Heap.IsList.push hl3 _) _
  wp_walk using wpAny_pyIter_list hL1,wpAny_pyIter_list hL2,wpAny_pyIter_list hL3
  exact⟨_,rfl,h⟩
theorem qQ(a b c):checkTypeCall "zip" ⟨[a,b,c],[]⟩=pure ():=by kernel_rfl
theorem rB(a b c):checkBuiltinCall "zip.__new__" ⟨[.type "zip",a,b,c],[]⟩=pure ():=by kernel_rfl
theorem tM(a b c d):argsOk "object.__init__" ⟨[a,b,c,d],[]⟩:=by
 unfold argsOk;rw[signature?_of (n:=['_','_','t','i','n','i','_','_']) (by kernel_rfl) PySem.F.owner_object];kernel_rfl
def IV{prog w A E s}{l1 l2 l3:Nat}{xs ys zs Q}(hl1:s.heap.IsList l1 xs)(hl2:s.heap.IsList l2 ys)(hl3:s.heap.IsList l3 zs)
 (h:∀h',Z3 h' s.heap.objs.size l1 l2 l3 0 .none->(∀c o,s.heap.get? c=some o->h'.get? c=some o)->Q (.ref<|s.heap.objs.size+5) {s with heap:=h'}):
 wpAny (model prog w) A (call (.type "zip") [.ref l1,.ref l2,.ref l3]) Q E s:=by
 refine callType_new PySem.F.called_zip (by decide) (qQ _ _ _) (rB _ _ _) (λobj=>tM obj _ _ _) PySem.F.entry_zip_new (lI l1 l2 l3 xs ys zs) ⟨hl1,hl2,hl3, ?_⟩;have z1:(zipH1 s.heap l1).objs.size=s.heap.objs.size+1:=zxL ..;have z2:(zipH2 s.heap l1 l2).objs.size=s.heap.objs.size+2:=by rw[zxL,z1]
 have z3:(fw s.heap l1 l2 l3).objs.size=s.heap.objs.size+3:=by rw[zxL,z2]
 have z4:(fE s.heap l1 l2 l3).objs.size=s.heap.objs.size+4:=by rw[zxL,z3]
 have z5:(fK s.heap l1 l2 l3).objs.size=s.heap.objs.size+5:=by rw[zxL,z4]
 have g6:(oT s.heap l1 l2 l3).get? (fK s.heap l1 l2 l3).objs.size=some _:=zxJ _ rfl;have g5:(oT s.heap l1 l2 l3).get? (fE s.heap l1 l2 l3).objs.size=some _:=zxH _<|zxJ _ rfl;have g4:(oT s.heap l1 l2 l3).get? (fw s.heap l1 l2 l3).objs.size=some _:=zxH _<|zxH _<|zxJ _ rfl;have g3:(oT s.heap l1 l2 l3).get? (zipH2 s.heap l1 l2).objs.size=some _:=zxH _<|zxH _<|zxH _<|zxJ _ rfl;have g2:(oT s.heap l1 l2 l3).get? (zipH1 s.heap l1).objs.size=some _:=zxH _<|zxH _<|zxH _<|zxH _<|zxJ _ rfl;have g1:(oT s.heap l1 l2 l3).get? s.heap.objs.size=some _:=zxH _<|zxH _<|zxH _<|zxH _<|zxH _<|zxJ _ rfl;rw[z3,z4,z5]at g6;rw[z4]at g5;rw[z1,z2,z3]at g4;rw[z2]at g3;rw[z1]at g2;rw[z5];exact⟨⟨_,g6,rfl⟩,h _ ⟨g6,g4,⟨_,_,_,g5⟩,⟨_,g1,rfl,rfl⟩,⟨_,g2,rfl,rfl⟩,⟨_,g3,rfl,rfl⟩⟩ λc o x=>zxH _<|zxH _<|zxH _<|zxH _<|zxH _<|zxH _ x⟩
def lX(K:zzA)(a b c:Addr):It:=
 ⟨λi H=>∃xs ys zs x y z,VX K H a xs/\VX K H b ys/\VX K H c zs/\xs[i]? = some x/\ys[i]? = some y/\zs[i]? = some z,
  λi H v H'=>∃T x y z,H T=none/\v = .ref T/\H'=upd H T (.tup [x,y,z])/\(∀xs,VX K H a xs->xs[i]? = some x)/\(∀ys,VX K H b ys->ys[i]? = some y)/\∀zs,VX K H c zs->zs[i]? = some z,
  λi H=>∃xs,VX K H a xs/\xs.length<=i⟩
def BH{I c:Nat}:c ∈ [I+5,I+3,I+4,I,I+1,I+2] ↔ I<=c/\c<=I+5:=by
 simp only[zzC,zxB,or_false];omega
def Jf{P w K elts}{kk:Nat}{pos}(a b c I:Nat)(d1:a<I)(d2:b<I)(d3:c<I):Turn P w K (.Tuple elts kk pos) (lX K a b c) [I+5,I+3,I+4,I,I+1,I+2] (I+5) (λi h=>Z3 h I a b c i .none)where
 mem:=by simp
 obj:=λi h st d hd=>by
  obtain⟨hz,hTI,⟨p,q,r,hTO⟩,⟨o1,e1,c1,f1⟩,⟨o2,e2,c2,f2⟩,⟨o3,e3,c3,f3⟩⟩:=st;simp only[zzC,zxB,or_false]at hd
  rcases hd with rfl|rfl|rfl|rfl|rfl|rfl
  . exact⟨_,hz,λv z=>by cases z⟩
  . exact⟨_,hTI,λv z=>by cases z⟩
  . exact⟨_,hTO,λv z=>by cases z⟩
  . exact⟨o1,e1,λv z=>by rw[f1]at z;cases z⟩
  . exact⟨o2,e2,λv z=>by rw[f2]at z;cases z⟩
  . exact⟨o3,e3,λv z=>by rw[f3]at z;cases z⟩
 keep:=λi h h' st k=>by
  obtain⟨hz,hTI,⟨p,q,r,hTO⟩,h1,h2,h3⟩:=st;exact⟨k _ (by simp) _ hz,k _ (by simp) _ hTI,⟨p,q,r,k _ (by simp) _ hTO⟩,h1.at λo e=>k _ (by simp) o e,h2.at λo e=>k _ (by simp) o e,h3.at λo e=>k _ (by simp) o e⟩
 item:=by
  intro X hP hw hK hc i pins s σ H E I' hf st hg;subst hP hw hK;obtain⟨xs,ys,zs,x,y,z,hq,hr,hs,hx,hy,hz⟩:=hg;obtain⟨its,rv,p,_⟩:=I'.list hq;obtain⟨jts,rv',p',_⟩:=I'.list hr;obtain⟨kts,rv'',p'',_⟩:=I'.list hs;obtain⟨u,hu,ru⟩:=rv.get hx;obtain⟨u',hu',ru'⟩:=rv'.get hy;obtain⟨u'',hu'',ru''⟩:=rv''.get hz;refine Dl d1 d2 d3 st p.isList p'.isList p''.isList (by simpa using hu) (by simpa using hu') (by simpa using hu'') λh1 hZ hT k1=>?_;refine⟨_,rfl,wpAny_letOwnedTupleGo_zip hZ.z λh2 hz2 q2=>?_⟩;have zl:I+5<s.heap.objs.size:=zxI st.z;have nq:∀{p q:Nat},p<q\/q<p->p≠q:=λh=>q0I h
  have hn:=I'.hok.fresh<|zzN _;have k2:∀c o,c ∉ [I+5,I+3,I+4,I,I+1,I+2]->s.heap.get? c=some o->h2.get? c=some o:=λc o hc e=>by
   rw[BH]at hc;exact q2.extBut c o (nq<|by omega)<|k1 c o (q1l hc) e
  have hT2:IsTup h2 s.heap.objs.size #[u,u',u'']:=⟨_,q2.extBut _ _ (nq<|.inr zl) hT,rfl,_,rfl⟩;obtain⟨_,t2,⟨ta,tb,tc,t3⟩,t4,t5,t6⟩:=hZ;refine⟨.ref s.heap.objs.size,upd H s.heap.objs.size<|.tup [x,y,z],RI (s:=s) (t':=s.toks) I' hf k2 (zzN _) ⟨by show 3<=sizeLine;decide,[u,u',u''],.cons ru<|.cons ru'<|.cons ru'' .nil,hT2⟩,rfl,⟨_,x,y,z,hn,rfl,rfl,λq hq'=>by rw[I'.list_inj hq' hq];exact hx,λq hq'=>by rw[I'.list_inj hq' hr];exact hy,λq hq'=>by rw[I'.list_inj hq' hs];exact hz⟩,⟨hz2,q2.extBut _ _ (nq<|q0z) t2,⟨ta,tb,tc,q2.extBut _ _ (nq<|q0C) t3⟩,t4.at λo e=>q2.extBut _ o (nq<|q0i) e,t5.at λo e=>q2.extBut _ o (nq<|q0A) e,t6.at λo e=>q2.extBut _ o (nq<|q0y) e⟩,λd hd=>?_⟩;have hd':=BH.mp hd;rw[zG<|nq<|by omega];exact(hf d hd).1
 done:=by
  intro X hP hw hK hc i pins s σ H E I' hf st hg;subst hP hw hK;obtain⟨xs,hq,hx⟩:=hg;obtain⟨its,rv,p,_⟩:=I'.list hq;have hl:=rv.length;refine uA (I'.ok.hd hc) d1 st p.isList (by simp;exact q0r hl hx) λh' k=>⟨rfl,MC (t':=s.toks) I' hf λc o hc e=>k c o ?_ e⟩;rw[BH]at hc;exact q1l hc
 self:=λ_ _ _ _ _ st h=>wpAny_pyIter_zip st.z h
section
variable{X:Cx}
def lM(K:zzA)(ta:TA):TI:=λσ H R=>ta σ H λvs H1=>∃a b c,vs=[.ref a,.ref b,.ref c]/\(∃xs,VX K H1 a xs)/\(∃ys,VX K H1 b ys)/\(∃zs,VX K H1 c zs)/\R (lX K a b c) H1
def rN{l l' l'' ta p pos pos' elts}{k:Nat}(hg:Gl X "zip")(hm:X.mg "zip"=none)(ha:PA X [l,l',l''] ta)(hs:starEach [l,l',l''] X.env=(false,eval l X.env)::starEach [l',l''] X.env)(hs2:(backTo pos<|starEach [l',l''] X.env).any (·.1)=false):
 PI X (.Tuple elts k pos') (.Call (.Name "zip" p) [l,l',l''] [] pos) (lM X.K ta):=by
 intro pins s σ H R I h;refine Call_<|Va I hg hm boot_zip<|PyProof.Rows.callWith_type1 (wo (ha pos pins s σ H _ I h) λus s1 ⟨vs,H1,I1,r1,q1⟩=>?_) hs hs2;obtain⟨a,b,c,rfl,⟨xs,hq⟩,⟨ys,hr⟩,⟨zs,ht⟩,q⟩:=q1;cases r1 with
 |cons r rr=>
  cases rr with
  |cons r' rr=>
   cases rr with
   |cons r'' rr=>
    cases rr;cases r;cases r';cases r'';obtain⟨its,rv,pl,hz⟩:=I1.list hq;obtain⟨jts,rw',pl',hz'⟩:=I1.list hr;obtain⟨kts,rx',pl'',hz''⟩:=I1.list ht;obtain⟨o1,ho1,_⟩:=pl.isList;obtain⟨o2,ho2,_⟩:=pl'.isList;obtain⟨o3,ho3,_⟩:=pl''.isList;refine IV pl.isList pl'.isList pl''.isList λh' hZ hk=>?_;refine wpAny_pyIter_zip hZ.z ⟨_,_,_,_,H1,rfl,I1.kept (t':=s1.toks) hk,Jf a b c s1.heap.objs.size (zxI ho1) (zxI ho2)<|zxI ho3,hZ,λd hd=>?_,q⟩;have hb':s1.heap.objs.size<=d:=(BH.mp hd).1;exact I1.fpOk hb'<|I1.hok.fresh hb'
end
noncomputable def Xn(st:Bool):List D->List D->List D->List Zj
 |x::r,y::t,z::u=>(st,.tup [x,y,z])::Xn st r t u
 |_,_,_=>[]
theorem Gb(st):∀(xs ys zs:List D),xs.length=ys.length->ys.length=zs.length->(Xn st xs ys zs).length=xs.length
 | [],_,_,_,_=>by simp[Xn]
 |_::_,[],_,h,_=>by simp at h
 |_::_,_::_,[],_,h=>by simp at h
 |_::r,_::t,_::u,h,h'=>by
  simp only[Xn,zzT]at h h' ⊢;rw[Gb st r t u (q1i h)<|q1i h']
theorem Ef{st}:∀{xs ys zs:List D}{i:Nat}{y:Zj},(Xn st xs ys zs)[i]? = some y->∃d e f,xs[i]? = some d/\ys[i]? = some e/\zs[i]? = some f/\y=(st,.tup [d,e,f])
 | [],_,_,_,_,h=>by simp[Xn]at h
 |_::_,[],_,_,_,h=>by simp[Xn]at h
 |_::_,_::_,[],_,_,h=>by simp[Xn]at h
 |x::r,y::t,z::u,0,w,h=>by
  simp only[Xn,List.getElem?_cons_zero]at h;cases h;exact⟨x,y,z,rfl,rfl,rfl,rfl⟩
 |x::r,y::t,z::u,i+1,w,h=>by
  simp only[Xn,List.getElem?_cons_succ]at h;obtain⟨d,e,f,h1,h2,h3,h4⟩:=Ef h;exact⟨d,e,f,by simpa using h1,by simpa using h2,by simpa using h3,h4⟩
noncomputable def iG:List RV->Option (RV×RV×RV)
 | [a,b,c]=>some (a,b,c)
 |_=>none
def CV(fr:AF):IF:=λas=>(fr as).bind λp=>(iG p.1).bind λo=>(fB o.1).bind λa=>(fB o.2.1).bind λb=>(fB o.2.2).bind λc=>if a.2.length=b.2.length/\b.2.length=c.2.length then some (Xn (a.1&&(b.1&&c.1)) a.2 b.2 c.2,p.2)else none
def rf{l a b c}(h:iG l=some (a,b,c)):l=[a,b,c]:=by
 match l,h with
 | [a,b,c],h=>cases h;rfl
section
variable{X:Cx}{kd:KD}
def J9{K F H a b c vs ws us st ds es fs}(ft:∀a,F a->H a≠none)(hs:∀H3:Hp,(∀b u,H b=some u->H3 b=some u)->VX K H3 a vs)(hs':∀H3:Hp,(∀b u,H b=some u->H3 b=some u)->VX K H3 b ws)(hs'':∀H3:Hp,(∀b u,H b=some u->H3 b=some u)->VX K H3 c us)
 (r:RpL K kd (λa=>st=true/\F a) H vs ds) (r':RpL K kd (λa=>st=true/\F a) H ws es) (r'':RpL K kd (λa=>st=true/\F a) H us fs) (q1:ds.length=es.length) (q2:es.length=fs.length):ItC K kd F H (lX K a b c) (Xn st ds es fs):=⟨λH3 T k hT i=>by
 have hr3:=hs H3 k;have hr4:=hs' H3 k;have hr5:=hs'' H3 k;have hlen:=Gb st ds es fs q1 q2;have l1:=r.length;refine⟨λhi=>?_,λhi=>⟨_,hr3,by omega⟩,λv H4 hy=>?_⟩
 . obtain⟨u,hu,_⟩:=r.get<|zzE (show i<ds.length by omega);obtain⟨u',hu',_⟩:=r'.get<|zzE (show i<es.length by omega);obtain⟨u'',hu'',_⟩:=r''.get<|zzE (show i<fs.length by omega);exact⟨_,_,_,u,u',u'',hr3,hr4,hr5,hu,hu',hu''⟩
 . obtain⟨A,x,y,z,hn,rfl,rfl,hv,hv',hv''⟩:=hy;have hnH:H A=none:=by
    cases e:H A with
    |none=>rfl
    |some u=>rw[k A u e]at hn;cases hn
   refine⟨xF hn,λq hq=>?_⟩;obtain⟨d,e,f,hd,he,hf,rfl⟩:=Ef hq;obtain⟨u,hu,ru⟩:=r.get hd;obtain⟨u',hu',ru'⟩:=r'.get he;obtain⟨u'',hu'',ru''⟩:=r''.get hf;have e1:=hv _ hr3;rw[hu]at e1;cases e1;have e2:=hv' _ hr4;rw[hu']at e2;cases e2;have e3:=hv'' _ hr5;rw[hu'']at e3;cases e3;have up:∀{v:V}{d:D},Rp K kd (λa=>st=true/\F a) H v d->Rp K kd (λa=>st=true/\(F a\/T a)) (upd H3 A<|.tup [x,y,z]) v d:=λrp=>
    (rp.since (λb o q=>xF hn b o<|k b o q) λa z=>(hT a z).1).less λa z=>z.2.elim (λy=>.inl ⟨z.1,y⟩) .inr
   exact .tup (λz=>z.2.elim (λy=>ft A y hnH) λy=>(hT A y).2 hn) (.inl z_)<|.cons (up ru)<|.cons (up ru')<|.cons (up ru'') .nil⟩
def qy{l l' l'' fr p pos pos' elts}{k:Nat}(hg:Gl X "zip")(hm:X.mg "zip"=none)(ha:AA X kd [l,l',l''] fr)(hs:starEach [l,l',l''] X.env=(false,eval l X.env)::starEach [l',l''] X.env)(hs2:(backTo pos<|starEach [l',l''] X.env).any (·.1)=false):
 qF X kd (.Tuple elts k pos') (.Call (.Name "zip" p) [l,l',l''] [] pos) (CV fr):=by
 with_unfolding_all (
 intro pins s σ H R I h;obtain⟨F,B,ad,as,ds,as',Rl,e',q⟩:=h;obtain⟨⟨rs,as1⟩,h1,z1⟩:=bS_<|e';obtain⟨⟨o1,o2,o3⟩,e1,z2⟩:=bS_ z1;obtain⟨⟨s1,d1⟩,e2,z3⟩:=bS_ z2;obtain⟨⟨s2,d2⟩,e3,z4⟩:=bS_ z3;obtain⟨⟨s3,d3⟩,e4,z5⟩:=bS_ z4;obtain⟨⟨q1,q2⟩,z6⟩:=zv z5;cases rf e1;cases OZ e2;cases OZ e3;cases OZ e4;cases z6;refine rN hg hm ha hs hs2 pins s σ H R I ⟨F,B,ad,as,_,as1,Rl,h1,λvs ad1 H1 R1 rv1 g1=>?_⟩;cases rv1 with
 |cons r1 rr=>
  cases rr with
  |cons r2 rr=>
   cases rr with
   |cons r3 rr=>
    cases rr;have ls:∀{st:Bool}{l:List D},sW (.ow<|.lf st<|.lst l)=some (st,false,l):=rfl;obtain⟨a,vs,rfl,sa,ka,ra⟩:=Wu (ls) r1;obtain⟨b,ws,rfl,sb,kb,rb⟩:=Wu (ls) r2;obtain⟨c,us,rfl,sc,kc,rc⟩:=Wu (ls) r3;refine⟨a,b,c,rfl,⟨_,sa⟩,⟨_,sb⟩,⟨_,sc⟩,q _ ad1 H1 R1 g1<|J9 (R1.trk true) (λH3 k=>ka H3 λb u n h=>k b u h) (λH3 k=>kb H3 λb u n h=>k b u h) (λH3 k=>kc H3 λb u n h=>k b u h) (ra.less λa z=>?_) (rb.less λa z=>?_) (rc.less λa z=>?_) q1 q2⟩
    . have z1:=(Bool.and_eq_true_iff.mp z.1).1;rw[z1];exact z.2
    . have z1:=(Bool.and_eq_true_iff.mp (Bool.and_eq_true_iff.mp z.1).2).1;rw[z1];exact z.2
    . have z1:=(Bool.and_eq_true_iff.mp (Bool.and_eq_true_iff.mp z.1).2).2;rw[z1];exact z.2)
end
structure Co(x:Str)(P:Program)(w:World)(K:zzA)(mg:Str->Option Value)(base:Heap)(kd:KD)(k:Nat)(f:Addr)(d:FuncData)(ps:List Str)(gg:List (Bool×D)->Option O):Prop where
 F:FnOk P w K mg base wV k f d ps (RD K kd gg)
 m:mg x=some (.ref f)
 kp:W.keepIn K (.ref f)=true
 b:Binds K d ps []
noncomputable def Di:List Str->List Str->List (Option Nat)->List Str
 |t::ts,XN,none::c=>t::Di ts XN c
 | [],XN,none::c=>""::Di [] XN c
 |ts,XN,some j::c=>XN.getD j ""::Di ts XN c
 |_,_,[]=>[]
def iV:Expr->Str
 | .Name x _=>x
 |_=>""
def ph:Expr->List Str
 | .Tuple es _ _=>es.map iV
 |e=>[iV e]
noncomputable def km:Nat->List (Option Nat)->List Nat
 |_,[]=>[]
 |k,none::c=>k::km (k+1) c
 |k,some _::c=>km (k+1) c
theorem Ow:∀(c d:List (Option Nat)) (i:Nat),i ∈ km d.length c->(d++c)[i]? = some none
 | [],_,_,h=>nomatch h
 |none::c,d,i,h=>by
  have ih:=Ow c (d++[none]) i;rw[zzJ,zxC]at ih
  rcases zzC.mp (h)with rfl|h
  . simp
  . exact ih h
 |some x::c,d,i,h=>by
  have ih:=Ow c (d++[some x]) i;rw[zzJ,zxC]at ih;exact ih h
def Aw{cap}:(km 0 cap).all (λi=>cap[i]? == some none)=true:=List.all_eq_true.mpr λi m=>by
 have:=Ow cap [] i m;rw[List.nil_append]at this;rw[this];rfl
def bS{N:List Str}(h:decide N.Nodup=true):N.Nodup:=of_decide_eq_true h
section
variable{X:Cx}{kd:KD}{elt tg iter e:Expr}{es ifs:List Expr}{scope:Scope}{pos p:Pos}{cap:List (Option Nat)}{g:GF}{tt:TF}{fe:EF}{fi:IF}{S:List Nat}{fr:AF}{k n:Nat}
def cq{f d ps gg x}(C:Co x X.prog X.w X.K X.mg X.base kd k f d ps gg)(hr:Room n X.A)(ha:AA X kd (e::es) fr)(hn:k<=n:=by omega)(hg:Gl X x:=by rfl)(hdb:(x==("__debug__":Str))=false:=by decide)(he:starEach (e::es) X.env=(false,eval e X.env)::starEach es X.env:=by rfl)(hpl:(backTo pos<|starEach es X.env).any (·.1)=false:=by rfl):
 AE X kd (.Call (.Name x p) (e::es) [] pos) (zj fr gg):=CZ C.F (hr.mono hn) hg C.m C.kp C.b ZP ha hdb he hpl
def aw{a}{i:Nat}{gs}(h1:AG X kd a [i] g)(h2:pB X kd es S gs)(hs:(assignEach (a::es) X.env).map (·.2)=assign a X.env::(assignEach es X.env).map (·.2):=by rfl):pB X kd (a::es) (i::S) (yH g gs):=X2 h1 h2 hs
def kr(X:Cx)(kd:KD)(tg:Expr)(g:GF):Prop:=∃S,AG X kd tg S g
def uD(X:Cx)(kd:KD)(es:List Expr)(gs:pJ):Prop:=∃S,pB X kd es S gs
def eN(i:Nat){x}(hN:X.N.Nodup)(hi:X.N[i]? = some x:=by rfl)(hx:Loc X.env.scope x:=by first|exact Or.inl rfl|exact Or.inr rfl)(hf:X.fn x=true\/X.env.scope.names.lookup x=some .local:=by first|exact Or.inl rfl|exact Or.inr rfl):kr X kd (.Name x pos) (gN i):=⟨_,Ie hN hi hx hf⟩
def eh{gs}{j m:Nat}(h:uD X kd es gs)(hc:X.calm=true:=by rfl)(hn:(assignEach es X.env).length=m:=by rfl)(hst:(assignEach es X.env).findIdx? (·.1)=none:=by rfl):kr X kd (.Tuple es j pos) (gT m gs):=h.elim λ_ h=>⟨_,Bg hc h hn hst⟩
def eO{a gs}(h1:kr X kd a g)(h2:uD X kd es gs)(hs:(assignEach (a::es) X.env).map (·.2)=assign a X.env::(assignEach es X.env).map (·.2):=by rfl):uD X kd (a::es) (yH g gs):=h1.elim λ_ h1=>h2.elim λ_ h2=>⟨_,X2 h1 h2 hs⟩
def da:uD X kd [] XI:=⟨_,Ll⟩
def bY{body f}(hi:AI X kd tg iter fi)(hg:kr X kd tg g)(hb:JV X kd body f)(hp:PassesOwn (model X.prog X.w) X.A X.env X.xe:=by exact PassesOwn.never)(hc:X.calm=true:=by rfl)(hs:∀x,foldedSetIterable iter X.env x=pure x:=by exact λ_=>rfl):HK X kd (.For tg iter body [] pos) (yC fi g f):=hg.elim λ_ hg=>nE hp hc hi hg hb hs
def dh(he:AE X kd e fe)(hg:kr X kd tg g)(hs:swapsWithSole [tg] e pos.line X.env=pure false:=by rfl)(hw:swappedStores [tg] e X.env=pure none:=by rfl)(h1:(assignEach [tg] X.env).map (·.2)=[assign tg X.env]:=by rfl):HK X kd (.Assign [tg] e pos) (VW fe g):=hg.elim λ_ hg=>nk he hg hs hw h1
theorem cm(hi:qF X kd tg iter fi)(hg:∀cl s H fp,AG (yR X (Di (ph tg) X.N cap) scope cl s H fp) kd tg (km 0 cap) g)(ht:∀cl s H fp,J2 (yR X (Di (ph tg) X.N cap) scope cl s H fp) ifs<|qi X.K kd tt)(he:∀cl s H fp,AE (yR X (Di (ph tg) X.N cap) scope cl s H fp) kd elt fe)
 (hc:X.calm=true:=by rfl) (hk:scope.kind = .function:=by rfl) (hcap:U6 (Di (ph tg) X.N cap) X.N scope.names X.env.scope.names cap=true:=by kernel_rfl) (hs:∀x,foldedSetIterable iter X.env x=pure x:=by exact λ_=>rfl):AE X kd (.ListComp elt [⟨tg,iter,ifs,0⟩] scope pos) (zU fi cap g tt fe):=BX hc hi hk hcap Aw hg ht he hs
theorem ag{z}{i:Nat}{y py spos}(hN:X.N.Nodup)(hi:qF X kd tg iter fi)(hg:∀cl s H fp,AG (yR X (Di (ph tg) X.N cap) scope cl s H fp) kd tg (km 0 cap) g)(ht:∀cl s H fp,J2 (yR X (Di (ph tg) X.N cap) scope cl s H fp) ifs<|qi X.K kd tt)(he:∀cl s H fp,AE (yR X (Di (ph tg) X.N cap) scope cl s H fp) kd elt fe)
 (hiy:X.N[i]? = some y:=by rfl) (hy:Loc X.env.scope y:=by first|exact Or.inl rfl|exact Or.inr rfl) (hf:X.fn y=true\/X.env.scope.names.lookup y=some .local:=by first|exact Or.inl rfl|exact Or.inr rfl) (hsw:swapsWith (.ListComp elt [⟨tg,iter,ifs,0⟩] scope pos) (some<|.Name y py) spos.line X.env=pure true:=by rfl)
 (hc:X.calm=true:=by rfl) (hk:scope.kind = .function:=by rfl) (hcap:U6 (Di (ph tg) X.N cap) X.N scope.names X.env.scope.names cap=true:=by kernel_rfl) (hs:∀x,foldedSetIterable iter X.env x=pure x:=by exact λ_=>rfl):HK X kd (.Assign [.Name y py] (.ListComp elt [⟨tg,iter,ifs,0⟩] scope pos) spos) (zr z i<|zU fi cap g tt fe):=tP hN hiy hy hf hsw hc hi hk hcap Aw hg ht he hs
end
abbrev zQ(n:Nat)(x:Int):Prop:=0<=x/\x<(n:Int)
structure LJ(n:Nat)(j:Int->Int->Int)(e:Int):Prop where
 cl:∀a b,zQ n a->zQ n b->zQ n (j a b)
 ce:zQ n e
 ul:∀a,zQ n a->j e a=a
 ur:∀a,zQ n a->j a e=a
 as:∀a b c,zQ n a->zQ n b->zQ n c->j (j a b) c=j a (j b c)
structure LD(n m:Nat)(j:Int->Int->Int)(e:Int)(d:Int->Int->Int):Prop where
 cl:∀c a,zQ m c->zQ n a->zQ n (d c a)
 em:d 0 e=e
 dn:∀a i b k,zQ n a->zQ m i->zQ n b->zQ m k->d ((i+k)%m) (j a b)=j (d i a) (d k b)
def Uv{n:Nat}(hn:0<n):zQ n (x%n):=⟨zyN _<|q1u hn,zyH _<|q0c hn⟩
def LD.congr{n m:Nat}(hm:0<m)(hj:LJ n j e)(h:LD n m j e d)(q:∀a b,zQ n a->zQ n b->j' a b=j a b)(p:∀c a,zQ m c->zQ n a->d' c a=d c a):LD n m j' e d':=by
 refine⟨λc a r f=>by rw[p c a r f];exact h.cl c a r f,by rw[p 0 e ⟨by omega,q0c hm⟩ hj.ce];exact h.em,λa i b k f l g o=>?_⟩;rw[q a b f g,p _ _ (Uv hm)<|hj.cl a b f g,p i a l f,p k b o g,q _ _ (h.cl i a l f)<|h.cl k b o g];exact h.dn a i b k f l g o
def jS(n:Nat)(a b:Int):Int:=(a+b)%n
def jM(a b:Int):Int:=if b > a then b else a
def jL(a b:Int):Int:=if b=0 then a else b
def cF{n:Nat}(hn:0<n):LJ n (jS n) 0:=by
 refine⟨λa b _ _=>Uv hn,⟨by omega,q0c hn⟩,λa d=>?_,λa d=>?_,λa b c _ _ _=>?_⟩
 . unfold jS;rw[Int.zero_add,Int.emod_eq_of_lt d.1 d.2]
 . unfold jS;rw[Int.add_zero,Int.emod_eq_of_lt d.1 d.2]
 . unfold jS;rw[Int.emod_add_emod,Int.add_emod_emod,Int.add_assoc]
def ai{n:Nat}(hn:0<n):LJ n jM 0:=by
 refine⟨λa b d e=>?_,⟨by omega,q0c hn⟩,λa d=>?_,λa d=>?_,λa b c _ _ _=>?_⟩<;>unfold jM<;>(try unfold jM)<;>grind
def au{n:Nat}(hn:0<n):LJ n jL 0:=by
 refine⟨λa b d e=>?_,⟨by omega,q0c hn⟩,λa d=>?_,λa d=>?_,λa b c _ _ _=>?_⟩<;>unfold jL<;>grind
def four{P:Int->Prop}(h0:P 0)(h1:P 1)(h2:P 2)(h3:P 3)(h:zQ 4 a):P a:=by
 rcases(show a=0\/a=1\/a=2\/a=3 by have:=h.1;have:=h.2;omega)with rfl|rfl|rfl|rfl<;>assumption
def f4{P:Int->Prop}(h:∀a ∈ ([0,1,2,3]:List Int),P a){a:Int}(ha:zQ 4 a):P a:=four (h 0<|by decide) (h 1<|by decide) (h 2<|by decide) (h 3<|by decide) ha
def bP{n m:Nat}{g x0 x1:Int}(hn:0<n)(hm:0<m)(g0:0<g)(gn:g ∣ n)(gm:g ∣ m):LD n m (jS n) 0 (λc a=>(a*x0+c*((n:Int)/g)*x1)%n):=by
 refine⟨λc a _ _=>Uv hn,by simp,λa i b k _ _ _ _=>?_⟩;obtain⟨t,e⟩:=gm;have h:(m:Int)*((n:Int)/g)=n*t:=by
  obtain⟨s,f⟩:=gn;rw[f,Int.mul_ediv_cancel_left _<|q1C g0,e];grind
 unfold jS;rw[<-Int.add_emod];generalize n/g=d at h;rw[Int.emod_def (i+k) m,Int.emod_def (a+b) n];generalize (i+k)/m=q;generalize (a+b)/n=p;rw[show _*x0+_*d*x1=(a*x0+i*d*x1+(b*x0+k*d*x1))+n*(-(p*x0)-t*q*x1) by grind,Int.add_mul_emod_self_left]
def bF{n m:Nat}{r:Int->Int}(hm:0<m)(h0:r 0=0)(hc:∀a,zQ n a->zQ n (r a))(hr:∀a b,zQ n a->zQ n b->a<=b->r a<=r b):LD n m jM 0 (λ_ a=>r a):=by
 refine⟨λc a _ d=>hc a d,h0,λa i b k d _ e _=>?_⟩;unfold jM;have f:=hr a b d e;have g:=hr b a e d
 split<;>split<;>grind
def bA{n m:Nat}{r:Int->Int}(h0:r 0=0)(hc:∀a,zQ n a->zQ n (r a))(hr:∀a,zQ n a->a≠0->r a≠0):LD n m jL 0 (λ_ a=>r a):=by
 refine⟨λc a _ d=>hc a d,h0,λa i b k d _ e _=>?_⟩;unfold jL;have f:=hr b e
 split<;>split<;>grind
def lu{n1 n2:Nat}(hx:zQ n1 x)(hy:zQ n2 y):zQ (n1*n2) (x*n2+y):=by
 have b:0<=x*n2:=Int.mul_nonneg hx.1<|q0a;have a:x*n2<=(n1-1)*n2:=Int.mul_le_mul_of_nonneg_right (by have:=hx.2;omega)<|q0a;rw[Int.sub_mul,Int.one_mul]at a;refine⟨by have:=hy.1;omega, ?_⟩;rw[zzV];have:=hy.2;omega
def ye{n1 n2:Nat}(h2:0<n2)(h:zQ (n1*n2) p):zQ n1 (p/n2)/\zQ n2 (p%n2):=
 ⟨⟨Int.ediv_nonneg h.1 (by omega),Int.ediv_lt_of_lt_mul (q0c h2)<|by have:=h.2;rw[zzV]at this;exact this⟩,Uv h2⟩
def Um{n2:Nat}(hy:zQ n2 y):(x*n2+y)/n2=x/\(x*n2+y)%n2=y:=by
 have a:(n2:Int)≠0:=by have:=hy.1;have:=hy.2;omega
 constructor
 . rw[Int.add_comm,Int.add_mul_ediv_right _ _ a,Int.ediv_eq_zero_of_lt hy.1 hy.2,Int.zero_add]
 . rw[Int.add_comm,Int.add_mul_emod_self_right,Int.emod_eq_of_lt hy.1 hy.2]
def gp{n2:Nat}{p:Int}:(p/n2)*n2+p%n2=p:=by rw[Int.mul_comm];exact Int.mul_ediv_add_emod p n2
def jB(n2:Nat)(j1 j2:Int->Int->Int)(p q:Int):Int:=j1 (p/n2) (q/n2)*n2+j2 (p%n2) (q%n2)
def dB(n2:Nat)(d1 d2:Int->Int->Int)(c p:Int):Int:=d1 c (p/n2)*n2+d2 c (p%n2)
def nj{n k:Nat}(h:n<=8)(hk:8<=k:=by decide):n<=k:=zzO h hk
def nh{n:Nat}(h:1<=n):(0:Int)<n:=Int.natCast_pos.mpr h
def tS{a:Int}{n:Nat}(h0:0<=a)(h1:a<n):a.toNat<n:=Int.ofNat_lt.mp (by rw[zyY h0];exact h1)
def mU{n:Nat}(h:n<=8)(hk:8<k:=by decide):(n:Int)<k:=Int.lt_of_le_of_lt (Int.ofNat_le.mpr h) hk
def iT{n:Nat}(h:zQ n x):x.toNat<n:=Int.ofNat_lt.mp (by rw[zyY h.1];exact h.2)
def iC{n:Nat}(h:zQ n x):((x.toNat:Nat):Int)=x:=zyY h.1
noncomputable def Zw(r:List Int)(v:Int):Int:=(r[v.toNat]?).getD 0
def yi(J:List (List Int))(w v:Int):Int:=Zw ((J[w.toNat]?).getD []) v
def Ig(J:List (List Int))(e:Int):List Int->Int
 | []=>e
 |x::t=>t.foldl (yi J) x
section
variable{n m:Nat}{J T:List (List Int)}{e:Int}
theorem Sg(h:LJ n (yi J) e):∀(t:List Int) (w:Int),zQ n w->(∀x ∈ t,zQ n x)->zQ n (t.foldl (yi J) w)
 | [],w,a,_=>a
 |v::t,w,a,k=>Sg h t _ (h.cl w v a<|k v<|zzF ..) λx m=>k x<|zzD _ m
def XF(h:LJ n (yi J) e)(k:∀x ∈ r,zQ n x):zQ n (Ig J e r):=by
 cases r with
 |nil=>exact h.ce
 |cons x t=>exact Sg h t x (k x<|zzF ..) λy m=>k y<|zzD _ m
theorem RL(h:LJ n (yi J) e):∀(t:List Int) (w:Int),zQ n w->(∀x ∈ t,zQ n x)->t.foldl (yi J) w=yi J w (Ig J e t)
 | [],w,a,_=>(h.ur w a).symm
 |x::t,w,a,k=>by
  have b:=k x<|zzF ..;have c:=λy m=>k y<|zzD _ m;show t.foldl _ _=yi J w (t.foldl _ x);rw[RL h t _ (h.cl w x a b) c,RL h t x b c,h.as _ _ _ a b<|XF h c]
def D2(h:LJ n (yi J) e)(k:∀x ∈ l,zQ n x)(k':∀x ∈ l',zQ n x):Ig J e (l++l')=yi J (Ig J e l) (Ig J e l'):=by
 cases l with
 |nil=>exact(h.ul _<|XF h k').symm
 |cons x t=>
  show(t++l').foldl _ x=_;rw[List.foldl_append];exact RL h l' _ (XF h k) k'
theorem BU(hm:0<m)(h:LJ n (yi J) e)(d:LD n m (yi J) e (yi T)):∀r:List Int,(∀x ∈ r,zQ n x)->Ig J e (r.map<|yi T<|1%(m:Int))=yi T ((r.length:Int)%m) (Ig J e r)
 | [],_=>by
  show e=yi T ((0:Int)%m) e;rw[Int.zero_emod,d.em]
 |x::t,k=>by
  have b:=k x<|zzF ..;have a:=λy m=>k y<|zzD _ m;have c:zQ m (1%m):=Uv hm;have f:∀y ∈ t.map (yi T<|1%m),zQ n y:=λy g=>by
   obtain⟨z,i,rfl⟩:=zxD.mp g;exact d.cl _ _ c<|a z i
  have j:Ig J e (x::t)=yi J x _:=RL h t x b a;have l:Ig J e ((x::t).map _)=yi J _ _:=RL h _ _ (d.cl _ _ c b) f;rw[l,BU hm h d t a,j,<-d.dn _ _ _ _ b c (XF h a) (Uv hm),<-Int.add_emod,zzT,Int.natCast_add,Int.add_comm t.length];rfl
end
local macro_rules | `(tactic| trivial)=>`(tactic| first|with_reducible first|assumption|exact Int.natCast_nonneg _|exact Nat.le_refl _|exact Int.le_refl _|exact rfl|exact nj (by assumption)|exact nh (by assumption)|exact np2 (by assumption)|exact nq1 (by assumption)|exact nq2 (by assumption)|exact Int.natCast_pos.mpr (by assumption)|exact Nat.le_trans (by assumption) (by decide)|exact bgL _|exact bgU (by assumption)|exact mU (by assumption)|exact zI _|exact bL0 (by assumption)|exact bU0 (by assumption) (by assumption)|exact iL (by assumption)|exact iU (by assumption) (by assumption)|exact iC (by assumption)|exact iT (by assumption)|exact stL (by assumption)|exact stU (by assumption)|exact lnK (by assumption) (by assumption) (by assumption)|exact zi1 _|exact lnE (by assumption)|exact ltL (by assumption)|exact Int.toNat_of_nonneg (by assumption)|exact tS (by assumption) (by assumption)|exact b6 (by assumption)|exact Int.emod_nonneg _ (by decide)|exact Int.emod_lt_of_pos _ (by decide)|decide|omega)
noncomputable abbrev BY(x:Int):O:=.lf true<|.int x
abbrev sI(x:Int):Option O:=some<|BY x
abbrev sT(d:D):Option O:=some<|.lf true d
abbrev sN(os:List O):Option O:=some<|.nd .ls os
abbrev TZ:Type:=List<|List Int
abbrev DD:Type:=List<|Str×TZ
abbrev SS:Type:=List<|Str×List Int
def K8{f as as1 o}(h:f as=some (.ow o,as1))(hs:o.str=true):zy f as=some (.rt o):=by
 unfold zy;rw[h];show((if o.str=true then some o else none).bind _)=_;rw[if_pos hs];rfl
theorem ZV:∀xs:List Int,(xs.map BY).all O.isLf=true/\O.strs (xs.map BY)=true/\O.toDs (xs.map BY)=xs.map D.int
 | []=>⟨rfl,rfl,rfl⟩
 |x::r=>⟨(ZV r).1,(ZV r).2.1,congrArg _ (ZV r).2.2⟩
def SE(ys)(w):(ys++[w]).map BY=ys.map BY++[O.lf true<|.int w]:=by rw[zyM];rfl
def XA(xs:List Int):(O.nd .ls<|xs.map BY).str=true/\(O.nd .ls<|xs.map BY).toD = .lst (xs.map D.int):=⟨(ZV xs).2.1,congrArg D.lst (ZV xs).2.2⟩
abbrev xO(r:List Int):O:=.nd .ls<|r.map BY
noncomputable abbrev zi(r:List Int):D:=.lst<|r.map D.int
def S_{g fe as0 as1 y r o os}(h1:g y as0=some as1)(h2:fe as1=some (.ow o,as1))(hs:o.str=true)(h3:xB g yD fe as0 r=some os):xB g yD fe as0 (y::r)=some (o::os):=by
 unfold xB;rw[h1];show((fe as1).bind _)=_;rw[h2];show(if o.str=true then _ else _)=_;rw[if_pos hs,h3];rfl
theorem xi:∀(n:Nat) (k:Int),(yY k n).length=n
 |0,_=>rfl
 |n+1,k=>by rw[TL];exact congrArg (· + 1)<|xi n<|k+1
def DG{f as x}(h:WE f as x):∃o,zy f as=some (.rt o)/\o.str=true/\o.toD=x:=by
 obtain⟨o,b,a,c⟩:=h;exact⟨o,K8 b a,a,c⟩
theorem K3:∀{n:Nat}{k:Int}{y:Zj},y ∈ yY k n->∃b:Int,y=(true,.int b)/\k<=b/\b<k+n
 |0,_,_,h=>nomatch h
 |n+1,k,y,h=>by
  rw[TL]at h
  rcases zzC.mp h with rfl|h
  . exact⟨k,rfl,by trivial,by trivial⟩
  . obtain⟨b,e,a,c⟩:=K3 h;exact⟨b,e,by trivial,by trivial⟩
theorem EO{α:Type}(toD){Q:α->Prop}{g fe as0}:∀{xs:List Zj},(∀y ∈ xs,∃as1 a,g y as0=some as1/\WE fe as1 (toD a)/\Q a)->∃(os:List O) (l:List α),xB g yD fe as0 xs=some os/\O.strs os=true/\O.toDs os=l.map toD/\l.length=xs.length/\∀a ∈ l,Q a
 | [],_=>⟨[],[],rfl,rfl,rfl,rfl,λ_ m=>nomatch m⟩
 |y::e,H=>by
  obtain⟨f,a,h,⟨o,i,d,j⟩,k⟩:=H y<|zzF ..;obtain⟨c,l,n,p,q,r,s⟩:=EO toD λz m=>H z<|zzD _ m;refine⟨o::c,a::l,S_ h i d n,by show(o.str&&O.strs c)=true;rw[d,p];rfl,by show o.toD::O.toDs c=_;rw[j,q];rfl,congrArg (· + 1) r,λb m=>?_⟩
  rcases zzC.mp m with rfl|m
  . exact k
  . exact s b m
def t9{α:Type}(toD:α->D){Q:α->Prop}{fi cap g fe as xs}(h1:fi as=some (xs,as))(hl:xs.length<=1000)(H:∀y ∈ xs,∃as1 a,g y (Yq cap as)=some as1/\WE fe as1 (toD a)/\Q a):
 ∃l:List α,l.length=xs.length/\(∀a ∈ l,Q a)/\WE (zU fi cap g yD fe) as (.lst<|l.map toD):=by
 obtain⟨h,l,b,c,d,e,f⟩:=EO toD H;exact⟨l,e,f,_,Pz h1 (JA<|by trivial) b,c,congrArg D.lst d⟩
def lY{α:Type}(toD:α->D){Q:α->Prop}{fr cap fe as}{n:Nat}{u}(h1:WA fr as [(u,.int n)])(hl:n<=1000)(H:∀b:Int,0<=b->b<n->∃as1 a,gN 0 (true,.int b) (Yq cap as)=some as1/\WE fe as1 (toD a)/\Q a):
 ∃l:List α,l.length=n/\(∀a ∈ l,Q a)/\WE (zU (yG fr yS) cap (gN 0) yD fe) as (.lst<|l.map toD):=by
 obtain⟨l,c,d,e⟩:=t9 toD (xu h1 (by trivial)<|by trivial) (by rw[xi];trivial) (λy m=>by
  obtain⟨b,rfl,f,h⟩:=K3 m;exact H b f<|by trivial)
 rw[xi]at c;exact⟨l,by trivial,d,e⟩
def Row(n:Nat)(r:List Int):Prop:=r.length=n/\∀x ∈ r,0<=x/\x<(n:Int)
def Tab(k n:Nat)(T:TZ):Prop:=T.length=k/\∀r ∈ T,Row n r
abbrev xD(T:TZ):D:=.lst<|T.map zi
def AH{r}{P:Int->Prop}{k}(h0:0<=k)(h1:k<r.length)(hp:∀x ∈ r,P x):∃x,zx (zi r) (.int k)=some (.im<|.int x)/\P x:=by
 have a:k.toNat<r.length:=by trivial
 refine⟨r[k.toNat], ?_,hp _<|zyZ a⟩;have h:=Pj (xs:=r.map D.int) (by rw[zzI,zzE a];rfl);rw[show(k.toNat:Int)=k by trivial]at h;show Dc _=_;rw[h];rfl
def nY{α:Type}(toD){T:List α}{P:α->Prop}{k:Int}(h0:0<=k)(h1:k<T.length)(hp:∀r ∈ T,P r):∃r,zx (.lst<|T.map toD) (.int k)=some (.im<|toD r)/\P r:=by
 have a:k.toNat<T.length:=by trivial
 refine⟨T[k.toNat], ?_,hp _<|zyZ a⟩;have h:=Pj (xs:=T.map toD) (by rw[zzI,zzE a];rfl);rw[show(k.toNat:Int)=k by trivial]at h;show Dc _=_;rw[h];rfl
def Xd{α:Type}{f}{l:List α}{i:Nat}{p}(h:l[i]? = some p):zx (.lst<|l.map f) (.int (i:Int))=some (.im<|f p):=by
 have h:=Pj (v:=f p) (by rw[zzI,h];rfl);show Dc _=_;rw[h];rfl
def oE{n k:Nat}{r}{v:Int}(hl:r.length=k)(hr:∀x ∈ r,zQ n x)(hv:zQ k v):zx (zi r) (.int v)=some (.im<|.int<|Zw r v)/\zQ n (Zw r v):=by
 have a:v.toNat<r.length:=by rw[hl];have:=hv.1;have:=hv.2;trivial
 have g:=zzE a;have e:Zw r v=r[v.toNat]:=by unfold Zw;rw[g];rfl
 rw[e];refine⟨?_,hr _<|zyZ a⟩;have:=Xd (f:=D.int) g;rw[show(v.toNat:Int)=v by have:=hv.1;trivial]at this;exact this
abbrev KS(T:TZ)(w:Int):List Int:=(T[w.toNat]?).getD []
def wK{k n:Nat}{T}{w:Int}(hT:Tab k n T)(hw:zQ k w):zx (xD T) (.int w)=some (.im<|zi<|KS T w)/\Row n (KS T w):=by
 have a:w.toNat<T.length:=by rw[hT.1];have:=hw.1;have:=hw.2;trivial
 have g:=zzE a;unfold KS;rw[g];refine⟨?_,hT.2 _<|zyZ a⟩;have:=Xd (f:=zi) g;rw[show(w.toNat:Int)=w by have:=hw.1;trivial]at this;exact this
def rowAt{n:Nat}{r v}(hr:Row n r)(hv:zQ n v):zx (zi r) (.int v)=some (.im<|.int<|Zw r v)/\zQ n (Zw r v):=oE hr.1 hr.2 hv
theorem strs_snoc:∀(os:List O) (o:O),O.strs os=true->o.str=true->O.strs (os++[o])=true
 | [],o,_,h=>by show(o.str&&true)=true;rw[h];rfl
 |p::r,o,h,a=>by
  have h:=(zyC _ _).mp<|h;show(p.str&&O.strs (r++[o]))=_;rw[h.1,strs_snoc r o h.2 a];rfl
theorem Ew:∀(os:List O) (o:O),O.toDs (os++[o])=O.toDs os++[o.toD]
 | [],o=>rfl
 |p::r,o=>congrArg _<|Ew r o
structure Ows{α:Type}(toD:α->D)(Q:α->Prop)(os:List O)(l:List α):Prop where
 st:O.strs os=true
 ds:O.toDs os=l.map toD
 al:∀a ∈ l,Q a
 ln:os.length=l.length
def Ows.nil{α:Type}{toD}{Q:α->Prop}:Ows toD Q [] []:=⟨rfl,rfl,(λ_ m=>nomatch m),rfl⟩
def Ows.snoc{α:Type}{toD Q os l o}{a:α}(h:Ows toD Q os l)(h1:o.str=true)(h2:o.toD=toD a)(h3:Q a):Ows toD Q (os++[o]) (l++[a]):=
 ⟨strs_snoc os o h.st h1,(by rw[Ew,h.ds,h2,zyM];rfl),(λb m=>(zzM.mp m).elim (h.al b) λm=>(by rw[zzR.mp m];exact h3)),(by rw[zzJ,zzJ,h.ln];rfl)⟩
def P7{as as1 a}{i:Nat}{os0 os o}(h:as[i]? = some (sN os0))(ha:a as=some (.ow o,as1))(h1:as1[i]? = some (sN os))(hl:os.length<sizeLine):yo (ZQ i (dC a dN) ZS) as=some (.nx<|as1.set i<|sN<|os++[o]):=by
 unfold yo ZQ;rw[h];have e:dC a dN as=some _:=vJ ha rfl;rw[e];show(Option.bind (match as1[i]? with|some (some<|.nd .ls os)=>_|_=>none) _)=_;rw[h1];show((ZS os [o]).bind _).bind _=_;have e2:ZS os [o]=some (os++[o],.lf true .non):=by unfold ZS;exact if_pos hl
 rw[e2];rfl
def J_{α:Type}{toD Q as a}{i:Nat}{os l}{x:α}(h:as[i]? = some (sN os))(ho:Ows toD Q os l)(hl:l.length<1000)(ha:WE a as (toD x))(hx:Q x):
 ∃os',Ows toD Q os' (l++[x])/\yo (ZQ i (dC a dN) ZS) as=some (.nx<|as.set i<|sN os'):=by
 obtain⟨o,b,c,d⟩:=ha;exact⟨os++[o],ho.snoc c d hx,P7 h b h<|by rw[ho.ln];exact Tx<|by trivial⟩
def Ows.retB{α:Type}{toD Q as}{i:Nat}{os}{l:List α}(h:as[i]? = some (sN os))(ho:Ows toD Q os l):Rt (zy (fV i) as) (.lst<|l.map toD):=
 ⟨_,Ud h ho.st,ho.st,congrArg D.lst ho.ds⟩
structure OwsX{α:Type}(toD:α->D)(Q:Nat->α->Prop)(os:List O)(l:List α):Prop where
 st:O.strs os=true
 ds:O.toDs os=l.map toD
 al:∀i a,l[i]? = some a->Q i a
 ln:os.length=l.length
def pS{fr as rs g zs}(ha:WA fr as rs)(hg:g (rs.map (·.2))=some (.fl zs)):fP fr g as=some (.ow (.nd .ls (zs.map (Iu (rs.all (·.1))))),as):=by
 unfold fP;unfold WA at ha;rw[ha];show(views as _).bind _=_;rw[YH];show(g _).bind _=_;rw[hg];show(if _=true then _ else _:Option RV).bind _=_;rw[if_pos<|by simp];rfl
def lD{a as x g zs}(ha:WE a as x)(hg:g [x]=some (.fl zs)):fP (aC a aN) g as=some (.ow<|.nd .ls<|zs.map<|O.lf true,as):=by
 have:=pS (y_ ha<|zq) hg;rw[show([(true,x)].all (·.1))=true from rfl,PQ]at this;exact this
def ju{a as s r}(h:WD a as s (zi r)):fP (aC a aN) lstP as=some (.ow<|xO r,as):=by
 have:=pS (g:=lstP) (zg h<|zq) rfl;rw[zyB]at this;exact this
def Oo{a as s r}(h:WD a as s (zi r)):WE (fP (aC a aN) lstP) as (zi r):=⟨_,ju h,(XA r).1,(XA r).2⟩
def t_{fr as os x}(h:WO fr as os)(hl:os.length<=sizeLine)(hs:O.strs os=true)(e:D.tup (O.toDs os)=x):WE (yj fr) as x:=by
 refine⟨_,Au h hl, ?_, ?_⟩
 . unfold UV
   split
   . exact hs
   . exact hs
 . unfold UV
   split
   . exact e
   . exact e
def P1{r a}(h:a.toNat<r.length):Zw r a=r[a.toNat]:=by unfold Zw;rw[zzE h];rfl
theorem Ows.frz{α:Type}{toD:α->D}{Q:α->Prop}{os:List O}{l:List α}(h:Ows toD Q os l):(O.nd .ls os).frz = .lf true (.lst<|l.map toD):=by
 show O.lf (O.strs os) (.lst _)=_;rw[h.st,h.ds]
def ME{as as2}{j:Nat}{ps fr os}(hj:as[j]? = some (sN ps))(hr:fr (as.set j<|some (O.nd .ls ps).frz)=some (os,as2)):dC (fV j) fr as=some ((O.nd .ls ps).frz::os,as2):=by
 unfold dC;rw[Cz hj];show((sH as _).bind _)=_;rw[lA hj];show(fr _).bind _=_;rw[hr];rfl
def IC{as as1 fr os}(h:fr as=some (os,as1))(hl:os.length<=sizeLine):yj fr as=some (.ow<|UV os,as1):=by
 unfold yj;rw[h];show(if os.length<=sizeLine then _ else _)=_;rw[if_pos hl]
def Mv{f as ds}(h:WE f as (.lst ds)):Zq f as=some (ds.map λd=>(true,d),as):=by
 obtain⟨o,h1,h2,h3⟩:=h;unfold Zq;rw[h1];have e:Rr as (.ow o)=some _:=rfl;show(Rr as<|RV.ow o).bind (λq=>(Gy q.1).bind λds=>some (ds,q.2))=_;rw[e,h2,h3];show some _=_;rw[QQ]
abbrev Kr(n:Nat):List Int:=(List.range n).map λ(i:Nat)=>(i:Int)
abbrev Tj(p:Str×List Int):D:=.tup [.str p.1,zi p.2]
def pC{x y c}:zx (.lst [.int x,.int y]) (.int (if c=true then 1 else 0))=some (.im<|.int (if c=true then y else x)):=by cases c<;>rfl
abbrev u4:Str:="abcdefghijklmnopqrstuvwxyz"
def qG:∀k,k<26->u4.cps.toList[k]? = some (97+k):=by decide +kernel
def oH{i}(h0:0<=i)(h1:i<26):zx (.str u4) (.int i)=some (.im<|.str ⟨#[97+i.toNat]⟩):=by
 show(if u4.length<=sizeLine then(CW u4.cps.toList i).bind _ else none)=_;rw[if_pos (show u4.length<=sizeLine by decide +kernel)];have:=Pj (qG i.toNat<|by trivial);rw[show(i.toNat:Int)=i by trivial]at this;rw[this];rfl
def xY{F}{n:Nat}(h:F.Perm (Kr n)):Row n F/\∀b:Int,0<=b->b<n->b ∈ F:=by
 refine⟨⟨by rw[h.length_eq,zzB,zyU],λx m=>?_⟩,λb c d=>h.mem_iff.mpr ?_⟩
 . obtain⟨i,a,rfl⟩:=zxD.mp<|h.mem_iff.mp m;have:=List.mem_range.mp a;trivial
 . exact zxD.mpr ⟨b.toNat,List.mem_range.mpr (by trivial),by trivial⟩
def Do{F}{n:Nat}(h:F.Perm (Kr n)){v w}(hv:zQ n v)(hw:zQ n w)(e:Zw F v=Zw F w):v=w:=by
 have a:=(xY h).1.1;have b:=hv.1;have c:=hv.2;have d:=hw.1;have f:=hw.2;have nd:F.Nodup:=by
  refine h.nodup_iff.mpr (List.pairwise_map.mpr<|List.nodup_range.imp λz q=>z<|by trivial)
 rw[P1 (by trivial),P1<|by trivial]at e;have:=(List.getElem_inj nd).mp e;trivial
def O9{f g as as' x}(h:WE f as x)(hg:g (true,x) as=some as'):VW f g as=some (.nx as'):=by
 obtain⟨o,a,b,c⟩:=h;exact OX a (by rw[b,c];exact hg)
abbrev Qj(p:Str×TZ):D:=.tup [.str p.1,xD p.2]
structure Alg(n m:Nat)(J:TZ)(e:Int)(Ds:DD):Prop where
 n1:1<=n
 n8:n<=8
 m1:1<=m
 m6:m<=6
 j:Tab n n J
 e0:0<=e
 en:e<n
 dl:Ds.length<=6
 ds:∀p ∈ Ds,Tab m n p.2
 nd:(Ds.map (·.1)).Nodup
structure LawA(n m:Nat)(J:TZ)(e:Int)(Ds:DD):Prop where
 lj:LJ n (yi J) e
 ld:∀p ∈ Ds,LD n m (yi J) e<|yi p.2
abbrev Zm(n m:Nat)(J:TZ)(e:Int)(Ds:DD)(S:SS):D:=.tup [.int n,.int m,xD J,.int e,.lst<|Ds.map Qj,.lst<|S.map Tj]
def O5{f as k}(h:WD f as true (.int k)):oS f as=some (some k,as):=by
 unfold oS;unfold WD at h;rw[h];rfl
abbrev Oy(T:TZ):O:=.nd .ls<|T.map xO
def Rm{n:Nat}{J w v}(hJ:Tab n n J)(hw:zQ n w)(hv:zQ n v):zQ n (yi J w v):=(rowAt (wK hJ hw).2 hv).2
def vO{a b c as}{n:Nat}{J w v}(hJ:Tab n n J)(hw:zQ n w)(hv:zQ n v)(ha:WD a as true (xD J))(hb:WD b as true (.int w))(hc:WD c as true (.int v)):WD (f2 (f2 a b zx) c zx) as true (.int<|yi J w v):=
 zw (yt ha hb (wK hJ hw).1) hc (rowAt (wK hJ hw).2 hv).1 rfl
def jN{fr as rs g kvs}(ha:WA fr as rs)(hg:g (rs.map (·.2))=some (.fd kvs)):fP fr g as=some (.ow (.nd (.dc (kvs.map (·.1))) ((kvs.map (·.2)).map (Iu (rs.all (·.1))))),as):=by
 unfold fP;unfold WA at ha;rw[ha];show(views as _).bind _=_;rw[YH];show(g _).bind _=_;rw[hg];show(if _=true then _ else _:Option RV).bind _=_;rw[if_pos<|by simp];rfl
abbrev RT(o:O):Prop:=o.str=true/\∃ds,o.toD = .tup ds
theorem CQ(I:AS->Prop)(P:Zj->Prop):∀(xs:List Zj) (as:AS),(∀x ∈ xs,∀as,I as->∃as1,g x as=some as1/\((∃as2,f as1=some (.nx as2)/\I as2/\P x)\/∃o,f as1=some (.rt o)/\RT o/\¬P x))->I as->
 (∃as',forL g f xs as=some (.nx as')/\I as'/\∀x ∈ xs,P x)\/∃o,forL g f xs as=some (.rt o)/\RT o/\¬ ∀x ∈ xs,P x
 | [],as,_,h=>.inl ⟨as,rfl,h,λ_ m=>nomatch m⟩
 |x::r,as,H,h=>by
  obtain⟨n,b,a⟩:=H x (zzF ..) as h
  rcases a with⟨c,a,d,e⟩|⟨o,a,d,e⟩
  . rcases CQ I P r c (λy m=>H y<|zzD _ m) d with⟨i,j,k,l⟩|⟨o,j,k,l⟩
    . refine .inl ⟨i,vG b a j,k,λy m=>?_⟩
      rcases zzC.mp m with rfl|m
      . exact e
      . exact l y m
    . exact .inr ⟨o,vG b a j,k,λz=>l λy m=>z y<|zzD _ m⟩
  . exact .inr ⟨o,S0 b a,d,λz=>e<|z x<|zzF ..⟩
abbrev Ku(r:Option Out)(I:AS->Prop)(P:Prop):Prop:=(∃as',r=some (.nx as')/\I as'/\P)\/∃o,r=some (.rt o)/\RT o/\¬P
def Ku.imp{P Q:Prop}(h:Ku r I P)(k:P ↔ Q):Ku r I Q:=by
 rcases h with⟨a,b,c,d⟩|⟨a,b,c,d⟩
 . exact .inl ⟨a,b,c,k.mp d⟩
 . exact .inr ⟨a,b,c,λz=>d<|k.mpr z⟩
def Qi{v n:Nat}{f fr:SF}(I)(P:Int->Prop)(H:∀b,zQ n b->∀as,I as->∃as1,gN v (true,.int b) as=some as1/\Ku (f as1) I (P b)){as:AS}(h:I as):Ku (forL (gN v) f (yY 0 n) as) I (∀b,zQ n b->P b):=by
 have k:=CQ I (λx=>∀b,x=(true,.int b)->P b) (yY 0 n) as (λx m as j=>by
  obtain⟨b,rfl,l,u⟩:=K3 m;obtain⟨a,o,q⟩:=H b ⟨l,by trivial⟩ as j;exact⟨a,o,q.imp ⟨λp c e=>by cases e;exact p,λp=>p b rfl⟩⟩) h
 refine Ku.imp k ⟨λp b d=>p _ ?_ b rfl,λp x m b e=>?_⟩
 . have r:=d.1;have s:=d.2;refine zyA (i:=b.toNat) ?_;unfold yY;rw[zzI,List.getElem?_range<|by trivial];show some (true,D.int _)=_;rw[show 0+b.toNat=b by trivial]
 . subst e;obtain⟨c,e,t,w⟩:=K3 m;cases e;exact p b ⟨t,by trivial⟩
def W6{v n:Nat}(h:as[v]? = some (some<|.lf s<|.int n))(hn:n<=1000):yC (yG (aC (fV v) aN) yS) g f as=forL g f (yY 0 n) as:=
 yh (xu (zg (za h) zq) (by trivial)<|by trivial) (by rw[zyI])
def O2{P:Prop}(ht:WT c as q)(hq:q=true ↔ ¬P)(hf:WE f as (.tup ds))(hI:I as):Ku (y6 c (zy f) yX as) I P:=by
 cases q with
 |false=>exact .inl ⟨as,zp ht rfl,hI,Classical.byContradiction λz=>nomatch hq.mpr z⟩
 |true=>
  obtain⟨o,a,b,d⟩:=DG hf;exact .inr ⟨o,yL ht a,⟨b,ds,d⟩,hq.mp rfl⟩
def uW(ha:WD a as s (.int x))(hb:WD b as t (.int y)):WT (fT<|f2 a b<|zz .NotEq) as (!(x==y)):=yf (IE ha hb rfl) rfl
def Io{x y:Int}:(!(x==y))=true ↔ ¬x=y:=by simp
abbrev fN(n:Nat)(J:TZ)(e:Int):Prop:=∀a,zQ n a->yi J e a=a/\yi J a e=a
abbrev As(n:Nat)(J:TZ):Prop:=∀a,zQ n a->∀b,zQ n b->∀c,zQ n c->yi J (yi J a b) c=yi J a (yi J b c)
section
variable{S:Option O->Option O->Option O->AS}{vj vn ve:Nat}{J:TZ}{n:Nat}{e:Int}
def oO{x y z:Option O}(hJ:Tab n n J)(he:zQ n e)(hj:∀x y z,(S x y z)[vj]? = some (sT<|xD J))(hv:∀x y z,(S x y z)[ve]? = some (sI e))(h3:∀x y z,(S x y z)[3]? = some x)(g3:∀d x y z,gN 3 (true,d) (S x y z)=some (S (sT d) y z)):
 Ku (forL (gN 3) (y6 (Br (fT<|f2 (f2 (f2 (fV vj) (fV ve) zx) (fV 3) zx) (fV 3)<|zz .NotEq)<|fT<|f2 (f2 (f2 (fV vj) (fV 3) zx) (fV ve) zx) (fV 3)<|zz .NotEq) (zy<|yj<|dC (fC<|.str "nothing")<|dC (fV 3) dN) yX) (yY 0 n)<|S x y z) (λas=>∃x,as=S x y z) (fN n J e):=by
 refine Qi (fr:=yX) (λas=>∃x,as=S x y z) (λa=>yi J e a=a/\yi J a e=a) (λa c as f=>?_) ⟨x,rfl⟩;obtain⟨x,rfl⟩:=f;have b:WD (fV 3) (S (sI a) y z) true (.int a):=za<|h3 _ _ _;have g:=uW (vO hJ he c (za<|hj (sI a) y z) (za<|hv (sI a) y z) b) b;have i:=uW (vO hJ c he (za<|hj (sI a) y z) b<|za<|hv (sI a) y z) b;refine⟨S (sI a) y z,g3 _ _ _ _,O2 (q:=!(yi J e a==a) || !(yi J a e==a)) (uk g (λh=>by rw[h,Bool.false_or];exact i) λh=>by rw[h];rfl) (by simp;grind) (t_ (zu zb<|zu b yp) (Uw rfl) rfl rfl) ⟨_,rfl⟩⟩
abbrev gb(vj vn:Nat):SF:=yC (yG (aC (fV vn) aN) yS) (gN 4)<|yC (yG (aC (fV vn) aN) yS) (gN 5)<|y6 (fT<|f2 (f2 (f2 (fV vj) (f2 (f2 (fV vj) (fV 3) zx) (fV 4) zx) zx) (fV 5) zx) (f2 (f2 (fV vj) (fV 3) zx) (f2 (f2 (fV vj) (fV 4) zx) (fV 5) zx) zx)<|zz .NotEq) (zy<|yj<|dC (fC<|.str "parting")<|dC (fV 3)<|dC (fV 4)<|dC (fV 5) dN) yX
def tL{x y z:Option O}(n8:n<=8)(hJ:Tab n n J)(hj:∀x y z,(S x y z)[vj]? = some (sT<|xD J))(hn:∀x y z,(S x y z)[vn]? = some (sI n))(h3:∀x y z,(S x y z)[3]? = some x)(h4:∀x y z,(S x y z)[4]? = some y)(h5:∀x y z,(S x y z)[5]? = some z)
 (g3:∀d x y z,gN 3 (true,d) (S x y z)=some (S (sT d) y z)) (g4:∀d x y z,gN 4 (true,d) (S x y z)=some (S x (sT d) z)) (g5:∀d x y z,gN 5 (true,d) (S x y z)=some (S x y<|sT d)):
 Ku (forL (gN 3) (gb vj vn) (yY 0 n)<|S x y z) (λas=>∃x y z,as=S x y z) (As n J):=by
 refine Qi (fr:=yX) (λas=>∃x y z,as=S x y z) (λa=>∀b,zQ n b->∀c,zQ n c->yi J (yi J a b) c=yi J a (yi J b c)) (λa i as e=>?_) ⟨x,y,z,rfl⟩;obtain⟨x,y,z,rfl⟩:=e;refine⟨_,g3 _ _ _ _, ?_⟩;unfold gb;rw[W6 (hn _ _ _)<|by trivial];have k:=Qi (fr:=yX) (f:=yC _ (gN 5) _) (λas=>∃y z,as=S (sI a) y z) (λb=>∀c,zQ n c->yi J (yi J a b) c=yi J a (yi J b c)) (λb g as e=>by
  obtain⟨y,z,rfl⟩:=e;refine⟨_,g4 _ _ _ _, ?_⟩;rw[W6 (hn _ _ _)<|by trivial];have k:=Qi (fr:=yX) (λas=>∃z,as=S (sI a) (sI b) z) (λc=>yi J (yi J a b) c=yi J a (yi J b c)) (λc j as e=>by
   obtain⟨z,rfl⟩:=e;have l:WD (fV 3) (S (sI a) (sI b)<|sI c) true (.int a):=za<|h3 _ _ _;have m:WD (fV 4) (S (sI a) (sI b)<|sI c) true (.int b):=za<|h4 _ _ _;have o:WD (fV 5) (S (sI a) (sI b)<|sI c) true (.int c):=za<|h5 _ _ _;have h:WD (fV vj) (S (sI a) (sI b)<|sI c) true (xD J):=za<|hj _ _ _;have s:=Rm hJ i g;have bc:=Rm hJ g j;exact⟨_,g5 _ _ _ _,O2 (ds:=[.str "parting",.int a,.int b,.int c]) (uW (vO hJ s j h (vO hJ i g h l m) o)<|vO hJ i bc h l<|vO hJ g j h m o) Io (t_ (zu zb<|zu l<|zu m<|zu o yp) (Uw rfl) rfl rfl) ⟨_,rfl⟩⟩) ⟨z,rfl⟩
  rcases k with⟨p,q,⟨t,rfl⟩,r⟩|k
  . exact .inl ⟨_,q,⟨_,_,rfl⟩,r⟩
  . exact .inr k) ⟨y,z,rfl⟩
 rcases k with⟨p,q,⟨u,t,rfl⟩,r⟩|k
 . exact .inl ⟨_,q,⟨_,_,_,rfl⟩,r⟩
 . exact .inr k
end
abbrev J4(r:Option O)(P:Prop):Prop:=(RE r .non/\P)\/((∃ds,RE r<|.tup ds)/\¬P)
def O6{n m:Nat}{P:Prop}(hl:ds.length=m)(h:(Rt (c<|Zr n ds) .non/\P)\/((∃es,Rt (c<|Zr n ds)<|.tup es)/\¬P)):J4 (xJ n m c ds) P:=by
 rcases h with⟨h,p⟩|⟨⟨a,h⟩,p⟩
 . exact .inl ⟨zH hl h,p⟩
 . exact .inr ⟨⟨a,zH hl h⟩,p⟩
def Fp{P Q:Prop}(h:Ku (f as) I P)(k:∀as',I as'->P->(Rt (g as') .non/\Q)\/((∃es,Rt (g as')<|.tup es)/\¬Q)):(Rt (zh f g as) .non/\P/\Q)\/((∃es,Rt (zh f g as)<|.tup es)/\¬(P/\Q)):=by
 rcases h with⟨b,a,c,p⟩|⟨o,a,⟨c,d,i⟩,p⟩
 . rcases k b c p with⟨e,q⟩|⟨⟨d,e⟩,q⟩
   . exact .inl ⟨zc a e,p,q⟩
   . exact .inr ⟨⟨d,zc a e⟩,λz=>q z.2⟩
 . exact .inr ⟨⟨d,o,wB a,c,i⟩,λz=>p z.1⟩
def F_:(Rt (zy (fC .non) as) .non/\True)\/((∃es,Rt (zy (fC .non) as)<|.tup es)/\¬True):=.inl ⟨zA<|WD.e zb,trivial⟩
def J4.imp{P Q:Prop}(h:J4 r P)(k:P ↔ Q):J4 r Q:=by
 rcases h with⟨h,p⟩|⟨h,p⟩
 . exact .inl ⟨h,k.mp p⟩
 . exact .inr ⟨h,λz=>p<|k.mpr z⟩
section
variable{n m:Nat}{J T:TZ}{e:Int}{Ds:DD}{S:SS}
abbrev Dn(n m:Nat)(J T:TZ):Prop:=∀a,zQ n a->∀i,zQ m i->∀b,zQ n b->∀k,zQ m k->yi T ((i+k)%m) (yi J a b)=yi J (yi T i a) (yi T k b)
def V4(hT:Tab m n T)(hw:zQ m w)(hv:zQ n v)(ha:WD a as true (xD T))(hb:WD b as true (.int w))(hc:WD c as true (.int v)):WD (f2 (f2 a b zx) c zx) as true (.int<|yi T w v)/\zQ n (yi T w v):=
 ⟨zw (yt ha hb (wK hT hw).1) hc (rowAt (wK hT hw).2 hv).1 rfl,(rowAt (wK hT hw).2 hv).2⟩
abbrev ey:SF:=(y6 (fT<|f2 (f2 (f2 (fV 2) (f2 (f2 (fV 7) (fV 9)<|Y4 .Add) (fV 4)<|Y4 .Mod) zx) (f2 (f2 (fV 5) (fV 6) zx) (fV 8) zx) zx) (f2 (f2 (fV 5) (f2 (f2 (fV 2) (fV 7) zx) (fV 6) zx) zx) (f2 (f2 (fV 2) (fV 9) zx) (fV 8) zx) zx)<|zz .NotEq) (zy<|yj<|dC (fC<|.str "doing")<|dC (fV 1)<|dC (fV 6)<|dC (fV 7)<|dC (fV 8)<|dC (fV 9) dN) yX)
abbrev BQ(n m:Nat)(J T:TZ)(e:Int)(Ds:DD)(S:SS)(s:Str)(x y z w:Option O):AS:=[sT<|Zm n m J e Ds S,sT<|.str s,sT<|xD T,sI n,sI m,sT<|xD J,x,y,z,w]
def bz{a i b:Int}(hJ:Tab n n J)(hT:Tab m n T)(m1:1<=m)(ha:zQ n a)(hi:zQ m i)(hb:zQ n b):Ku (forL (gN 9) ey (yY 0 m)<|BQ n m J T e Ds S s (sI a) (sI i) (sI b) w) (λas=>∃w,as=BQ n m J T e Ds S s (sI a) (sI i) (sI b) w) (∀k,zQ m k->yi T ((i+k)%m) (yi J a b)=yi J (yi T i a) (yi T k b)):=by
 refine Qi (fr:=yX) (λas=>∃w,as=BQ n m J T e Ds S s (sI a) (sI i) (sI b) w) (λk=>yi T _ _=yi J _ _) (λk l as o=>?_) ⟨w,rfl⟩;obtain⟨w,rfl⟩:=o;have c:WD (fV 2) (BQ n m J T e Ds S s (sI a) (sI i) (sI b)<|sI k) true (xD T):=za rfl;have j:WD (fV 5) (BQ n m J T e Ds S s (sI a) (sI i) (sI b)<|sI k) true (xD J):=za rfl;have d:WD (fV 6) (BQ n m J T e Ds S s (sI a) (sI i) (sI b)<|sI k) true (.int a):=za rfl;have f:WD (fV 7) (BQ n m J T e Ds S s (sI a) (sI i) (sI b)<|sI k) true (.int i):=za rfl;have g:WD (fV 8) (BQ n m J T e Ds S s (sI a) (sI i) (sI b)<|sI k) true (.int b):=za rfl;have h:WD (fV 9) (BQ n m J T e Ds S s (sI a) (sI i) (sI b)<|sI k) true (.int k):=za rfl;obtain⟨p,q⟩:=V4 hT hi ha c f d;obtain⟨r,t⟩:=V4 hT l hb c h g;have u:=Rm hJ ha hb;obtain⟨v,y⟩:=V4 hT (Uv m1) u c (zV (zE f h) (za (i:=4) rfl)<|by trivial)<|vO hJ ha hb j d g;exact⟨_,rfl,O2 (uW v<|vO hJ q t j p r) Io (t_ (zu zb<|zu (za rfl)<|zu d<|zu f<|zu g<|zu h yp) (Uw rfl) rfl rfl) ⟨_,rfl⟩⟩
def J4.none{P:Prop}(h:J4 r P)(p:P):RE r .non:=by
 rcases h with⟨h,_⟩|⟨_,h⟩
 . exact h
 . exact absurd p h
def LawA.un(L:LawA n m J e Ds):fN n J e:=λa b=>⟨L.lj.ul a b,L.lj.ur a b⟩
theorem LawA.as(L:LawA n m J e Ds):As n J:=λa d b f c g=>L.lj.as a b c d f g
theorem LawA.dn(L:LawA n m J e Ds)(hp:p ∈ Ds):Dn n m J p.2:=λa c i d b f k g=>(L.ld p hp).dn a i b k c d f g
end
noncomputable def iP(b k:Int):Int:=if k=0 then b/2 else b%2
def jP(a b:Int):Int:=2*iP b (a/2)+iP b (a%2)
def sP(a:Int):Int:=2*(1-a%2)+1-a/2
def dM:LJ 4 jP 1:=by
 refine⟨λa b d e=>?_,⟨by decide,by decide⟩,λa d=>?_,λa d=>?_,λa b c d e f=>?_⟩
 . revert b;refine f4 (P:=λa=>∀b,zQ 4 b->zQ 4 (jP a b)) ?_ d
   have:∀a ∈ ([0,1,2,3]:List Int),∀b ∈ ([0,1,2,3]:List Int),zQ 4 (jP a b):=by decide
   exact λa m b e=>f4 (this a m) e
 . exact f4 (P:=λa=>jP 1 a=a) (by decide) d
 . exact f4 (P:=λa=>jP a 1=a) (by decide) d
 . have:∀a ∈ ([0,1,2,3]:List Int),∀b ∈ ([0,1,2,3]:List Int),∀c ∈ ([0,1,2,3]:List Int),jP (jP a b) c=jP a (jP b c):=by decide
   refine f4 (λa m=>f4 (λb g=>f4 (this a m b g) f) e) d
def bZ{m:Nat}{r:Int->Int}(h:(∀a,zQ 4 a->r a=a)\/(∀a,zQ 4 a->r a=sP a)):LD 4 m jP 1 (λ_ a=>r a):=by
 rcases h with h|h
 . refine⟨λc a _ d=>by show zQ 4 (r a);rw[h a d];exact d,h 1 ⟨by decide,by decide⟩,λa i b k d _ e _=>?_⟩;rw[h a d,h b e,h _<|dM.cl a b d e]
 . refine⟨λc a _ d=>by show zQ 4 (r a);rw[h a d];exact f4 (P:=λa=>zQ 4<|sP a) (by decide) d,h 1 ⟨by decide,by decide⟩,λa i b k d _ e _=>?_⟩;rw[h a d,h b e,h _<|dM.cl a b d e];have:∀a ∈ ([0,1,2,3]:List Int),∀b ∈ ([0,1,2,3]:List Int),sP (jP a b)=jP (sP a) (sP b):=by decide
   exact f4 (λa m=>f4 (this a m) e) d
def aa{n1 n2:Nat}(h1:LJ n1 j1 e1)(h2:LJ n2 j2 e2)(p2:0<n2):LJ (n1*n2) (jB n2 j1 j2) (e1*n2+e2):=by
 refine⟨λa b d e=>?_,lu h1.ce h2.ce,λa d=>?_,λa d=>?_,λa b c d e f=>?_⟩
 . exact lu (h1.cl _ _ (ye p2 d).1 (ye p2 e).1)<|h2.cl _ _ (ye p2 d).2 (ye p2 e).2
 . unfold jB;rw[(Um h2.ce).1,(Um h2.ce).2,h1.ul _ (ye p2 d).1,h2.ul _ (ye p2 d).2,gp]
 . unfold jB;rw[(Um h2.ce).1,(Um h2.ce).2,h1.ur _ (ye p2 d).1,h2.ur _ (ye p2 d).2,gp]
 . unfold jB;rw[(Um<|h2.cl _ _ (ye p2 d).2 (ye p2 e).2).1,(Um<|h2.cl _ _ (ye p2 d).2 (ye p2 e).2).2,(Um<|h2.cl _ _ (ye p2 e).2 (ye p2 f).2).1,(Um<|h2.cl _ _ (ye p2 e).2 (ye p2 f).2).2,h1.as _ _ _ (ye p2 d).1 (ye p2 e).1 (ye p2 f).1,h2.as _ _ _ (ye p2 d).2 (ye p2 e).2 (ye p2 f).2]
def bK{n1 n2 m:Nat}(h1:LJ n1 j1 u1)(h2:LJ n2 j2 u2)(p2:0<n2)(e1:LD n1 m j1 u1 d1)(e2:LD n2 m j2 u2 d2):LD (n1*n2) m (jB n2 j1 j2) (u1*n2+u2) (dB n2 d1 d2):=by
 refine⟨λc a h d=>lu (e1.cl _ _ h (ye p2 d).1)<|e2.cl _ _ h (ye p2 d).2, ?_,λa i b k d f e g=>?_⟩
 . unfold dB;rw[(Um h2.ce).1,(Um h2.ce).2,e1.em,e2.em]
 . unfold jB dB;rw[(Um<|h2.cl _ _ (ye p2 d).2 (ye p2 e).2).1,(Um<|h2.cl _ _ (ye p2 d).2 (ye p2 e).2).2,(Um<|e2.cl i _ f (ye p2 d).2).1,(Um<|e2.cl i _ f (ye p2 d).2).2,(Um<|e2.cl k _ g (ye p2 e).2).1,(Um<|e2.cl k _ g (ye p2 e).2).2,e1.dn _ _ _ _ (ye p2 d).1 f (ye p2 e).1 g,e2.dn _ _ _ _ (ye p2 d).2 f (ye p2 e).2 g]
def ab{n:Nat}{F B:Int->Int}(h:LJ n j e)(hF:∀a,zQ n a->zQ n (F a))(hB:∀a,zQ n a->zQ n (B a))(hFB:∀a,zQ n a->F (B a)=a)(q:∀a b,zQ n a->zQ n b->j' (F a) (F b)=F (j a b)):LJ n j' (F e):=by
 have g:=λa b d f=>by
  have:=q (B a) (B b) (hB a d)<|hB b f;rw[hFB a d,hFB b f]at this;exact this
 refine⟨λa b d f=>by rw[g a b d f];exact hF _<|h.cl _ _ (hB a d)<|hB b f,hF e h.ce,λa d=>?_,λa d=>?_,λa b c d f i=>?_⟩
 . have:=q e (B a) h.ce<|hB a d;rw[hFB a d,h.ul _<|hB a d,hFB a d]at this;exact this
 . have:=q (B a) e (hB a d) h.ce;rw[hFB a d,h.ur _<|hB a d,hFB a d]at this;exact this
 . have k:=hB a d;have l:=hB b f;have m:=hB c i;rw[g a b d f,g b c f i];have x:=q _ (B c) (h.cl _ _ k l) m;have y:=q (B a) _ k<|h.cl _ _ l m;rw[hFB c i]at x;rw[hFB a d]at y;rw[x,y,h.as _ _ _ k l m]
def ah{n m:Nat}{F B:Int->Int}(hm:0<m)(h:LJ n j e)(k:LD n m j e d)(hF:∀a,zQ n a->zQ n (F a))(hB:∀a,zQ n a->zQ n (B a))(hFB:∀a,zQ n a->F (B a)=a)
 (q:∀a b,zQ n a->zQ n b->j' (F a) (F b)=F (j a b)) (p:∀c a,zQ m c->zQ n a->d' c (F a)=F (d c a)):LD n m j' (F e) d':=by
 refine⟨λc a t f=>?_, ?_,λa i b l f r u s=>?_⟩
 . have:=p c (B a) t<|hB a f;rw[hFB a f]at this;rw[this];exact hF _<|k.cl _ _ t<|hB a f
 . rw[p 0 e ⟨by omega,q0c hm⟩ h.ce,k.em]
 . have g:=hB a f;have o:=hB b u;have x:=q (B a) (B b) g o;have y:=p i (B a) r g;have z:=p l (B b) s o;rw[hFB a f]at x y;rw[hFB b u]at x z;rw[x,y,z,p _ _ (Uv hm)<|h.cl _ _ g o,q _ _ (k.cl _ _ r g)<|k.cl _ _ s o,k.dn _ _ _ _ g r o s]
def KN(k:Int)(n:Nat):Prop:=(k=0/\1<=n)\/(k=1/\1<=n)\/(k=2/\1<=n)\/(k=3/\n=4)
def jK(k:Int)(n:Nat):Int->Int->Int:=if k=0 then jS n else if k=1 then jM else if k=2 then jL else jP
noncomputable def eK(k:Int):Int:=if k=3 then 1 else 0
def c_{n:Nat}(h:KN k n):LJ n (jK k n) (eK k):=by
 rcases h with⟨rfl,h⟩|⟨rfl,h⟩|⟨rfl,h⟩|⟨rfl,rfl⟩
 . exact cF h
 . exact ai h
 . exact au h
 . exact dM
def Hn(h:WA fr as [(u,.int i),(v,.int j)])(h0:0<=i)(h1:i<=1000)(h2:0<=j)(h3:j<=1000):yG fr sR as=some (yY i (j-i).toNat,as):=by
 unfold yG;unfold WA at h;rw[h];simp only[zyL,YH];show((if -_<=i/\i<2 ^ 62 /\ -_<=j/\j<2 ^ 62 then some _ else none).bind _)=_;rw[if_pos ⟨by omega,by omega,by omega,by omega⟩];rfl
noncomputable abbrev K0(r:List Int):D:=.tup<|r.map D.int
abbrev Zl(T:TZ):D:=.tup<|T.map K0
def Im{α:Type}{f}{l:List α}{i:Nat}{p}(h:l[i]? = some p):zx (.tup<|l.map f) (.int (i:Int))=some (.im<|f p):=by
 have h:=Pj (v:=f p) (by rw[zzI,h];rfl);show Dc _=_;rw[h];rfl
def dr{k n:Nat}{T}{w:Int}(hT:Tab k n T)(hw:zQ k w):zx (Zl T) (.int w)=some (.im<|K0<|KS T w):=by
 have a:w.toNat<T.length:=by rw[hT.1];exact iT hw
 have g:=zzE a;unfold KS;rw[g];have:=Im (f:=K0) g;rw[iC hw]at this;exact this
def jR{n:Nat}{r}{v:Int}(hr:Row n r)(hv:zQ n v):zx (K0 r) (.int v)=some (.im<|.int<|Zw r v):=by
 have a:v.toNat<r.length:=by rw[hr.1];exact iT hv
 have g:=zzE a;rw[P1 a];have:=Im (f:=D.int) g;rw[iC hv]at this;exact this
def uQ{m n:Nat}(hT:Tab m n T)(hw:zQ m w)(hv:zQ n v)(ha:WD a as true (Zl T))(hb:WD b as true (.int w))(hc:WD c as true (.int v)):WD (f2 (f2 a b zx) c zx) as true (.int<|yi T w v):=
 zw (yt ha hb<|dr hT hw) hc (jR (wK hT hw).2 hv) rfl
section
variable{α:Type}{kf:α->Str}{vf:α->D}
theorem Fb:∀l:List α,Ge (l.map λp=>.tup [.str<|kf p,vf p])=some (l.map λp=>(.inr<|kf p,vf p))
 | []=>rfl
 |p::l=>by
  show(Ge _).bind _=_;rw[Fb l];rfl
theorem Q_:∀{l:List α},p ∈ l->(l.map kf).Nodup->PM (l.map λp=>(.inr<|kf p,vf p)) (.inr<|kf p)=some (vf p)
 | [],h,_=>nomatch h
 |q::l,h,nd=>by
  have a:=zzW.mp<|nd
  rcases zzC.mp h with rfl|h
  . unfold PM;simp
  . have e:kf q≠kf p:=λe=>a.1<|e ▸ List.mem_map_of_mem h;have b:=Q_ h a.2;unfold PM at b ⊢;rw[zyS,List.find?_cons_of_neg<|by simp[e]];exact b
theorem Aq:∀(kvs:List (Key×D)),(kvs.map (·.1)).zip (kvs.map (·.2))=kvs
 | []=>rfl
 |p::r=>congrArg (p :: ·)<|Aq r
def mK{l:List α}(nd:(l.map kf).Nodup)(h:WE a as (.lst<|l.map λp=>.tup [.str<|kf p,vf p])):WE (fP (aC a aN) Nb) as (.dct<|l.map λp=>(.inr<|kf p,vf p)):=by
 have c:Nb [.lst<|l.map λp=>.tup [.str<|kf p,vf p]]=some (.fd<|l.map λp=>(.inr<|kf p,vf p)):=by
  show(Ge _).bind _=_;rw[Fb];refine if_pos ?_;rw[zyB];exact List.pairwise_map.mpr<|(List.pairwise_map.mp nd).imp λh e=>h<|Sum.inr.inj e
 have k:=jN (y_ h<|zq) c;rw[show([(true,D.lst _)].all (·.1))=true from rfl,PQ]at k;generalize _=b at k;refine⟨_,k,P4 _, ?_⟩;show D.dct _=_;rw[Gp,Aq]
end
def yQ{i:Nat}{os}(h:WE fe as d)(hi:as[i]? = some (some<|.nd (.ob c ns) os))(hc:c ∈ cs)(hn:f ∉ ns)(hl:ns.length<1000):VV i cs f fe as=some (as.set i<|some<|.nd (.ob c<|ns++[f])<|os++[.lf true d]):=by
 obtain⟨o,a,b,g⟩:=h;unfold VV;have e:Rr as (.ow o)=some _:=rfl;simp only[a,zyL,e,hi,if_pos (⟨hc,hn,hl⟩:c ∈ cs/\f ∉ ns/\ns.length<1000),b,g]
def yE(h:f as=some as1)(h2:g as1=o):ZW f g as=o:=by
 unfold ZW;rw[h];exact h2
def Ah(h:WE fe as d):rE fe as=some as:=by
 obtain⟨o,a,_,_⟩:=h;unfold rE;rw[a];rfl
def Oc{i:Nat}(h:as[i]? = some (sT<|.ob c ns ds))(hc:c ∈ cs)(hl:HJ ns ds f=some d):WD (f1 (fV i)<|zP cs f) as true d:=by
 have:=Tb (za h) hc hl;rw[zyD]at this;exact this
def bh(A B:TZ):TZ:=(A.zip B).map λp=>p.1.map<|Zw p.2
def ke{m n:Nat}(hA:Tab m n A)(hB:Tab m n B){i:Nat}(hi:i<m):(bh A B)[i]? = some ((KS A i).map<|Zw<|KS B i):=by
 have a:=zzE (by rw[hA.1];exact hi);have b:=zzE (by rw[hB.1];exact hi);unfold bh KS;rw[zzI,zyI,a,b];have:_[i]? = some (A[i]'(by rw[hA.1];exact hi),B[i]'(by rw[hB.1];exact hi)):=List.getElem?_zip_eq_some.mpr ⟨a,b⟩;rw[this];rfl
def nO{m n:Nat}(hA:Tab m n A)(hB:Tab m n B):Tab m n (bh A B):=by
 refine⟨by unfold bh;rw[zzB,List.length_zip,hA.1,hB.1,Nat.min_self],λr h=>?_⟩;obtain⟨p,b,rfl⟩:=zxD.mp h;obtain⟨c,d⟩:=List.of_mem_zip b;have a:=hA.2 _ c;have e:=hB.2 _ d;exact⟨by rw[zzB];exact a.1,λx f=>by
  obtain⟨y,g,rfl⟩:=zxD.mp f;exact(rowAt e<|a.2 y g).2⟩
def jm{m n:Nat}(hA:Tab m n A)(hB:Tab m n B)(hc:zQ m c)(ha:zQ n a):yi (bh A B) c a=yi B c (yi A c a):=by
 have d:=iT hc;have g:=ke hA hB d;have e:=iC hc;rw[e]at g;have f:=(wK hA hc).2;have h:=(wK hB hc).2;show Zw _ a=Zw _ (Zw _ a);rw[g];show Zw ((KS A c).map _) a=_;have b:a.toNat<(KS A c).length:=by rw[f.1];exact iT ha
 rw[P1 (by rw[zzB];exact b),List.getElem_map,P1 b]
end PF
end
section
namespace G44
open PySem PySem.Spec PyProof.Rows L2 PF
abbrev zm:EF:=fV 1
abbrev zW:EF:=fC<|.int 0
abbrev zk:EF:=fV 0
abbrev yy:EF:=fC<|.int 2
abbrev zL:EF:=fC<|.int 1
abbrev zD:EF:=fV 2
abbrev Xk:EF:=fC<|.int 4
abbrev P_:GF:=gN 4
abbrev zY:EF:=fV 4
abbrev zF:EF:=fV 3
abbrev xm:GF:=gN 0
abbrev zt:=Y4 .Add
abbrev yB:EF:=fV 5
abbrev FP:EF:=fC<|.int 5
abbrev wR:EF:=fV 6
abbrev Kq:EF:=fV 7
abbrev GP:EF:=fV 11
abbrev zO:=Y4 .Mod
abbrev zT:=Y4 .Mult
abbrev MV:EF:=fC<|.int 8
abbrev zK:=Y4 .FloorDiv
abbrev WW:EF:=fC<|.int 3
abbrev Zt:=Y4 .Sub
abbrev DI:EF:=fC<|.int 6
abbrev v_:AF:=aC (fV 3) aN
abbrev Zv:AF:=aC (fV 0) aN
abbrev xQ:AF:=aC (fV 1) aN
abbrev Zx:AF:=aC (fV 2) aN
abbrev lg:AF:=aC (fV 5) aN
abbrev el:AF:=aC (fV 7) aN
def vZ:List Str:=["Knot"]
def Wp:List Str:=["Knot"]
def ZH:List Str:=["Knot"]
def Xx:List Str:=["Knot"]
def Qs:List Str:=["Knot"]
def ZR:List Str:=["Knot"]
def yF:List Str:=["Knot"]
def xU:List Str:=["Knot","Ways"]
def N9:List Str:=["Ways"]
def Q7:List Str:=["Ways"]
def yz:List Str:=["Makes"]
def xk:List Str:=["Makes"]
def X9:List Str:=["Ways"]
def RC:List Str:=["Ways"]
def Zo:List Str:=["Ways"]
abbrev L3:List Str:=["thing"]
def GD:FnScope L3 ["thing"] (zd W5):=wb
def Ln:SF:=(zy<|NS (Q0 zk "int")<|IP<|Q0 zk "bool")
def Rh:Fn:=xJ 1 1 Ln
abbrev GV:List Str:=["thing","least","most"]
def B3:FnScope GV ["thing","least","most"] (zd Xo):=wb
def GI:SF:=(zy<|NS (zj Zv Rh)<|BN zm zk zD (zz .LtE)<|zz .LtE)
def vE:Fn:=xJ 3 3 GI
abbrev Vt:List Str:=["algebra","join","nothing","a"]
def Wa:FnScope Vt ["algebra"] (zd vo):=wb
def Z4:SF:=(zh (zr true 1<|f2 zk yy zx)<|zh (zr true 2<|f2 zk WW zx)<|zh (yC (yG (aC (f2 zk zW zx) aN) yS) (gN 3)<|y6 (Br (fT<|f2 (f2 (f2 zm zD zx) zF zx) zF<|zz .NotEq)<|fT<|f2 (f2 (f2 zm zF zx) zD zx) zF<|zz .NotEq) (zy<|yj<|dC (fC<|.str "nothing")<|dC zF dN) yX)<|zy<|fC .non)
def Ye:Fn:=xJ 4 1 Z4
abbrev VJ:List Str:=["algebra","n","join","a","b","c"]
def Wf:FnScope VJ ["algebra"] (zd vg):=wb
def VL:SF:=(zh (zr true 1<|f2 zk zW zx)<|zh (zr true 2<|f2 zk yy zx)<|zh (yC (yG xQ yS) (gN 3)<|yC (yG xQ yS) P_<|yC (yG xQ yS) (gN 5)<|y6 (fT<|f2 (f2 (f2 zD (f2 (f2 zD zF zx) zY zx) zx) yB zx) (f2 (f2 zD zF zx) (f2 (f2 zD zY zx) yB zx) zx)<|zz .NotEq) (zy<|yj<|dC (fC<|.str "parting")<|dC zF<|dC zY<|dC yB dN) yX)<|zy<|fC .non)
def Yd:Fn:=xJ 6 1 VL
noncomputable abbrev US:List Str:=["algebra","name","rows","n","m","join","a","i","b","j"]
def Qb:FnScope US ["algebra","name","rows"] (zd ZK):=wb
def Ux:SF:=(zh (zr true 3<|f2 zk zW zx)<|zh (zr true 4<|f2 zk zL zx)<|zh (zr true 5<|f2 zk yy zx)<|zh (yC (yG v_ yS) (gN 6)<|yC (yG (aC zY aN) yS) (gN 7)<|yC (yG v_ yS) (gN 8)<|yC (yG (aC zY aN) yS) (gN 9)<|y6 (fT<|f2 (f2 (f2 zD (f2 (f2 Kq (fV 9) zt) zY zO) zx) (f2 (f2 yB wR zx) (fV 8) zx) zx) (f2 (f2 yB (f2 (f2 zD Kq zx) wR zx) zx) (f2 (f2 zD (fV 9) zx) (fV 8) zx) zx)<|zz .NotEq) (zy<|yj<|dC (fC<|.str "doing")<|dC zm<|dC wR<|dC Kq<|dC (fV 8)<|dC (fV 9) dN) yX)<|zy<|fC .non)
def XY:Fn:=xJ 10 3 Ux
abbrev Ti:List Str:=["algebra","nothing","name","rows","fault"]
def UY:FnScope Ti ["algebra"] (zd Yx):=wb
def Tf:SF:=(zh (zr true 1<|f2 zk WW zx)<|zh (yC (Zq<|f2 zk Xk zx) (gT 2<|yH (gN 2)<|yH (gN 3) XI)<|zh (y6 (fT<|f2 (f2 (f2 zF zW zx) zm zx) zm<|zz .NotEq) (zy<|yj<|dC (fC<|.str "empty")<|dC zD dN) yX)<|zh (zr true 4<|zj (aC zk<|aC zD v_) XY)<|y6 (fT<|f2 zY (fC .non)<|zz .IsNot) (zy zY) yX)<|zy<|fC .non)
def Wq:Fn:=xJ 5 1 Tf
abbrev Tc:List Str:=["algebra","fault"]
def UC:FnScope Tc ["algebra"] (zd YB):=wb
def PX:SF:=(zh (zr true 1<|zj Zv Ye)<|zh (y6 (fT<|f2 zm (fC .non)<|zz .Is) (zr true 1<|zj Zv Yd) yX)<|zh (y6 (fT<|f2 zm (fC .non)<|zz .Is) (zr true 1<|zj Zv Wq) yX)<|zy zm)
def Wy:Fn:=xJ 2 1 PX
abbrev V5:List Str:=["algebra","fault"]
def Vh:FnScope V5 ["algebra"] (zd v7):=wb
def Xa:SF:=(zh (zr true 1<|zj Zv Wy)<|y6 (fT<|f2 zm (fC .non)<|zz .IsNot) Ab yX)
def vK:Fn:=xJ 2 1 Xa
noncomputable abbrev Vg:List Str:=["self","whole","back","wait","turn","one","other"]
def Tt:FnScope Vg ["self","whole","back","wait","turn","one","other"] (zd va):=wb
abbrev kY:EF:=(Iq (fT<|f2 yB (fC .non)<|zz .Is) zW<|f2 zL (fP (aC (f1 yB<|zP yF "deep")<|aC (f1 wR<|zP yF "deep") aN) HA) zt)
abbrev jY:EF:=(Iq (fT<|f2 yB (fC .non)<|zz .Is) zL<|f2 (f1 yB<|zP xU "size") (f1 wR<|zP xU "size") zt)
def Yb:J1:=(ZW (VV 0 vZ "whole" zm)<|ZW (VV 0 Wp "back" zD)<|ZW (VV 0 ZH "wait" zF)<|ZW (VV 0 Xx "turn" zY)<|ZW (VV 0 Qs "one" yB)<|ZW (VV 0 ZR "other" wR)<|ZW (VV 0 yF "deep" kY)<|VV 0 xU "size" jY)
def ym(c:Str):Fn:=nu c 7 7 Yb
abbrev EA:List Str:=["value"]
def N8:FnScope EA ["value"] (zd Uh):=wb
def EW:SF:=(zy<|zj (aC zk<|aC zk<|aC (fC .non)<|aC (fC<|.bl false)<|aC (fC .non)<|aC (fC .non) aN)<|ym "Knot")
def Q4:Fn:=xJ 1 1 EW
abbrev Gz:List Str:=["self","one","other"]
def RJ:FnScope Gz ["self","one","other"] (zd XD):=wb
def GJ:SF:=(zy<|f2 (f2 (f1 zk<|zP N9 "table") zm zx) zD zx)
def QP:Fn:=xJ 3 3 GJ
def WY:List (Str×Fn):=[("Ways",QP)]
abbrev E_:List Str:=["way","one","other"]
def Nn:FnScope E_ ["way","one","other"] (zd Ui):=wb
def ED:SF:=(zy<|zj (aC (xM WY "join" zk<|aC (f1 zm<|zP vZ "whole")<|aC (f1 zD<|zP vZ "whole") aN)<|aC (xM WY "join" zk<|aC (f1 zD<|zP Wp "back")<|aC (f1 zm<|zP Wp "back") aN)<|aC (fC .non)<|aC (fC<|.bl false)<|aC zm Zx)<|ym "Knot")
def yr:Fn:=xJ 3 3 ED
abbrev Ek:List Str:=["way","row","half"]
def Mt:FnScope Ek ["way","row"] (zd Uc):=wb
def E1(self:Fn):SF:=(zh (y6 (fT<|f2 (fP xQ xC) zW<|zz .Eq) (zy<|fC .non) yX)<|zh (y6 (fT<|f2 (fP xQ xC) zL<|zz .Eq) (zy<|zj (aC (f2 zm zW zx) aN) Q4) yX)<|zh (zr true 2<|f2 (fP xQ xC) yy zK)<|zy<|zj (aC zk<|aC (zj (aC zk<|aC (Rj zm oN (oS zD) Tn) aN) self)<|aC (zj (aC zk<|aC (Rj zm (oS zD) oN Tn) aN) self) aN) yr)
def xI:Nat->Fn
 |0=>λ_=>none
 |n+1=>xJ 3 2<|E1<|xI n
abbrev E6:List Str:=["tree"]
def LY:FnScope E6 ["tree"] (zd Q5):=wb
def Ej:SF:=(zy<|Iq (fT<|f2 zk (fC .non)<|zz .Is) zW<|f1 zk<|zP xU "size")
def X4:Fn:=xJ 1 1 Ej
abbrev UX:List Str:=["self","one","other"]
def V1:FnScope UX ["self","one","other"] (zd ZF):=wb
abbrev JZ:EF:=(zU (xS zk) [none,some 1] xm yD<|f2 zm zk zx)
def U3:SF:=(zy<|fP (aC (zU (VR<|aC zm Zx) [none,none] (gT 2<|yH xm<|yH (gN 1) XI) yD<|fP (aC JZ aN) tupP) aN) tupP)
def XX:Fn:=xJ 3 3 U3
def Es:List (Str×Fn):=[("Ways",XX)]
abbrev Pq:List Str:=["way","one","other"]
def UI:FnScope Pq ["way","one","other"] (zd Yp):=wb
def P5:SF:=(zh (y6 (fT<|f2 zm (fC .non)<|zz .Is) (zy zD) yX)<|zh (y6 (fT<|f2 zD (fC .non)<|zz .Is) (zy zm) yX)<|zy<|xM Es "behind" zk<|aC zm Zx)
def WH:Fn:=xJ 3 3 P5
abbrev Gm:List Str:=["self","wait","value","many"]
def PC:FnScope Gm ["self","wait","value","many"] (zd Xr):=wb
def Kc:SF:=(zy<|f2 (f2 zm (f2 zF (f1 zk<|zP Q7 "around") zO) zx) zD zx)
def QF:Fn:=xJ 4 4 Kc
def PR:List (Str×Fn):=[("Ways",QF)]
abbrev Nz:List Str:=["way","tree","wait","whole","back"]
def G6:FnScope Nz ["way","tree","wait"] (zd WQ):=wb
abbrev i9:EF:=(zj (aC zk<|aC (f1 zm<|zP ZH "wait") Zx) WH)
abbrev iW:AF:=(aC (f1 zm<|zP Qs "one")<|aC (f1 zm<|zP ZR "other") aN)
def NK:SF:=(zh (y6 (fT<|f2 zm (fC .non)<|zz .Is) (zy<|fC .non) yX)<|zh (zr true 3<|xM PR "made" zk<|aC zD<|aC (f1 zm<|zP vZ "whole")<|aC (f1 zm<|zP xU "size") aN)<|zh (y6 (fT<|f2 (f1 zm<|zP yF "deep") zW<|zz .Eq) (zy<|zj v_ Q4) yX)<|zh (zr true 4<|xM PR "made" zk<|aC zD<|aC (f1 zm<|zP Wp "back")<|aC (f1 zm<|zP xU "size") aN)<|zy<|zj (aC zF<|aC zY<|aC i9<|aC (f1 zm<|zP Xx "turn") iW)<|ym "Knot")
def Zs:Fn:=xJ 5 3 NK
abbrev PP:List Str:=["way","tree"]
def UQ:FnScope PP ["way","tree"] (zd Ys):=wb
def Pc:SF:=(zh (y6 (fT<|f2 zm (fC .non)<|zz .Is) (zy<|fC .non) yX)<|zy<|zj (aC (f1 zm<|zP Wp "back")<|aC (f1 zm<|zP vZ "whole")<|aC (f1 zm<|zP ZH "wait")<|aC (IP<|f1 zm<|zP Xx "turn") iW)<|ym "Knot")
def wA:Fn:=xJ 2 2 Pc
abbrev Mw:List Str:=["way","knot","one","other"]
def G9:FnScope Mw ["way","knot"] (zd WM):=wb
def Mo:SF:=(zh (zr true 2<|f1 zm<|zP Qs "one")<|zh (zr true 3<|f1 zm<|zP ZR "other")<|zh (y6 (fT<|f2 (f1 zm<|zP ZH "wait") (fC .non)<|zz .IsNot) (zh (zr true 2<|zj (aC zk<|aC zD<|aC (f1 zm<|zP ZH "wait") aN) Zs)<|zr true 3<|zj (aC zk<|aC zF<|aC (f1 zm<|zP ZH "wait") aN) Zs) yX)<|zh (y6 (fT<|f1 zm<|zP Xx "turn") (zy<|yj<|dC (zj (aC zk v_) wA)<|dC (zj (aC zk Zx) wA) dN) yX)<|zy<|yj<|dC zD<|dC zF dN)
def vt:Fn:=xJ 4 2 Mo
noncomputable abbrev Hi:List Str:=["way","tree","wait","turn","row","owed","contrary","parts","part"]
def Wl:FnScope Hi ["way","tree","wait","turn","row"] (zd P9):=wb
abbrev iB:EF:=(Iq (fT<|f2 zD (fC .non)<|zz .Is) (f1 zm<|zP vZ "whole")<|xM PR "made" zk<|aC zD<|aC (f1 zm<|zP vZ "whole")<|aC zL aN)
abbrev mJ:AF:=(aC zk<|aC (fV 8)<|aC yB<|aC wR<|aC zY aN)
def Nq(self:List Zj->O->Option O):SF:=(y6 (fT<|f2 (f1 zm<|zP yF "deep") zW<|zz .Eq) (yo<|ZQ 4 (dC iB dN) ZS)<|zh (zr true 5 i9)<|zh (zr true 6<|f2 (f1 zm<|zP Xx "turn") zF<|zz .NotEq)<|zh (zr true 7<|Iq (fT wR) (yj<|dC (f1 zm<|zP ZR "other")<|dC (f1 zm<|zP Qs "one") dN)<|yj<|dC (f1 zm<|zP Qs "one")<|dC (f1 zm<|zP ZR "other") dN)<|yC (Zq Kq) (gN 8)<|WZ 4 mJ self)
def xW:Nat->List Zj->O->Option O
 |0=>λ_ _=>none
 |n+1=>gL 9 5<|Nq<|xW n
abbrev Hc:List Str:=["way","tree","row"]
def TR:FnScope Hc ["way","tree"] (zd Pn):=wb
def B7:SF:=(zh (zr false 2<|yd dN)<|zh (y6 (fT<|f2 zm (fC .non)<|zz .IsNot) (WZ 2 (aC zk<|aC zm<|aC (fC .non)<|aC (fC<|.bl false) Zx)<|xW 20) yX)<|zy zD)
def Wj:Fn:=xJ 3 2 B7
abbrev U4:List Str:=["way","one","other","parts","inner"]
def QX:FnScope U4 ["way","one","other"] (zd ZE):=wb
abbrev mh:SF:=(zr true 3<|zj (aC zk xQ) vt)
def Rc:SF:=(zh mh<|zh (y6 (fT<|f2 (f1 (f2 zF zW zx)<|zP yF "deep") (f1 (f2 zF zL zx)<|zP yF "deep")<|zz .GtE) (zy<|zj (aC zk<|aC (f2 zF zW zx)<|aC (zj (aC zk<|aC (f2 zF zL zx) Zx) yr) aN) yr) yX)<|zh (zr true 4<|zj (aC zk<|aC (f2 zF zL zx) aN) vt)<|zy<|zj (aC zk<|aC (zj (aC zk<|aC (f2 zF zW zx)<|aC (f2 zY zW zx) aN) yr)<|aC (zj (aC zk<|aC (f2 zY zL zx) Zx) yr) aN) yr)
def XJ:Fn:=xJ 5 3 Rc
abbrev V3:List Str:=["way","one","other","parts","inner"]
def VU:FnScope V3 ["way","one","other"] (zd vT):=wb
def V0:SF:=(zh (zr true 3<|zj (aC zk Zx) vt)<|zh (y6 (fT<|f2 (f1 (f2 zF zL zx)<|zP yF "deep") (f1 (f2 zF zW zx)<|zP yF "deep")<|zz .GtE) (zy<|zj (aC zk<|aC (zj (aC zk<|aC zm<|aC (f2 zF zW zx) aN) yr)<|aC (f2 zF zL zx) aN) yr) yX)<|zh (zr true 4<|zj (aC zk<|aC (f2 zF zW zx) aN) vt)<|zy<|zj (aC zk<|aC (zj (aC zk<|aC zm<|aC (f2 zY zW zx) aN) yr)<|aC (zj (aC zk<|aC (f2 zY zL zx)<|aC (f2 zF zL zx) aN) yr) aN) yr)
def YL:Fn:=xJ 5 3 V0
abbrev Sh:List Str:=["way","one","other"]
def EH:FnScope Sh ["way","one","other"] (zd Pe):=wb
abbrev iQ:TF:=(fT<|f2 (f1 zm<|zP yF "deep") (f2 (f1 zD<|zP yF "deep") zL zt)<|zz .Gt)
abbrev gj:TF:=(fT<|f2 (f1 zD<|zP yF "deep") (f2 (f1 zm<|zP yF "deep") zL zt)<|zz .Gt)
def Hx:SF:=(zh (y6 iQ (zy<|zj (aC zk<|aC zm Zx) XJ) yX)<|zh (y6 gj (zy<|zj (aC zk<|aC zm Zx) YL) yX)<|zy<|zj (aC zk<|aC zm Zx) yr)
def RP:Fn:=xJ 3 3 Hx
abbrev Qz:List Str:=["way","one","other","parts"]
def Z2:FnScope Qz ["way","one","other"] (zd Ze):=wb
def V6(self:Fn):SF:=(zh (y6 (fT<|f2 zm (fC .non)<|zz .Is) (zy zD) yX)<|zh (y6 (fT<|f2 zD (fC .non)<|zz .Is) (zy zm) yX)<|zh (y6 iQ (zh mh<|zy<|zj (aC zk<|aC (f2 zF zW zx)<|aC (zj (aC zk<|aC (f2 zF zL zx) Zx) self) aN) RP) yX)<|zh (y6 gj (zh (zr true 3<|zj (aC zk Zx) vt)<|zy<|zj (aC zk<|aC (zj (aC zk<|aC zm<|aC (f2 zF zW zx) aN) self)<|aC (f2 zF zL zx) aN) RP) yX)<|zy<|zj (aC zk<|aC zm Zx) yr)
def zN:Nat->Fn
 |0=>λ_=>none
 |n+1=>xJ 4 3<|V6<|zN n
noncomputable abbrev GZ:List Str:=["way","tree","place","parts","ahead","pair"]
def Zd:FnScope GZ ["way","tree","place"] (zd Xz):=wb
def G3(self:Fn):SF:=(zh (y6 (fT<|f2 zD zW<|zz .Eq) (zy<|yj<|dC (fC .non)<|dC zm dN) yX)<|zh (y6 (fT<|f2 zD (f1 zm<|zP xU "size")<|zz .Eq) (zy<|yj<|dC zm<|dC (fC .non) dN) yX)<|zh mh<|zh (zr true 4<|f1 (f2 zF zW zx)<|zP xU "size")<|zh (y6 (fT<|f2 zD zY<|zz .Lt) (zh (zr true 5<|zj (aC zk<|aC (f2 zF zW zx) Zx) self)<|zy<|yj<|dC (f2 yB zW zx)<|dC (zj (aC zk<|aC (f2 yB zL zx)<|aC (f2 zF zL zx) aN)<|zN 20) dN) yX)<|zh (zr true 5<|zj (aC zk<|aC (f2 zF zL zx)<|aC (f2 zD zY Zt) aN) self)<|zy<|yj<|dC (zj (aC zk<|aC (f2 zF zW zx)<|aC (f2 yB zW zx) aN)<|zN 20)<|dC (f2 yB zL zx) dN)
def yA:Nat->Fn
 |0=>λ_=>none
 |n+1=>xJ 6 3<|G3<|yA n
abbrev Re:List Str:=["place","least","most"]
def VY:FnScope Re ["place","least","most"] (zd ZG):=wb
def XR:SF:=(y6 (YY<|fT<|zj (aC zk<|aC zm Zx) vE) Ab yX)
def yZ:Fn:=xJ 3 3 XR
abbrev RK:List Str:=["size"]
def UZ:FnScope RK ["size"] (zd Yw):=wb
def Wr:SF:=(y6 (fT<|f2 zk (fC<|.int 300)<|zz .Gt) Ab yX)
def vW:Fn:=xJ 1 1 Wr
abbrev D0:List Str:=["rows"]
def CJ:FnScope D0 ["rows"] (zd FT):=wb
def uq:SF:=(zy<|fP (aC (zU (xS zk) [none] xm yD<|fP Zv tupP) aN) tupP)
def FU:Fn:=xJ 1 1 uq
abbrev Np:List Str:=["_law_script","_law_k","_law_most","_law_x","_law_found","_law_j"]
def Kh:FnScope Np ["_law_script","_law_k"] (zd WI):=wb
abbrev kz:EF:=(f2 (f2 (f2 (f2 zk zm zx) zD zO) (f2 (fC<|.int 7919) (fC<|.int 15)<|Y4 .Pow) zT) zD zO)
abbrev jx:SF:=(zr true 3<|f2 zF (f2 (f2 (f2 zk (f2 zm (fP Zv xC) zO) zx) (fC<|.int 1000003) zO) (f2 (f2 yy zm zT) zL zt) zT) zt)
abbrev jj:SF:=(zr true 3<|f2 (f2 (f2 (f2 (f2 zF zF zT) (f2 (fC<|.int 48271) zF zT) zt) (f2 (fC<|.int 69621) yB zT) zt) zm zt) (fC<|.int 2147483629) zO)
abbrev jn:SF:=(zr true 4<|f2 (f2 zY (fC<|.int 998244353) zT) (f2 (f2 zF (fC<|.int 16807) zT) (fC<|.int 2147483587) zO) zt)
def Mj:SF:=(zh (zr true 2<|f2 (fC<|.int 1000) (f2 (fC<|.int 10) (fC<|.int 64)<|Y4 .Pow) zT)<|zh (y6 (fT<|f2 zm (fP Zv xC)<|zz .Lt) (zy kz) yX)<|zh (zr true 3<|f2 (f2 (f2 zm zm zT) (f2 (fC<|.int 7) zm zT) zt) (fC<|.int 11) zt)<|zh (y6 (fT<|f2 zk (yd dN)<|zz .NotEq) jx yX)<|zh (zr true 4 zW)<|zh (yC (yG (aC MV aN) yS) (gN 5)<|zh jj jn)<|zy<|f2 zY zD zO)
def yg:Fn:=xJ 6 2 Mj
abbrev Ph:List Str:=["_law_x","_law_sizes","_law_found","_law_size"]
def UU:FnScope Ph ["_law_x","_law_sizes"] (zd YC):=wb
def Pr:SF:=(zh (zr false 2<|yd dN)<|zh (yC (Zq zm) (gN 3)<|zh (yo<|ZQ 2 (dC (f2 zk zF zO) dN) ZS)<|zr true 0<|f2 zk zF zK)<|zy zD)
def yw:Fn:=xJ 4 2 Pr
noncomputable abbrev GA:List Str:=["_law_x","_law_many","_law_letters","_law_size","_law_at","_law_step","_law_names_here","_law_k","_law_name","_law_j","_law_turn"]
def P3:FnScope GA ["_law_x","_law_many"] (zd Xs):=wb
abbrev jJ:EF:=(zj (aC zk<|aC (yd<|dC MV<|dC (fC<|.int 840)<|dC MV dN) aN) yw)
abbrev nQ:EF:=(f2 zk (f2 (fC<|.int 53761) (f2 (f2 (fC<|.int 26) (fV 9) zT) (fV 9) zT) zt) zK)
abbrev mE:SF:=(zr true 10<|f2 (fV 10) (f2 Kq (f2 yB zL zt) zT) zt)
abbrev j9:SF:=(zr true 8<|f2 (fV 8) (f2 zD (f2 (fV 10) (fC<|.int 26) zO) zx) zt)
def Gv:SF:=(zh (zr true 2<|fC<|.str "abcdefghijklmnopqrstuvwxyz")<|zh (VW jJ<|gT 3<|yH (gN 3)<|yH P_<|yH (gN 5) XI)<|zh (zr true 5<|f2 (yd<|dC zW<|dC yy<|dC Xk<|dC DI<|dC MV<|dC (fC<|.int 10)<|dC (fC<|.int 14)<|dC (fC<|.int 16) dN) yB zx)<|zh (zr true 4<|f2 zY (f2 zF zL zt) zO)<|zh (zr false 6<|yd dN)<|zh (yC (yG xQ yS) (gN 7)<|zh (zr true 8<|fC<|.str "")<|zh (yC (yG (aC (f2 zF zL zt) aN) yS) (gN 9)<|zh (zr true 10 nQ)<|zh (y6 (fT<|f2 (fV 9) zY<|zz .Eq) mE yX) j9)<|yo<|ZQ 6 (dC (fV 8) dN) ZS)<|zy wR)
def XC:Fn:=xJ 11 2 Gv
abbrev Vm:List Str:=["_law_part","_law_a","_law_b","_law_kind","_law_size"]
def We:FnScope Vm ["_law_part","_law_a","_law_b"] (zd wX):=wb
abbrev jo:EF:=(yd<|dC (f2 zD yy zK)<|dC (f2 zD yy zO) dN)
def Vu:SF:=(zh (VW zk<|gT 2<|yH (gN 3)<|yH P_ XI)<|zh (y6 (fT<|f2 zF zW<|zz .Eq) (zy<|f2 (f2 zm zD zt) zY zO) yX)<|zh (y6 (fT<|f2 zF zL<|zz .Eq) (zy<|fP (aC zm Zx) HA) yX)<|zh (y6 (fT<|f2 zF yy<|zz .Eq) (zy<|f2 (yd<|dC zD<|dC zm dN) (fP (aC (f2 zD zW<|zz .Eq) aN) G8) zx) yX)<|zy<|f2 (f2 yy (f2 jo (f2 zm yy zK) zx) zT) (f2 jo (f2 zm yy zO) zx) zt)
def w_:Fn:=xJ 5 3 Vu
abbrev Vs:List Str:=["_law_part","_law_x","_law_c","_law_a","_law_kind","_law_size"]
def X3:FnScope Vs ["_law_part","_law_x","_law_c","_law_a"] (zd vk):=wb
def Vy:SF:=(zh (VW zk<|gT 2<|yH P_<|yH (gN 5) XI)<|zh (y6 (fT<|f2 zY zW<|zz .Eq) (zy<|f2 (f2 (f2 (f2 zm yB zO) zF zT) (f2 (f2 (f2 zm yB zK) yB zO) zD zT) zt) yB zO) yX)<|zh (y6 (fT<|f2 zY zL<|zz .Eq) (zy<|fP (aC (f2 yB zL Zt)<|aC (fP (aC (zU (yG v_ yS) [none,some 1] xm yD<|f2 (f2 zm (f2 (yd<|dC zL<|dC WW<|dC (fC<|.int 9)<|dC (fC<|.int 27)<|dC (fC<|.int 81)<|dC (fC<|.int 243)<|dC (fC<|.int 729) dN) zk zx) zK) WW zO) aN) ny) aN) Ss) yX)<|zh (y6 (fT<|f2 zY yy<|zz .Eq) (zy<|f2 (fP (aC (f2 zF zW<|zz .Gt) aN) G8) (f2 zL (f2 (f2 zm (f2 (yd<|dC zL<|dC DI<|dC (fC<|.int 36)<|dC (fC<|.int 216)<|dC (fC<|.int 1296)<|dC (fC<|.int 7776)<|dC (fC<|.int 46656) dN) zF zx) zK) (fP (aC zL<|aC (f2 yB zL Zt) aN) HA) zO) zt) zT) yX)<|zh (y6 (fT<|f2 (f2 zm yy zO) zW<|zz .Eq) (zy zF) yX)<|zy<|f2 (f2 (f2 yy (f2 zL (f2 zF yy zO) Zt) zT) zL zt) (f2 zF yy zK) Zt)
def xy:Fn:=xJ 6 4 Vy
abbrev G4:List Str:=["_law_x","_law_some"]
def Pg:FnScope G4 ["_law_x"] (zd Xq):=wb
def GN:SF:=(zh (zr true 1<|yd<|dC (yd<|dC (yj<|dC zW<|dC WW dN) dN)<|dC (yd<|dC (yj<|dC yy<|dC WW dN) dN)<|dC (yd<|dC (yj<|dC zL<|dC Xk dN) dN)<|dC (yd<|dC (yj<|dC zW<|dC yy dN)<|dC (yj<|dC yy<|dC yy dN) dN)<|dC (yd<|dC (yj<|dC WW<|dC Xk dN) dN)<|dC (yd<|dC (yj<|dC yy<|dC Xk dN) dN)<|dC (yd<|dC (yj<|dC zW<|dC yy dN)<|dC (yj<|dC zL<|dC WW dN) dN)<|dC (yd<|dC (yj<|dC zW<|dC FP dN) dN) dN)<|zh (zr true 1<|f2 zm (yd<|dC (yd<|dC (yj<|dC yy<|dC yy dN)<|dC (yj<|dC WW<|dC Xk dN) dN)<|dC (yd<|dC (yj<|dC zL<|dC yy dN)<|dC (yj<|dC yy<|dC WW dN) dN)<|dC (yd<|dC (yj<|dC zW<|dC Xk dN) dN)<|dC (yd<|dC (yj<|dC WW<|dC Xk dN) dN)<|dC (yd<|dC (yj<|dC zL<|dC DI dN) dN)<|dC (yd<|dC (yj<|dC zW<|dC yy dN)<|dC (yj<|dC WW<|dC Xk dN) dN) dN) zt)<|zh (zr true 1<|f2 zm (yd<|dC (yd<|dC (yj<|dC yy<|dC (fC<|.int 7) dN) dN)<|dC (yd<|dC (yj<|dC zW<|dC DI dN) dN) dN) zt)<|zy<|f2 zm (f2 zk (fC<|.int 16) zO) zx)
def Ql:Fn:=xJ 2 1 GN
abbrev GY:List Str:=["_law_parts_here","_law_value","_law_found","_law_kind","_law_size"]
def Pp:FnScope GY ["_law_parts_here","_law_value"] (zd XE):=wb
def Kf:SF:=(zh (zr false 2<|yd dN)<|zh (yC (Zq zk) (gT 2<|yH (gN 3)<|yH P_ XI)<|zh (yo<|ZQ 2 (dC (f2 zm zY zO) dN) ZS)<|zr true 1<|f2 zm zY zK)<|zy zD)
def V_:Fn:=xJ 5 2 Kf
abbrev Mi:List Str:=["_law_parts_here","_law_row_here","_law_value","_law_part","_law_one"]
def GG:FnScope Mi ["_law_parts_here","_law_row_here"] (zd Vc):=wb
abbrev oo:AF:=(aC (Rj zk oN (oS<|f1 zL HR) kh)<|aC (Rj zm oN (oS<|f1 zL HR) kh) aN)
abbrev jw:SF:=(zr true 2<|f2 (f2 zD (f2 zF zL zx) zT) zY zt)
def LV:SF:=(zh (zr true 2 zW)<|zh (yC (VR oo) (gT 2<|yH (gN 3)<|yH P_ XI) jw)<|zy zD)
def xx:Fn:=xJ 5 2 LV
abbrev GO:List Str:=["_law_x","_law_n","_law_order_here","_law_k"]
def P8:FnScope GO ["_law_x","_law_n"] (zd Xv):=wb
def G0:SF:=(zh (zr false 2<|yd dN)<|zh (yC (yG xQ yS) (gN 3)<|zh (yo<|ZQ 2 (dC (f2 zk (f2 zF zL zt) zO)<|dC zF dN) H9)<|zr true 0<|f2 zk (f2 zF zL zt) zK)<|zy zD)
def Qt:Fn:=xJ 4 2 G0
noncomputable abbrev U2:List Str:=["_law_script","_law_start","_law_parts_here","_law_n","_law_m","_law_order_here","_law_values","_law_join","_law_a","_law_deeds","_law_names_here","_law_k","_law_x","_law_rows","_law_c","_law_signs","_law_nothing"]
def QZ:FnScope U2 ["_law_script","_law_start"] (zd ZD):=wb
abbrev iK:SF:=(zr true 2<|zj (aC (zj (aC zk xQ) yg) aN) Ql)
abbrev kX:SF:=(zr true 3<|f2 (zj (aC zD<|aC (zU (xS zD) [none,none] (gT 2<|yH xm<|yH (gN 1) XI) yD<|f2 zm zL Zt) aN) xx) zL zt)
abbrev kQ:SF:=(zr true 4<|f2 zL (f2 (f2 (zj (aC zk xQ) yg) (fC<|.int 16) zK) Xk zO) zt)
abbrev iE:SF:=(y6 (fT<|f2 (f2 (f2 zD zW zx) zW zx) zW<|zz .Eq) (zr true 4<|f2 (f2 zD zW zx) zL zx) yX)
abbrev j_:SF:=(zr true 5<|zj (aC (zj (aC zk<|aC (f2 zm zL zt) aN) yg) v_) Qt)
abbrev ky:SF:=(zr true 6<|zU (yG v_ yS) [none,some 2,some 5] xm yD<|zj (aC zm<|aC (Eg .lst zD Zv OE) aN) V_)
abbrev mQ:GF:=(gT 3<|yH xm<|yH (gN 1)<|yH (gN 2) XI)
abbrev cb:SF:=(yC (Zq wR) (gN 8)<|yo<|ZQ 7 (dC (zU (xS wR) [none,some 2,some 8] xm yD<|zj (aC zm<|aC (zU (CV<|aC zm<|aC zD Zv) [none,none,none] mQ yD<|zj (aC zk<|aC zm Zx) w_) aN) xx) dN) ZS)
abbrev iX:SF:=(zr true 10<|zj (aC (zj (aC zk<|aC (f2 zm yy zt) aN) yg)<|aC (fC<|.int 7) aN) XC)
abbrev kZ:EF:=(zj (aC zk<|aC (f2 (f2 zm Xk zt) GP zt) aN) yg)
abbrev jU:SF:=(yo<|ZQ 13 (dC (zU (xS wR) [none,some 2,some 12,some 14] xm yD<|zj (aC zm<|aC (zU (VR<|aC zm Zv) [none,none,some 2,some 3] (gT 2<|yH xm<|yH (gN 1) XI) yD<|zj (aC zk<|aC zD<|aC zF xQ) xy) aN) xx) dN) ZS)
abbrev cK:SF:=(yC (yG (aC (f2 zL (f2 (zj (aC zk<|aC (f2 zm WW zt) aN) yg) Xk zO) zt) aN) yS) (gN 11)<|zh (zr true 12 kZ)<|zh (zr false 13<|yd dN)<|zh (yC (yG (aC zY aN) yS) (gN 14) jU)<|yo<|ZQ 9 (dC (yj<|dC (f2 (fV 10) GP zx)<|dC (zU (xS<|fV 13) [none,some 5] xm yD JZ) dN) dN) ZS)
abbrev jl:EF:=(f2 (zj (aC zk<|aC (f2 (f2 zm (fC<|.int 9) zt) GP zt) aN) yg) (fC<|.int 7) zK)
abbrev d_:SF:=(yC (yG (aC (f2 zL (f2 (zj (aC zk<|aC (f2 zm MV zt) aN) yg) WW zO) zt) aN) yS) (gN 11)<|zh (zr true 12 jl)<|yo<|ZQ 15 (dC (yj<|dC (f2 (fV 10) (f2 Xk GP zt) zx)<|dC (zU (yG v_ yS) [none,some 12] xm (fT<|f2 (f2 (f2 zm (f2 (yd<|dC zL<|dC yy<|dC Xk<|dC MV<|dC (fC<|.int 16)<|dC (fC<|.int 32)<|dC (fC<|.int 64)<|dC (fC<|.int 128) dN) zk zx) zK) yy zO) zL<|zz .Eq) zk) dN) dN) ZS)
abbrev gI:SF:=(zr true 16<|f2 yB (zj (aC zD<|aC (zU (xS zD) [none,none] (gT 2<|yH xm<|yH (gN 1) XI) yD<|fP (aC (f2 zk WW<|zz .Eq) aN) G8) aN) xx) zx)
abbrev jr:DF:=(dC zF<|dC zY<|dC Kq<|dC (fV 16)<|dC (fV 9)<|dC (fV 15) dN)
def UO:SF:=(zh iK<|zh kX<|zh kQ<|zh iE<|zh j_<|zh ky<|zh (zr false 7<|yd dN)<|zh cb<|zh (zr false 7<|zU (xS Kq) [none,some 5] xm yD JZ)<|zh (zr false 9<|yd dN)<|zh iX<|zh cK<|zh (zr false 15<|yd dN)<|zh d_<|zh gI<|zy<|yj jr)
def ZA:Fn:=xJ 17 2 UO
noncomputable abbrev VP:List Str:=["_law_script","_law_cells","_law_odd","_law_n","_law_m","_law_deeds","_law_signs","_law_nothing","_law_names_here","_law_table","_law_join","_law_told_here","_law_k","_law_rows","_law_held","_law_bits"]
def Wd:FnScope VP ["_law_script"] (zd vc):=wb
abbrev gJ:EF:=(f2 (fC<|.int 12) (fP (aC (Rj zk oN (oS<|fC<|.int 12) Tn) aN) xC) Zt)
abbrev eW:EF:=(f2 (zU (xS<|Rj zk oN (oS<|fC<|.int 12) Tn) [none] xm yD zk) (f2 (yd<|dC zW dN) gJ zT) zt)
abbrev jW:SF:=(VW (zj (aC (f2 zm zW zx)<|aC (yd<|dC yy<|dC MV<|dC DI<|dC (fC<|.int 7)<|dC FP<|dC MV dN) aN) yw)<|gT 6<|yH (gN 2)<|yH (gN 3)<|yH P_<|yH (gN 5)<|yH (gN 6)<|yH (gN 7) XI)
abbrev j0:SF:=(zr true 8<|zj (aC (zj (aC zk<|aC (fC<|.int 12) aN) yg)<|aC (fC<|.int 10) aN) XC)
abbrev ix:SF:=(zr true 9<|zj (aC (f2 zm zL zx)<|aC (f2 (yd<|dC zF dN) (f2 zF zF zT) zT) aN) yw)
abbrev kG:EF:=(Rj zm (oS<|f2 zD zk zT) (oS<|f2 (f2 zD zk zT) zD zt) Tn)
abbrev iz:SF:=(zr true 10<|zU (yG v_ yS) [none,some 9,some 3] xm yD kG)
abbrev cg:SF:=(yC (yG lg yS) (gN 12)<|zh (zr true 13<|zj (aC (f2 zm (f2 yy (fV 12) zt) zx)<|aC (f2 (yd<|dC zF dN) (f2 zF zY zT) zT) aN) yw)<|yo<|ZQ 11 (dC (yj<|dC (f2 (fV 8) (fV 12) zx)<|dC (zU (yG (aC zY aN) yS) [none,some 13,some 3] xm yD kG) dN) dN) ZS)
abbrev cx:SF:=(yC (yG (aC wR aN) yS) (gN 12)<|zh (zr true 15<|zj (aC (f2 zm (f2 MV (fV 12) zt) zx)<|aC (f2 (yd<|dC yy dN) zF zT) aN) yw)<|yo<|ZQ 14 (dC (yj<|dC (f2 (fV 8) (f2 (fC<|.int 9) (fV 12) Zt) zx)<|dC (zU (yG v_ yS) [none,some 15] xm (fT<|f2 (f2 zm zk zx) zL<|zz .Eq) zk) dN) dN) ZS)
abbrev ij:DF:=(dC zF<|dC zY<|dC (fV 10)<|dC (f2 Kq zF zO)<|dC GP<|dC (fV 14) dN)
def Vz:SF:=(zh (zr true 1 eW)<|zh jW<|zh (zr true 3<|f2 zF zL zt)<|zh (zr true 4<|f2 zY zL zt)<|zh j0<|zh ix<|zh iz<|zh (zr false 11<|yd dN)<|zh cg<|zh (zr false 14<|yd dN)<|zh cx<|zy<|yj ij)
def vh:Fn:=xJ 16 1 Vz
abbrev Nk:List Str:=["_law_m","_law_join","_law_rows","_law_a","_law_b","_law_i","_law_j","_law_one","_law_other"]
def GT:FnScope Nk ["_law_m","_law_join","_law_rows","_law_a","_law_b"] (zd WR):=wb
abbrev cw:SF:=(yC (yG Zv yS) (gN 6)<|zh (zr true 7<|f2 (f2 zD (f2 (f2 yB wR zt) zk zO) zx) (f2 (f2 zm zF zx) zY zx) zx)<|zh (zr true 8<|f2 (f2 zm (f2 (f2 zD yB zx) zF zx) zx) (f2 (f2 zD wR zx) zY zx) zx)<|y6 (fT<|f2 Kq (fV 8)<|zz .NotEq) (zy<|fC<|.bl false) yX)
def Nl:SF:=(zh (yC (yG Zv yS) (gN 5) cw)<|zy<|fC<|.bl true)
def Ri:Fn:=xJ 9 5 Nl
noncomputable abbrev U5:List Str:=["_law_algebra_here","_law_n","_law_m","_law_join","_law_nothing","_law_deeds","_law_signs","_law_p","_law_a","_law_b","_law_name","_law_rows","_law_empty"]
def QU:FnScope U5 ["_law_algebra_here"] (zd ZC):=wb
abbrev sQ:SF:=(VW zk<|gT 6<|yH (gN 1)<|yH (gN 2)<|yH (gN 3)<|yH P_<|yH (gN 5)<|yH (gN 6) XI)
abbrev kL:SF:=(VW (fP (aC Kq xQ) tU)<|gT 2<|yH (gN 8)<|yH (gN 9) XI)
abbrev cS:SF:=(zh kL<|zh (y6 (Br (fT<|f2 (f2 (f2 zF zY zx) (fV 8) zx) (fV 8)<|zz .NotEq)<|fT<|f2 (f2 (f2 zF (fV 8) zx) zY zx) (fV 8)<|zz .NotEq) (zy<|fC<|.bl false) yX)<|zh (y6 (fT<|f2 (f2 zF (f2 (f2 zF (fV 8) zx) (fV 9) zx) zx) (zU (xS<|f2 zF (fV 9) zx) [none,some 3,some 8] xm yD<|f2 (f2 zm zD zx) zk zx)<|zz .NotEq) (zy<|fC<|.bl false) yX)<|yC (Zq yB) (gT 2<|yH (gN 10)<|yH (gN 11) XI)<|y6 (YY<|fT<|zj (aC zD<|aC zF<|aC GP<|aC (fV 8)<|aC (fV 9) aN) Ri) (zy<|fC<|.bl false) yX)
def Uy:SF:=(zh sQ<|zh (yC (yG (aC (f2 zm zm zT) aN) yS) (gN 7) cS)<|zh (zr true 12<|zU (xS yB) [none,none,some 4] (gT 2<|yH xm<|yH (gN 1) XI) (fT<|f2 (f2 (f2 zm zW zx) zD zx) zD<|zz .NotEq) zk)<|zy<|NS (f2 (fV 12) (yd dN)<|zz .Eq)<|NS (f2 yB (yd dN)<|zz .NotEq)<|f2 wR (yd dN)<|zz .NotEq)
def XH:Fn:=xJ 13 1 Uy
abbrev Fd:List Str:=["_law_script","_law_algebra_here"]
def Mg:FnScope Fd ["_law_script"] (zd Ue):=wb
def Eh:SF:=(zh (y6 (SB (fT<|f2 (fP Zv xC) zW<|zz .Gt)<|fT<|f2 (f2 (f2 zk zW zx) yy zO) zL<|zz .Eq) (zh (zr true 1<|zj Zv vh)<|y6 (fT<|zj xQ XH) (zy zm) yX) yX)<|zy<|zj (aC zk<|aC zW aN) ZA)
def Ug:Fn:=xJ 2 1 Eh
abbrev NI:List Str:=["_law_algebra_here","_law_n","_law_m","_law_join","_law_nothing","_law_deeds","_law_signs"]
def Ke:FnScope NI ["_law_algebra_here"] (zd W9):=wb
abbrev iN:SF:=(zr true 5<|zU (xS yB) [none,none] (gT 2<|yH xm<|yH (gN 1) XI) yD<|yj<|dC zk<|dC (zU (xS zm) [none] xm yD<|fP Zv lstP) dN)
def NF:SF:=(zh sQ<|zh iN<|zy<|yj<|dC zm<|dC zD<|dC (zU (xS zF) [none] xm yD<|fP Zv lstP)<|dC zY<|dC yB<|dC (zU (xS wR) [none,none] (gT 2<|yH xm<|yH (gN 1) XI) yD<|yj<|dC zk<|dC (fP xQ lstP) dN) dN)
def Rz:Fn:=xJ 7 1 NF
abbrev MA:List Str:=["_law_algebra_here","_law_name","_law_row_here","_law_rows"]
def GU:FnScope MA ["_law_algebra_here","_law_name","_law_row_here"] (zd W0):=wb
def Nx:SF:=(zh (zr true 3<|f2 (fP (aC (f2 zk Xk zx) aN) Nb) zm zx)<|zy<|zU (xS zD) [none,some 3,some 0] xm yD<|f2 (f2 zm (f2 zL (f2 zD zL zx) zO) zx) zk zx)
def RB:Fn:=xJ 4 3 Nx
abbrev Fe:List Str:=["_law_x","_law_n","_law_most","_law_many"]
def Md:FnScope Fe ["_law_x","_law_n","_law_most"] (zd Q8):=wb
def E5:SF:=(zh (zr true 3<|f2 zk (f2 zD zL zt) zO)<|zh (y6 (fT<|f2 (f2 (f2 zk (fC<|.int 64) zK) MV zO) zL<|zz .Eq) (zr true 3<|f2 (fC<|.int 20) (f2 (f2 zk (fC<|.int 512) zK) (fC<|.int 40) zO) zt) yX)<|zy<|zj (aC (f2 zk (fC<|.int 32768) zK)<|aC (f2 (yd<|dC zm dN) zF zT) aN) yw)
def TH:Fn:=xJ 4 3 E5
abbrev UN:List Str:=["_law_found","_law_due"]
def Qd:FnScope UN ["_law_found","_law_due"] (zd ZJ):=wb
def UJ:SF:=(zh (y6 (Br (YY<|fT<|Q0 zk "list")<|fT<|f2 zk zm<|zz .NotEq) (zy<|fC<|.bl false) yX)<|zy<|f2 (zU (xS zk) [none] xm (Br (fT<|Q0 zk "bool")<|YY<|fT<|Q0 zk "int") zk) (yd dN)<|zz .Eq)
def Zz:Fn:=xJ 2 2 UJ
abbrev Vd:List Str:=["_law_found","_law_due"]
def Wb:FnScope Vd ["_law_found","_law_due"] (zd wY):=wb
def VO:SF:=(zy<|NS (Q0 zk "int")<|NS (IP<|Q0 zk "bool")<|f2 zk zm<|zz .Eq)
def vb:Fn:=xJ 2 2 VO
abbrev PY:List Str:=["_law_x","_law_many","_law_one","_law_other","_law_kind"]
def Rb:FnScope PY ["_law_x","_law_many"] (zd Yu):=wb
def Td:SF:=(zh (VW (zj (aC zk<|aC (yd<|dC (fC<|.int 27720)<|dC (fC<|.int 27720)<|dC FP dN) aN) yw)<|gT 3<|yH (gN 2)<|yH (gN 3)<|yH P_ XI)<|zh (zr true 2<|f2 zD (f2 zm zL zt) zO)<|zh (zr true 3<|f2 zF (f2 zm zL zt) zO)<|zh (y6 (fT<|f2 zY zW<|zz .Eq) (zy<|yj<|dC zW<|dC zm dN) yX)<|zh (y6 (fT<|f2 zY zL<|zz .Eq) (zy<|yj<|dC zD<|dC (fP (aC (f2 zD zL zt) xQ) Ss) dN) yX)<|zy<|yj<|dC (fP (aC zD v_) Ss)<|dC (fP (aC zD v_) HA) dN)
def Yo:Fn:=xJ 5 2 Td
abbrev Kb:List Str:=["_law_algebra_here","_law_row_here","_law_i","_law_values","_law_value","_law_k"]
def Pi:FnScope Kb ["_law_algebra_here","_law_row_here","_law_i","_law_values"] (zd Xu):=wb
def Kg:SF:=(zh (zr true 4<|f2 zk WW zx)<|zh (yC (yG (aC zD<|aC (fP xQ xC) aN) sR) (gN 5)<|zh (zr true 4<|f2 (yd<|dC (f2 (f2 (f2 zk yy zx) zY zx) (f2 zm yB zx) zx)<|dC (f2 zm yB zx) dN) (fP (aC (f2 yB zD<|zz .Eq) aN) G8) zx)<|y6 (fT<|f2 zY zF<|zz .In) (zy yB) yX)<|zy<|fC .non)
def QB:Fn:=xJ 6 4 Kg
abbrev Lo:List Str:=["_law_found","_law_due"]
def GE:FnScope Lo ["_law_found","_law_due"] (zd WU):=wb
def LB:SF:=(zh (y6 (fT<|f2 zm (fC .non)<|zz .Is) (zy<|f2 zk (fC .non)<|zz .Is) yX)<|zy<|zj (aC zk xQ) vb)
def WV:Fn:=xJ 2 2 LB
abbrev X7:List Str:=["self","way"]
def Ta:FnScope X7 ["self","way"] (zd wq):=wb
def Zp:J1:=(ZW (VV 0 yz "way" zm)<|Da 0 xk "trees" (yd dN))
def yO(c:Str):Fn:=nu c 2 2 Zp
abbrev Pd:List Str:=["self","tree"]
def M7:FnScope Pd ["self","tree"] (zd YA):=wb
def Yv:VF:=(L6 (iZ 0 1 xk "trees")<|FL<|f2 (ig 0 xk "trees") zL Zt)
def yM:List Zj->O->Option (D×O):=tE 2 2 Yv
abbrev VI:List Str:=["self","thing"]
def X1:FnScope VI ["self","thing"] (zd vi):=wb
def Vk:SF:=(zy<|zj (aC zm<|aC zW<|aC (f2 (f1 zk<|zP xU "size") zL Zt) aN) vE)
def ZY:Fn:=xJ 2 2 Vk
def G_:List (Str×Fn):=[("Ways",ZY)]
abbrev Yn:List Str:=["self","thing"]
def ZO:FnScope Yn ["self","thing"] (zd xh):=wb
def wL:SF:=(y6 (YY<|fT<|xM G_ "is_value" (f1 zk<|zP yz "way") xQ) Ab yX)
def xa:Fn:=xJ 2 2 wL
def YZ:List (Str×Fn):=[("Makes",xa)]
abbrev Pf:List Str:=["self","row","value"]
def U9:FnScope Pf ["self","row"] (zd Yy):=wb
def YD:VF:=(L6 (y6 (YY<|fT<|Q0 zm "list") Ab yX)<|L6 (yC (Zq zm) (gN 2)<|yo<|YS 0 YZ "check_value" Zx)<|L6 (yo<|zj (aC (fP xQ xC) aN) vW)<|FL<|Vj 0 "Makes" "keep" yM<|aC (zj (aC (Cu 0 yz "way") xQ)<|xI 20) aN)
def wC:List Zj->O->Option (D×O):=tE 3 2 YD
abbrev Vv:List Str:=["self","make"]
def X5:FnScope Vv ["self","make"] (zd vd):=wb
def VB:SF:=(zh (y6 (YY<|fT<|zj (aC zm<|aC zW<|aC (f2 (fP (aC (f1 zk<|zP xk "trees") aN) xC) zL Zt) aN) vE) Ab yX)<|zy<|f2 (f1 zk<|zP xk "trees") zm zx)
def Z9:Fn:=xJ 2 2 VB
def Y2:List (Str×Fn):=[("Makes",Z9)]
abbrev Yj:List Str:=["self","make","i","j","tree","pair","ahead"]
def ZU:FnScope Yj ["self","make","i","j"] (zd xg):=wb
def Yl:SF:=(zh (zr true 4<|xM Y2 "tree_at" zk xQ)<|zh (yo<|zj (aC zD<|aC zW<|aC (zj (aC zY aN) X4) aN) yZ)<|zh (yo<|zj (aC zF<|aC zD<|aC (zj (aC zY aN) X4) aN) yZ)<|zh (zr true 5<|zj (aC (f1 zk<|zP yz "way")<|aC zY v_)<|yA 20)<|zh (zr true 6<|zj (aC (f1 zk<|zP yz "way")<|aC (f2 yB zW zx) Zx)<|yA 20)<|zy<|yj<|dC (f2 wR zW zx)<|dC (f2 wR zL zx)<|dC (f2 yB zL zx) dN)
def wO:Fn:=xJ 7 4 Yl
abbrev Qa:List Str:=["self","thing"]
def Vf:FnScope Qa ["self","thing"] (zd vV):=wb
def Qk:SF:=(zy<|NS (Q0 zm "str")<|f2 zm (f1 zk<|zP X9 "waits")<|zz .In)
def YV:Fn:=xJ 2 2 Qk
abbrev Qh:List Str:=["self","deed"]
def Vq:FnScope Qh ["self","deed"] (zd vL):=wb
def Qx:SF:=(zy<|f2 (f1 zk<|zP X9 "waits") zm zx)
def YK:Fn:=xJ 2 2 Qx
abbrev vR:List Str:=["self","ahead","stretch","rest"]
def vF:FnScope vR ["self","ahead","stretch","rest"] (zd yI):=wb
def vX:SF:=(zy<|oC<|zj (aC (f1 zk<|zP yz "way")<|aC (zj (aC (f1 zk<|zP yz "way")<|aC zm Zx)<|zN 20) v_)<|zN 20)
def yq:Fn:=xJ 4 4 vX
def xV:List (Str×Fn):=[("Makes",yq)]
def Rw:List (Str×Fn):=[("Ways",YK)]
def RA:List (Str×Fn):=[("Ways",YV)]
def Qv:List (Str×Fn):=[("Makes",wO)]
abbrev RW:List Str:=["self","make","i","j","deed","parts","stretch"]
def XQ:FnScope RW ["self","make","i","j","deed"] (zd Yr):=wb
abbrev tY:EF:=(YS 0 Qv "three_parts" (aC zm<|aC zD v_))
abbrev jD:EF:=(YS 0 xV "three_together" (aC (f2 yB zW zx)<|aC wR<|aC (f2 yB yy zx) aN))
def PB:VF:=(L6 (zr true 5 tY)<|L6 (y6 (YY<|fT<|xM RA "is_deed" (Cu 0 yz "way")<|aC zY aN) Ab yX)<|L6 (zr true 6<|zj (aC (Cu 0 yz "way")<|aC (f2 yB zL zx)<|aC (xM Rw "wait_of" (Cu 0 yz "way")<|aC zY aN) aN) Zs)<|FL<|Vj 0 "Makes" "keep" yM<|aC jD aN)
def vY:List Zj->O->Option (D×O):=tE 7 5 PB
abbrev QS:List Str:=["self","make","i","j","parts"]
def Vn:FnScope QS ["self","make","i","j"] (zd Zg):=wb
def QD:VF:=(L6 (zr true 4 tY)<|FL<|Vj 0 "Makes" "keep" yM<|aC (YS 0 xV "three_together" (aC (f2 zY zW zx)<|aC (zj (aC (Cu 0 yz "way")<|aC (f2 zY zL zx) aN) wA)<|aC (f2 zY yy zx) aN)) aN)
def we:List Zj->O->Option (D×O):=tE 5 4 QD
abbrev w9:List Str:=["self","algebra"]
def Gi:FnScope w9 ["self","algebra"] (zd yU):=wb
def YN:(["name","rows"]:List Str).Nodup:=by decide +kernel
def YR:(["name","values"]:List Str).Nodup:=by decide +kernel
abbrev il:EF:=(fP (aC (zU (xS<|f2 zm Xk zx) [none,none] (gT 2<|yH xm<|yH (gN 1) XI) yD<|yj<|dC zk<|dC (zj xQ FU) dN) aN) Nb)
abbrev gY:EF:=(fP (aC (zU (xS<|f2 zm FP zx) [none,none] (gT 2<|yH xm<|yH (gN 1) XI) yD<|yj<|dC zk<|dC (fP xQ tupP) dN) aN) Nb)
def Yi:J1:=(ZW (rE<|zj xQ vK)<|ZW (VV 0 xU "size" (f2 zm zW zx))<|ZW (VV 0 Q7 "around" (f2 zm zL zx))<|ZW (VV 0 N9 "table" (zj (aC (f2 zm yy zx) aN) FU))<|ZW (VV 0 RC "neutral" (f2 zm WW zx))<|ZW (VV 0 X9 "waits" il)<|VV 0 Zo "holders" gY)
def vm(c:Str):Fn:=nu c 2 2 Yi
abbrev Qm:List Str:=["self","make"]
def Vp:FnScope Qm ["self","make"] (zd vP):=wb
def QO:SF:=(zy<|zj (aC (f1 zk<|zP yz "way")<|aC (xM Y2 "tree_at" zk xQ) aN) Wj)
def vM:Fn:=xJ 2 2 QO
abbrev QY:List Str:=["self"]
def Ve:FnScope QY ["self"] (zd Zi):=wb
def QE:SF:=(zy<|f1 zk<|zP RC "neutral")
def YJ:Fn:=xJ 1 1 QE
abbrev Qp:List Str:=["self","thing"]
def Vl:FnScope Qp ["self","thing"] (zd vS):=wb
def V7:SF:=(zy<|NS (Q0 zm "str")<|f2 zm (f1 zk<|zP Zo "holders")<|zz .In)
def Y1:Fn:=xJ 2 2 V7
abbrev Vo:List Str:=["self","sign","value"]
def Wg:FnScope Vo ["self","sign","value"] (zd wZ):=wb
def VC:SF:=(zy<|f2 zD (f2 (f1 zk<|zP Zo "holders") zm zx)<|zz .In)
def ZZ:Fn:=xJ 3 3 VC
def X0:List (Str×Fn):=[("Makes",vM)]
def Rg:List (Str×Fn):=[("Ways",Y1)]
def Rn:List (Str×Fn):=[("Ways",YJ)]
def Qe:List (Str×Fn):=[("Ways",ZZ)]
abbrev UP:List Str:=["self","make","i","sign","row","whole","k"]
def QW:FnScope UP ["self","make","i","sign"] (zd ZI):=wb
def UT:SF:=(zh (zr true 4<|xM X0 "listed" zk xQ)<|zh (yo<|zj (aC zD<|aC zW<|aC (fP (aC zY aN) xC) aN) yZ)<|zh (y6 (YY<|fT<|xM Rg "is_sign" (f1 zk<|zP yz "way") v_) Ab yX)<|zh (zr true 5<|xM Rn "nothing" (f1 zk<|zP yz "way") aN)<|zh (yC (yG (aC zD<|aC (fP (aC zY aN) xC) aN) sR) (gN 6)<|zh (zr true 5<|xM WY "join" (f1 zk<|zP yz "way")<|aC yB<|aC (f2 zY wR zx) aN)<|y6 (fT<|xM Qe "has_sign" (f1 zk<|zP yz "way")<|aC zF lg) (zy wR) yX)<|zy<|fC .non)
def XM:Fn:=xJ 7 4 UT
def S9:List (Str×Fn):=[("Makes",XM)]
noncomputable abbrev qY:List Str:=["_law_script","_law_algebra_here","_law_makes","_law_row_here","_law_x","_law_i","_law_j","_law_name","_law_rows","_law_places_here","_law_make","_law_sign","_law_values","_law_place"]
def A4:FnScope qY ["_law_script"] (zd C8):=wb
abbrev jE:AF:=(aC (zj (aC (zj xQ Rz) aN)<|vm "Ways") aN)
abbrev k_:EF:=(zj (aC (f2 zY (fC<|.int 7) zK)<|aC (fP v_ xC) aN) Yo)
abbrev gW:EF:=(f2 (f2 (Rj zF oN (oS yB) Tn) (zj (aC zm<|aC Kq<|aC (Rj zF (oS yB) (oS wR) Tn) aN) RB) zt) (Rj zF (oS wR) oN Tn) zt)
abbrev kH:EF:=(f2 (f2 (Rj (f2 (fV 8) zL zx) oN (oS yB) Tn) (Rj (Rj (f2 (fV 8) zL zx) (oS yB) (oS wR) Tn) oN (oS<|f1 zL HR) kh) zt) (Rj (f2 (fV 8) zL zx) (oS wR) oN Tn) zt)
abbrev gU:EF:=(f2 (zj (aC zm<|aC (f2 (fC<|.int 16) zk zt) aN) yg) (f2 (fP Zx xC) zL zt) zO)
abbrev mR:EF:=(yd<|dC yy<|dC zL<|dC zW<|dC yy dN)
abbrev iq:EF:=(YS 2 S9 "first" (aC (fV 10)<|aC (fV 13)<|aC GP aN))
abbrev kS:SF:=(y6 (YY<|fT<|zj (aC iq<|aC (zj (aC zm<|aC (f2 (fV 8) (fV 10) zx)<|aC (fV 13)<|aC (fV 12) aN) QB) aN) WV) (zy<|fC<|.bl false) yX)
def p4:SF:=(zh (zr true 1<|zj Zv Ug)<|zh (zr false 2<|zj jE<|yO "Makes")<|zh (zr true 3<|zj (aC (zj (aC zk<|aC (fC<|.int 13) aN) yg)<|aC (f2 zm zW zx)<|aC (fC<|.int 11) aN) TH)<|zh (zr true 4<|zj (aC zk<|aC (fC<|.int 14) aN) yg)<|zh (VW k_<|gT 2<|yH (gN 5)<|yH (gN 6) XI)<|zh (zr true 7<|f2 (f2 (f2 zm Xk zx) (f2 zY (fP (aC (f2 zm Xk zx) aN) xC) zO) zx) zW zx)<|zh (zr false 8<|yd<|dC zF<|dC (oC gW) dN)<|zh (VW (zj (aC (zj (aC zk<|aC (fC<|.int 15) aN) yg)<|aC (fP v_ xC) aN) Yo)<|gT 2<|yH (gN 5)<|yH (gN 6) XI)<|zh (yo<|ZQ 8 (dC (oC kH) dN) ZS)<|zh (yo<|Vj 2 "Makes" "made" wC<|aC (fP v_ lstP) aN)<|zh (yo<|Vj 2 "Makes" "done" vY<|aC zW<|aC (f2 k_ zW zx)<|aC (f2 k_ zL zx) el)<|zh (yo<|Vj 2 "Makes" "turned" we<|aC zL<|aC yB<|aC wR aN)<|zh (zr true 9<|fP (aC (f2 (fP v_ xC) zL zt) aN) fQ)<|zh (y6 (fT<|f2 (fP v_ xC) (fC<|.int 12)<|zz .Gt) (zr true 9<|f2 (yd<|dC zW<|dC (oC<|fP v_ xC) dN) (zU (yG (aC FP aN) yS) [none,some 0,some 3] xm yD gU) zt) yX)<|zh (yC (Zq mR) (gN 10)<|yC (Zq<|f2 zm FP zx) (gT 2<|yH (gN 11)<|yH (gN 12) XI)<|yC (Zq<|fV 9) (gN 13) kS)<|zy<|zj (aC (YS 2 X0 "listed" (aC yy aN))<|aC (f2 (fV 8) yy zx) aN) Zz)
def Ed:Fn:=xJ 14 1 p4
structure Fq(K:zzA)(mg:Str->Option Value)(x:Str)(st:Stmt)(f:Addr)(d:FuncData)(ps:List Str):Prop where
 F:Fun K x x st f d
 b:Binds K d ps []
 m:mg x=some (.ref f)
def Xl{P:Program}{w:World}{K:zzA}{mg:Str->Option Value}{base:Heap}{kd:KD}{x:Str}{st:Stmt}{f:Addr}{d:FuncData}{N ps:List Str}{k:Nat}{c:SF}(Q:Fq K mg x st f d ps)(S:FnScope N ps (zd st))
 (hb:∀(cdv:Value) (A:Around) (outer:List Env) (s:Shared) (H:Hp) (E:XK),Room k (A.deeper<|envOfC x (zd st) s.heap.objs.size f cdv)->JV (L5 wV P w K mg base N x (zd st) f cdv A outer s H E).nox kd (ZL st) c):
 Co x P w K mg base kd (k+1) f d ps (xJ N.length ps.length c):=⟨Zb Q.F S hb,Q.m,Q.F.kp,Q.b⟩
set_option genInjectivity false in
set_option genSizeOf false in
structure Adr where
 NB:Addr
 NM:FuncData
 GR:Addr
 Gs:FuncData
 VS:Addr
 Vr:FuncData
 VT:Addr
 VQ:FuncData
 Ra:Addr
 UK:FuncData
 Pm:Addr
 RX:FuncData
 Pw:Addr
 Tg:FuncData
 QN:Addr
 Qr:FuncData
 Z8:Addr
 Yg:FuncData
 Ee:Addr
 E9:FuncData
 QJ:Addr
 Qu:FuncData
 Em:Addr
 Er:FuncData
 TB:Addr
 Ts:FuncData
 Ei:Addr
 ER:FuncData
 XG:Addr
 XO:FuncData
 R_:Addr
 Te:FuncData
 Qn:Addr
 QT:FuncData
 Mp:Addr
 Nt:FuncData
 P6:Addr
 PL:FuncData
 Ng:Addr
 LN:FuncData
 LM:Addr
 LF:FuncData
 Sw:Addr
 HF:FuncData
 U7:Addr
 U8:FuncData
 Qc:Addr
 QR:FuncData
 Hy:Addr
 HB:FuncData
 YW:Addr
 Y_:FuncData
 Qf:Addr
 Qy:FuncData
 UD:Addr
 UB:FuncData
 Py:Addr
 P0:FuncData
 AJ:Addr
 uJ:FuncData
 Ms:Addr
 LC:FuncData
 RZ:Addr
 PD:FuncData
 Kd:Addr
 Gk:FuncData
 VD:Addr
 Vx:FuncData
 VH:Addr
 VM:FuncData
 Ka:Addr
 GM:FuncData
 GH:Addr
 Gn:FuncData
 Na:Addr
 NL:FuncData
 G2:Addr
 GQ:FuncData
 UG:Addr
 UH:FuncData
 VE:Addr
 VG:FuncData
 Mu:Addr
 N0:FuncData
 U0:Addr
 UW:FuncData
 Fh:Addr
 EJ:FuncData
 LA:Addr
 Mn:FuncData
 N_:Addr
 Nd:FuncData
 Fc:Addr
 EX:FuncData
 Uz:Addr
 U_:FuncData
 VA:Addr
 Vi:FuncData
 RS:Addr
 Pa:FuncData
 Gr:Addr
 G5:FuncData
 NP:Addr
 NO:FuncData
 Zu:Addr
 Zy:FuncData
 W4:Addr
 WC:FuncData
 Yc:Addr
 Z6:FuncData
 wG:Addr
 wM:FuncData
 Wn:Addr
 WS:FuncData
 Z5:Addr
 Z7:FuncData
 wH:Addr
 wF:FuncData
 Xf:Addr
 YT:FuncData
 Xh:Addr
 Xg:FuncData
 xv:Addr
 xp:FuncData
 WK:Addr
 Ww:FuncData
 Xe:Addr
 Y6:FuncData
 Yh:Addr
 Z0:FuncData
 YU:Addr
 Y3:FuncData
 YX:Addr
 YQ:FuncData
 Xc:Addr
 YI:FuncData
 ZX:Addr
 Z1:FuncData
 XU:Addr
 XZ:FuncData
 pZ:Addr
 pK:FuncData
 XT:Addr
 xT:Addr
 xZ:Addr
structure Txt(K:zzA)(kd:KD)(mg:Str->Option Value)(t:Adr):Prop where
 OJ:Fq K mg "is_whole" W5 t.NB t.NM ["thing"]
 Hr:Fq K mg "is_within" Xo t.GR t.Gs ["thing","least","most"]
 KQ:Fq K mg "nothing_fails" vo t.VS t.Vr ["algebra"]
 Kp:Fq K mg "parting_fails" vg t.VT t.VQ ["algebra"]
 M6:Fq K mg "doing_fails" ZK t.Ra t.UK ["algebra","name","rows"]
 FN:Fq K mg "deeds_fail" Yx t.Pm t.RX ["algebra"]
 Bs:Fq K mg "what_fails" YB t.Pw t.Tg ["algebra"]
 Lr:Fq K mg "check_let_by" v7 t.QN t.Qr ["algebra"]
 KB:Fun K "__init__" "Knot.__init__" va t.Z8 t.Yg
 KY:Binds K t.Yg ["self","whole","back","wait","turn","one","other"] []
 Jg:Fq K mg "leaf_of" Uh t.Ee t.E9 ["value"]
 Hq:Fun K "join" "Ways.join" XD t.QJ t.Qu
 Su:Binds K t.Qu ["self","one","other"] []
 Js:Fq K mg "knot_of" Ui t.Em t.Er ["way","one","other"]
 Q3:Fun K "tree_of" "tree_of" Uc t.TB t.Ts
 TC:Binds K t.Ts ["way","row"] []
 xI:mg "tree_of"=some (.ref t.TB)
 Jh:Fq K mg "size_of" Q5 t.Ei t.ER ["tree"]
 MQ:Fun K "behind" "Ways.behind" ZF t.XG t.XO
 MO:Binds K t.XO ["self","one","other"] []
 Bj:Fq K mg "both_waits" Yp t.R_ t.Te ["way","one","other"]
 SN:Fun K "made" "Ways.made" Xr t.Qn t.QT
 Hh:Binds K t.QT ["self","wait","value","many"] []
 Ce:Fq K mg "done_all" WQ t.Mp t.Nt ["way","tree","wait"]
 By:Fq K mg "turned_all" Ys t.P6 t.PL ["way","tree"]
 Ox:Fq K mg "parts_of" WM t.Ng t.LN ["way","knot"]
 LP:Fun K "gather" "gather" P9 t.LM t.LF
 S5:Binds K t.LF ["way","tree","wait","turn","row"] []
 xW:mg "gather"=some (.ref t.LM)
 D5:Fq K mg "row_of" Pn t.Sw t.HF ["way","tree"]
 MM:Fq K mg "leaned_left" ZE t.U7 t.U8 ["way","one","other"]
 Nj:Fq K mg "leaned_right" vT t.Qc t.QR ["way","one","other"]
 DB:Fq K mg "evened" Pe t.Hy t.HB ["way","one","other"]
 xj:Fun K "put_together" "put_together" Ze t.YW t.Y_
 xX:Binds K t.Y_ ["way","one","other"] []
 zN:mg "put_together"=some (.ref t.YW)
 Xy:Fun K "parted_at" "parted_at" Xz t.Qf t.Qy
 QV:Binds K t.Qy ["way","tree","place"] []
 yA:mg "parted_at"=some (.ref t.Qf)
 M_:Fq K mg "check_place" ZG t.UD t.UB ["place","least","most"]
 FO:Fq K mg "check_size" Yw t.Py t.P0 ["size"]
 oR:Fq K mg "firm" FT t.AJ t.uJ ["rows"]
 Ou:Fq K mg "_law_draw" WI t.Ms t.LC ["_law_script","_law_k"]
 BZ:Fq K mg "_law_digits" YC t.RZ t.PD ["_law_x","_law_sizes"]
 HE:Fq K mg "_law_names" Xs t.Kd t.Gk ["_law_x","_law_many"]
 KH:Fq K mg "_law_part_join" wX t.VD t.Vx ["_law_part","_law_a","_law_b"]
 KR:Fq K mg "_law_part_done" vk t.VH t.VM ["_law_part","_law_x","_law_c","_law_a"]
 S7:Fq K mg "_law_parts" Xq t.Ka t.GM ["_law_x"]
 Sn:Fq K mg "_law_split" XE t.GH t.Gn ["_law_parts_here","_law_value"]
 O7:Fq K mg "_law_laid" Vc t.Na t.NL ["_law_parts_here","_law_row_here"]
 SC:Fq K mg "_law_order" Xv t.G2 t.GQ ["_law_x","_law_n"]
 MI:Fq K mg "_law_algebra" ZD t.UG t.UH ["_law_script","_law_start"]
 K1:Fq K mg "_law_by_digits" vc t.VE t.VG ["_law_script"]
 OM:Fq K mg "_law_does" WR t.Mu t.N0 ["_law_m","_law_join","_law_rows","_law_a","_law_b"]
 M3:Fq K mg "_law_is_good" ZC t.U0 t.UW ["_law_algebra_here"]
 Jb:Fq K mg "_law_any" Ue t.Fh t.EJ ["_law_script"]
 Ca:Fq K mg "_law_copy" W9 t.LA t.Mn ["_law_algebra_here"]
 OY:Fq K mg "_law_deed" W0 t.N_ t.Nd ["_law_algebra_here","_law_name","_law_row_here"]
 Jp:Fq K mg "_law_row" Q8 t.Fc t.EX ["_law_x","_law_n","_law_most"]
 MH:Fq K mg "_law_is_list" ZJ t.Uz t.U_ ["_law_found","_law_due"]
 Kw:Fq K mg "_law_is_number" wY t.VA t.Vi ["_law_found","_law_due"]
 Bf:Fq K mg "_law_places" Yu t.RS t.Pa ["_law_x","_law_many"]
 SK:Fq K mg "_law_first" Xu t.Gr t.G5 ["_law_algebra_here","_law_row_here","_law_i","_law_values"]
 H0:Fq K mg "_law_told" WU t.NP t.NO ["_law_found","_law_due"]
 Tu:Fun K "__init__" "Makes.__init__" wq t.Zu t.Zy
 TN:Binds K t.Zy ["self","way"] []
 Bw:Fun K "keep" "Makes.keep" YA t.W4 t.WC
 BR:Binds K t.WC ["self","tree"] []
 KJ:Fun K "is_value" "Ways.is_value" vi t.Yc t.Z6
 KC:Binds K t.Z6 ["self","thing"] []
 Uu:Fun K "check_value" "Makes.check_value" xh t.wG t.wM
 Uk:Binds K t.wM ["self","thing"] []
 Fy:Fun K "made" "Makes.made" Yy t.Wn t.WS
 Ba:Binds K t.WS ["self","row"] []
 Kl:Fun K "tree_at" "Makes.tree_at" vd t.Z5 t.Z7
 KZ:Binds K t.Z7 ["self","make"] []
 Uj:Fun K "three_parts" "Makes.three_parts" xg t.wH t.wF
 Us:Binds K t.wF ["self","make","i","j"] []
 NW:Fun K "is_deed" "Ways.is_deed" vV t.Xf t.YT
 LG:Binds K t.YT ["self","thing"] []
 ND:Fun K "wait_of" "Ways.wait_of" vL t.Xh t.Xg
 MD:Binds K t.Xg ["self","deed"] []
 WG:Fun K "three_together" "Makes.three_together" yI t.xv t.xp
 Wo:Binds K t.xp ["self","ahead","stretch","rest"] []
 Fz:Fun K "done" "Makes.done" Yr t.WK t.Ww
 FK:Binds K t.Ww ["self","make","i","j","deed"] []
 MB:Fun K "turned" "Makes.turned" Zg t.Xe t.Y6
 LZ:Binds K t.Y6 ["self","make","i","j"] []
 KW:Fun K "__init__" "Ways.__init__" yU t.Yh t.Z0
 Ki:Binds K t.Z0 ["self","algebra"] []
 L7:Fun K "listed" "Makes.listed" vP t.YU t.Y3
 N7:Binds K t.Y3 ["self","make"] []
 NX:Fun K "nothing" "Ways.nothing" Zi t.YX t.YQ
 LR:Binds K t.YQ ["self"] []
 Nu:Fun K "is_sign" "Ways.is_sign" vS t.Xc t.YI
 My:Binds K t.YI ["self","thing"] []
 KP:Fun K "has_sign" "Ways.has_sign" wZ t.ZX t.Z1
 KI:Binds K t.Z1 ["self","sign","value"] []
 ML:Fun K "first" "Makes.first" ZI t.XU t.XZ
 MZ:Binds K t.XZ ["self","make","i","sign"] []
 h_:Fq K mg "law" C8 t.pZ t.pK ["_law_script"]
 Xb:CI K kd mg "Knot" t.XT
 xq:CI K kd mg "Makes" t.xT
 xR:CI K kd mg "Ways" t.xZ
 Kz:Meth K t.XT "__init__" t.Z8
 Tz:Meth K t.xT "__init__" t.Zu
 Ks:Meth K t.xZ "__init__" t.Yh
 Hl:Meth K t.xZ "join" t.QJ
 MW:Meth K t.xZ "behind" t.XG
 FE:Meth K t.xT "made" t.Wn
 SU:Meth K t.xZ "made" t.Qn
 Kk:Meth K t.xZ "is_value" t.Yc
 Bu:Meth K t.xT "keep" t.W4
 Ur:Meth K t.xT "check_value" t.wG
 KO:Meth K t.xT "tree_at" t.Z5
 Wm:Meth K t.xT "three_together" t.xv
 Ml:Meth K t.xZ "wait_of" t.Xh
 L8:Meth K t.xZ "is_deed" t.Xf
 Uq:Meth K t.xT "three_parts" t.wH
 Ny:Meth K t.xT "listed" t.YU
 Lx:Meth K t.xZ "is_sign" t.Xc
 NG:Meth K t.xZ "nothing" t.YX
 Ky:Meth K t.xZ "has_sign" t.ZX
 FC:Meth K t.xT "done" t.WK
 L_:Meth K t.xT "turned" t.Xe
 Ea:Meth K t.xT "first" t.XU
 Fw:yN K t.XT "whole"
 SQ:yN K t.XT "back"
 SL:yN K t.XT "wait"
 Ht:yN K t.XT "turn"
 OB:yN K t.XT "one"
 FR:yN K t.XT "other"
 Hs:yN K t.XT "deep"
 Sj:yN K t.XT "size"
 Sz:yN K t.xZ "size"
 FM:yN K t.xZ "table"
 MN:yN K t.xZ "around"
 HH:yN K t.xT "way"
 M5:yN K t.xT "trees"
 FA:yN K t.xZ "waits"
 Lu:yN K t.xZ "neutral"
 N6:yN K t.xZ "holders"
 M8:GC K kd mg "MOST_IN_ROW" (.int 300)
 la:mg "bool"=none
 Om:mg "dict"=none
 DY:mg "divmod"=none
 pw:mg "int"=none
 vN:mg "isinstance"=none
 Ec:mg "len"=none
 BL:mg "list"=none
 pP:mg "max"=none
 gv:mg "min"=none
 Lc:mg "range"=none
 jq:mg "str"=none
 jT:mg "sum"=none
 Ct:mg "tuple"=none
 Ar:mg "zip"=none
set_option maxHeartbeats 8000000
section
variable{P:Program}{w:World}{K:zzA}{mg:Str->Option Value}{base:Heap}{kd:KD}{t:Adr}
def Li(T:Txt K kd mg t):CF K kd vZ "whole":=(wQ T.Xb T.Fw vB)
def uH(T:Txt K kd mg t):CF K kd Wp "back":=(wQ T.Xb T.SQ vB)
def Ck(T:Txt K kd mg t):CF K kd ZH "wait":=(wQ T.Xb T.SL vB)
def Oj(T:Txt K kd mg t):CF K kd Xx "turn":=(wQ T.Xb T.Ht vB)
def Ij(T:Txt K kd mg t):CF K kd Qs "one":=(wQ T.Xb T.OB vB)
def Lj(T:Txt K kd mg t):CF K kd ZR "other":=(wQ T.Xb T.FR vB)
def WJ(T:Txt K kd mg t):CF K kd yF "deep":=(wQ T.Xb T.Hs vB)
def Rk(T:Txt K kd mg t):CF K kd xU "size":=(wQ T.Xb T.Sj<|wQ T.xR T.Sz vB)
def C4(T:Txt K kd mg t):CF K kd N9 "table":=(wQ T.xR T.FM vB)
def Sb(T:Txt K kd mg t):CF K kd Q7 "around":=(wQ T.xR T.MN vB)
def NA(T:Txt K kd mg t):CF K kd yz "way":=(wQ T.xq T.HH vB)
def K9(T:Txt K kd mg t):CF K kd xk "trees":=(wQ T.xq T.M5 vB)
def CH(T:Txt K kd mg t):CF K kd X9 "waits":=(wQ T.xR T.FA vB)
def EB(T:Txt K kd mg t):CF K kd RC "neutral":=(wQ T.xR T.Lu vB)
def Eu(T:Txt K kd mg t):CF K kd Zo "holders":=(wQ T.xR T.N6 vB)
variable(T:Txt K kd mg t)(hkd:u6 P w K kd)
include T hkd
local macro_rules | `(tactic| trivial)=>do let T:=Lean.mkIdent `T;let h:=Lean.mkIdent `hkd;let r:=Lean.mkIdent `hr;`(tactic| first|(show AE _ _ _ _;first|exact av _|exact aI|(refine ax $h ?_ ?_<;>trivial)|(refine bn ?_ ?_<;>trivial)|exact aS|exact aZ|exact aB|(refine ec $h $r ?_ ?_<;>trivial)|(refine ec $h $r ?_ ?_ (hm:=rfl)<;>trivial)|(refine cq (by assumption) $r ?_<;>trivial)|(refine WB ?_;trivial)|(refine AZ ?_;trivial)|(refine cm ?_ ?_ ?_ ?_<;>trivial)|(refine Mf ?_ ?_ ?_<;>trivial)|(refine mZ ?_ ?_<;>trivial)|(refine bi (X_ ($h _ rfl rfl rfl)) (Txt.Ec $T) Bt.len ?_;trivial)|(refine bi (E8 rfl) (Txt.pP $T) Bt.max ?_;trivial)|(refine bi (IU rfl) (Txt.gv $T) Bt.min ?_;trivial)|(refine bi JU (Txt.DY $T) Bt.divmod ?_;trivial)|(refine bi (Jd rfl) (Txt.jT $T) Bt.sum ?_;trivial)|(refine lK Cf (Txt.pw $T) Bt.int ?_;trivial)|(refine NY ($h _ rfl rfl rfl) rfl rfl (Txt.vN $T) Bt.isinstance rfl (Txt.pw $T) Bt.int ?_ (Bt.n _ rfl) (by decide) (Bt.n _ rfl) (by decide) rfl rfl rfl;trivial)|(refine NY ($h _ rfl rfl rfl) rfl rfl (Txt.vN $T) Bt.isinstance rfl (Txt.jq $T) Bt.str ?_ (Bt.n _ rfl) (by decide) (Bt.n _ rfl) (by decide) rfl rfl rfl;trivial)|(refine lK E2 (Txt.Ct $T) Bt.tuple ?_;trivial)|(refine lK I_ (Txt.BL $T) Bt.list ?_;trivial)|(refine NY ($h _ rfl rfl rfl) rfl rfl (Txt.vN $T) Bt.isinstance rfl (Txt.BL $T) Bt.list ?_ (Bt.n _ rfl) (by decide) (Bt.n _ rfl) (by decide) rfl rfl rfl;trivial)|(refine lK (Ru rfl ($h _ rfl rfl rfl)) (Txt.Om $T) Bt.dict ?_;trivial)|(refine NY ($h _ rfl rfl rfl) rfl rfl (Txt.vN $T) Bt.isinstance rfl (Txt.la $T) Bt.bool ?_ (Bt.n _ rfl) (by decide) (Bt.n _ rfl) (by decide) rfl rfl rfl;trivial)|(refine JQ rfl rfl (Txt.Lc $T) rfl (Txt.BL $T) ?_ rfl rfl;trivial)|(refine nF ?_;trivial)|(refine iF e_ ?_;trivial)|(refine Sd ?_ ?_ ?_<;>trivial)|(refine A1 ?_ ?_<;>trivial)|(refine DX ?_;trivial)|(refine SG (Ga ($h _ rfl rfl rfl) (N2 $r) _) (Ga ($h _ rfl rfl rfl) (N2 $r) _) ?_ ?_ ?_ (by with_unfolding_all rfl)<;>trivial)|(refine OQ Tr AK PySem.F.slot_list_append PySem.F.type_list_append (pv _) ?_ rfl rfl rfl rfl rfl;trivial)|(refine OQ mY nt PySem.F.slot_list_insert PySem.F.type_list_insert (pv _) ?_ rfl rfl rfl rfl rfl;trivial)|(refine qk (ty:=.lst) ($h _ rfl rfl rfl) (Dh ($h _ rfl rfl rfl) (N2 $r)) PySem.F.plainAttrs_list PySem.F.slot_list_index PySem.F.type_list_index ?_ ?_ rfl rfl rfl rfl rfl<;>trivial)|exact m7 (Txt.M8 $T) rfl (by decide)|(refine fd (WJ $T) ?_;trivial)|(refine fd (Rk $T) ?_;trivial)|(refine fd (C4 $T) ?_;trivial)|(refine fd (Li $T) ?_;trivial)|(refine fd (uH $T) ?_;trivial)|(refine fd (Sb $T) ?_;trivial)|(refine fd (Ck $T) ?_;trivial)|(refine fd (Oj $T) ?_;trivial)|(refine fd (Ij $T) ?_;trivial)|(refine fd (Lj $T) ?_;trivial)|(refine fd (NA $T) ?_;trivial)|(refine fd (K9 $T) ?_;trivial)|(refine fd (CH $T) ?_;trivial)|(refine fd (EB $T) ?_;trivial)|(refine fd (Eu $T) ?_;trivial)|(refine mq (Txt.Xb $T).eq ((Txt.Xb $T).mk' (Txt.Kz $T)) (by assumption) $r (Txt.Xb $T).mg (Txt.KY $T) ?_;trivial)|(refine mq (Txt.xq $T).eq ((Txt.xq $T).mk' (Txt.Tz $T)) (by assumption) $r (Txt.xq $T).mg (Txt.TN $T) ?_;trivial)|(refine mq (Txt.xR $T).eq ((Txt.xR $T).mk' (Txt.Ks $T)) (by assumption) $r (Txt.xR $T).mg (Txt.Ki $T) ?_;trivial)|(refine mt (by assumption) $r ?_ ?_ rfl<;>trivial)|(refine bx (by assumption) $r ?_ rfl;trivial)|(refine Q2 (by assumption) (($r).mono (by omega)) ZP (pv _) ?_ rfl rfl rfl;trivial)|(refine K7 (by assumption) (($r).mono (by omega)) ZP (pv _) ?_ rfl rfl rfl;trivial)|(refine kO ?_;trivial))|(show AA _ _ _ _;first|(refine bc ?_ ?_<;>trivial)|exact zM)|exact Fm|(refine rH ?_;trivial)|(intro _;trivial)|(show HK _ _ _ _;first|(refine ag (by assumption) ?_ ?_ ?_ ?_<;>trivial)|(refine vv ?_;trivial)|(refine VZ ?_ ?_ ?_<;>trivial)|(refine bY ?_ ?_ ?_<;>trivial)|(refine qm ?_ rfl;trivial)|(refine sv _ _ (by assumption) ?_;trivial)|(refine dh ?_ ?_<;>trivial)|exact jk)|(show JV _ _ _ _;first|(refine sj _ (by assumption) ?_ ?_<;>trivial)|(refine xG ?_ ?_<;>trivial)|(refine xf ?_;trivial)|exact vQ)|(show AT _ _ _ _;first|(refine tc $h $r ?_ ?_<;>trivial)|(refine tc $h $r ?_ ?_ (hm:=rfl)<;>trivial)|(refine OK ?_;trivial)|(refine Bh ?_ (λ_=>rfl);trivial)|(refine AW.at_ ?_;trivial))|(show AD _ _ _ _;first|(refine bd ?_ ?_<;>trivial)|exact Y5)|(show AO _ _ _ _;first|(refine K4 ?_;trivial)|exact Be)|(show AG _ _ _ _ _;first|exact an _ (by assumption)|exact an _ (bS (by kernel_rfl))|(refine Bg rfl ?_ rfl rfl;trivial))|(show pB _ _ _ _ _;first|(refine aw ?_ ?_<;>trivial)|exact Ll)|(show kr _ _ _ _;first|exact eN _ (by assumption)|(refine eh ?_;trivial))|(show uD _ _ _ _;first|(refine eO ?_ ?_<;>trivial)|exact da)|(show qF _ _ _ _ _;first|(refine Jt rfl (Txt.Lc $T) ?_ rfl;trivial)|(refine rT rfl (Txt.Ar $T) ?_ rfl rfl;trivial)|(refine qy rfl (Txt.Ar $T) ?_ rfl rfl;trivial)|(refine Oq ?_;trivial))|(show AI _ _ _ _ _;first|(refine JB rfl (Txt.Lc $T) ?_ rfl;trivial)|(refine IZ rfl (Txt.Lc $T) ?_ rfl rfl;trivial)|(refine qK rfl (Txt.Ar $T) ?_ rfl rfl;trivial)|(refine OA ?_;trivial))|(show AW _ _ _ _;first|(refine ji ?_ ?_<;>trivial)|(refine nV ?_ ?_<;>trivial)|(refine JO ?_;trivial)|(refine Oz ?_;trivial)))
theorem On:Co "is_whole" P w K mg base kd 1 t.NB t.NM ["thing"] Rh:=by
 refine Xl (N:=L3) (k:=0) (c:=Ln) T.OJ GD λ_ _ _ _ _ _ hr=>?_;have:=GD.nd;conv=>arg 3;whnf
 trivial
theorem Qo:Co "is_within" P w K mg base kd 2 t.GR t.Gs ["thing","least","most"] vE:=by
 refine Xl (N:=GV) (k:=1) (c:=GI) T.Hr B3 λcdv A outer s H E hr=>?_;exact(xf<|vv<|A1 (cq (On T hkd) hr<|bc (av 0) zM)<|DX<|SG (Ga (hkd _ rfl rfl rfl) (N2 hr) .LtE) (Ga (hkd _ rfl rfl rfl) (N2 hr) .LtE) (av 1) (av 0) (av 2)<|by with_unfolding_all rfl)
theorem KF:Co "nothing_fails" P w K mg base kd 1 t.VS t.Vr ["algebra"] Ye:=by
 refine Xl (N:=Vt) (k:=0) (c:=Z4) T.KQ Wa λ_ _ _ _ _ _ hr=>?_;have:=Wa.nd;conv=>arg 3;whnf
 trivial
theorem Kn:Co "parting_fails" P w K mg base kd 1 t.VT t.VQ ["algebra"] Yd:=by
 refine Xl (N:=VJ) (k:=0) (c:=VL) T.Kp Wf λ_ _ _ _ _ _ hr=>?_;have:=Wf.nd;conv=>arg 3;whnf
 trivial
theorem MJ:Co "doing_fails" P w K mg base kd 1 t.Ra t.UK ["algebra","name","rows"] XY:=by
 refine Xl (N:=US) (k:=0) (c:=Ux) T.M6 Qb λ_ _ _ _ _ _ hr=>?_;have:=Qb.nd;conv=>arg 3;whnf
 trivial
theorem FS:Co "deeds_fail" P w K mg base kd 2 t.Pm t.RX ["algebra"] Wq:=by
 refine Xl (N:=Ti) (k:=1) (c:=Tf) T.FN UY λ_ _ _ _ _ _ hr=>?_;have:=UY.nd;have:=MJ (base:=base) T hkd;conv=>arg 3;whnf
 trivial
theorem Fj:Co "what_fails" P w K mg base kd 3 t.Pw t.Tg ["algebra"] Wy:=by
 refine Xl (N:=Tc) (k:=2) (c:=PX) T.Bs UC λ_ _ _ _ _ _ hr=>?_;have:=UC.nd;have:=KF (base:=base) T hkd;have:=Kn (base:=base) T hkd;have:=FS (base:=base) T hkd;conv=>arg 3;whnf
 trivial
theorem LH:Co "check_let_by" P w K mg base kd 4 t.QN t.Qr ["algebra"] vK:=by
 refine Xl (N:=V5) (k:=3) (c:=Xa) T.Lr Vh λ_ _ _ _ _ _ hr=>?_;have:=Vh.nd;have:=Fj (base:=base) T hkd;conv=>arg 3;whnf
 trivial
theorem wW(c:Str):FnOk P w K mg base wV 1 t.Z8 t.Yg ["self","whole","back","wait","turn","one","other"] (ll K kd c<|ym c):=by
 refine Oa (N:=Vg) (k:=0) (b:=Yb) T.KB Tt (by decide) λcdv A outer s H E hr=>?_;exact(yW (xr (Li T) (pv 0) (av 1) rfl)<|yW (xr (uH T) (pv 0) (av 2) rfl)<|yW (xr (Ck T) (pv 0) (av 3) rfl)<|yW (xr (Oj T) (pv 0) (av 4) rfl)<|yW (xr (Ij T) (pv 0) (av 5) rfl)<|yW (xr (Lj T) (pv 0) (av 6) rfl)<|yW (xr (WJ T) (pv 0) (Sd (tc hkd hr (av 5) aZ) aI<|bn aI<|bi (E8 rfl) T.pP Bt.max<|bc (fd (WJ T)<|av 5)<|bc (fd (WJ T)<|av 6) zM) rfl)<|Fu<|xr (Rk T) (pv 0) (Sd (tc hkd hr (av 5) aZ) aI<|bn (fd (Rk T)<|av 5)<|fd (Rk T)<|av 6) rfl)
theorem EU:Co "leaf_of" P w K mg base kd 3 t.Ee t.E9 ["value"] Q4:=by
 refine Xl (N:=EA) (k:=2) (c:=EW) T.Jg N8 λ_ _ _ _ _ _ hr=>?_;have:=N8.nd;have:=wW (base:=base) T hkd "Knot";conv=>arg 3;whnf
 trivial
theorem S8:FnOk P w K mg base wV 1 t.QJ t.Qu ["self","one","other"] (RD K kd QP):=by
 refine Zb (N:=Gz) (k:=0) (c:=GJ) T.Hq RJ λ_ _ _ _ _ _ hr=>?_;have:=RJ.nd;conv=>arg 3;whnf
 trivial
theorem Am:MT P w K mg base kd "join" 1 WY:=(vA T.xR T.Hl (S8 T hkd) (by decide) T.Su vp)
theorem X6:Co "knot_of" P w K mg base kd 3 t.Em t.Er ["way","one","other"] yr:=by
 refine Xl (N:=E_) (k:=2) (c:=ED) T.Js Nn λ_ _ _ _ _ _ hr=>?_;have:=Nn.nd;have:=wW (base:=base) T hkd "Knot";have:=Am (base:=base) T hkd;conv=>arg 3;whnf
 trivial
omit T hkd in
theorem EI(T:Txt K kd mg t)(hkd:u6 P w K kd):∀n:Nat,FnOk P w K mg base wV (3+n) t.TB t.Ts ["way","row"] (RD K kd<|xI n)
 |0=>BB
 |n+1=>by
  have G:=EI T hkd n;refine Zb (N:=Ek) (k:=3+n) (c:=E1<|xI n) T.Q3 Mt λcdv A outer s H E hr=>?_;exact(by
  refine xG ?_ ?_;exact(VZ (tc hkd hr (bi (X_<|hkd _ rfl rfl rfl) T.Ec Bt.len<|bc (av 1) zM) aI) (xf<|vv aZ) vQ);refine xG ?_ ?_;exact(VZ (tc hkd hr (bi (X_<|hkd _ rfl rfl rfl) T.Ec Bt.len<|bc (av 1) zM) aI) (xf<|vv<|cq (EU T hkd) hr<|bc (ax hkd (av 1) aI) zM) vQ);refine sj 2 Mt.nd ?_ ?_;exact(bn (bi (X_<|hkd _ rfl rfl rfl) T.Ec Bt.len<|bc (av 1) zM) aI);exact xf<|vv<|cq (X6 T hkd) hr<|bc (av 0)<|bc (ck G hr T.xI T.Q3.kp T.TC<|bc (av 0)<|bc (Mf (av 1) Be<|K4<|av 2) zM)<|bc (ck G hr T.xI T.Q3.kp T.TC<|bc (av 0)<|bc (Mf (av 1) (K4<|av 2) Be) zM) zM)
theorem JF:Co "size_of" P w K mg base kd 1 t.Ei t.ER ["tree"] X4:=by
 refine Xl (N:=E6) (k:=0) (c:=Ej) T.Jh LY λ_ _ _ _ _ _ hr=>?_;have:=LY.nd;conv=>arg 3;whnf
 trivial
theorem MP:FnOk P w K mg base wV 1 t.XG t.XO ["self","one","other"] (RD K kd XX):=by
 refine Zb (N:=UX) (k:=0) (c:=U3) T.MQ V1 λ_ _ _ _ _ _ hr=>?_;have:=V1.nd;conv=>arg 3;whnf
 trivial
theorem DA:MT P w K mg base kd "behind" 1 Es:=(vA T.xR T.MW (MP T hkd) (by decide) T.MO vp)
theorem RU:Co "both_waits" P w K mg base kd 2 t.R_ t.Te ["way","one","other"] WH:=by
 refine Xl (N:=Pq) (k:=1) (c:=P5) T.Bj UI λ_ _ _ _ _ _ hr=>?_;have:=UI.nd;have:=DA (base:=base) T hkd;conv=>arg 3;whnf
 trivial
theorem Sm:FnOk P w K mg base wV 1 t.Qn t.QT ["self","wait","value","many"] (RD K kd QF):=by
 refine Zb (N:=Gm) (k:=0) (c:=Kc) T.SN PC λ_ _ _ _ _ _ hr=>?_;have:=PC.nd;conv=>arg 3;whnf
 trivial
theorem AB:MT P w K mg base kd "made" 1 PR:=(vA T.xR T.SU (Sm T hkd) (by decide) T.Hh vp)
theorem Mq:Co "done_all" P w K mg base kd 4 t.Mp t.Nt ["way","tree","wait"] Zs:=by
 refine Xl (N:=Nz) (k:=3) (c:=NK) T.Ce G6 λ_ _ _ _ _ _ hr=>?_;have:=G6.nd;have:=AB (base:=base) T hkd;have:=EU (base:=base) T hkd;have:=wW (base:=base) T hkd "Knot";have:=RU (base:=base) T hkd;conv=>arg 3;whnf
 trivial
theorem PJ:Co "turned_all" P w K mg base kd 3 t.P6 t.PL ["way","tree"] wA:=by
 refine Xl (N:=PP) (k:=2) (c:=Pc) T.By UQ λ_ _ _ _ _ _ hr=>?_;have:=UQ.nd;have:=wW (base:=base) T hkd "Knot";conv=>arg 3;whnf
 trivial
theorem Y8:Co "parts_of" P w K mg base kd 5 t.Ng t.LN ["way","knot"] vt:=by
 refine Xl (N:=Mw) (k:=4) (c:=Mo) T.Ox G9 λ_ _ _ _ _ _ hr=>?_;have:=G9.nd;have:=Mq (base:=base) T hkd;have:=PJ (base:=base) T hkd;conv=>arg 3;whnf
 trivial
omit T hkd in
theorem Sx(T:Txt K kd mg t)(hkd:u6 P w K kd):∀n:Nat,FnOk P w K mg base wV (2+n) t.LM t.LF ["way","tree","wait","turn","row"] (Ap K kd<|xW n)
 |0=>DK
 |n+1=>by
  have G:=Sx T hkd n;refine oA (N:=Hi) (k:=2+n) (c:=Nq<|xW n) T.LP Wl (by decide) λcdv A outer s H E hr=>?_;exact(Jr (tc hkd hr (fd (WJ T)<|av 1) aI) (FF (OQ Tr AK PySem.F.slot_list_append PySem.F.type_list_append (pv 4) (bd (Sd (tc hkd hr (av 2) aZ) (fd (Li T)<|av 1)<|mt (AB T hkd) hr (av 0) (bc (av 2)<|bc (fd (Li T)<|av 1)<|bc aI zM) rfl) Y5) rfl rfl rfl rfl rfl) rfl)<|by
  refine Ly ?_ ?_;exact(by refine ko true 5 (by decide) Wl.nd ?_;exact(cq (RU T hkd) hr<|bc (av 0)<|bc (fd (Ck T)<|av 1)<|bc (av 2) zM));refine Ly ?_ ?_;exact(by refine ko true 6 (by decide) Wl.nd ?_;exact(ec hkd hr (fd (Oj T)<|av 1)<|av 3));refine Ly ?_ ?_;exact(by refine ko true 7 (by decide) Wl.nd ?_;exact(Sd (Bh (av 6) λ_=>rfl) (WB<|bd (fd (Lj T)<|av 1)<|bd (fd (Ij T)<|av 1) Y5)<|WB<|bd (fd (Ij T)<|av 1)<|bd (fd (Lj T)<|av 1) Y5));exact Pb<|DP (by decide) PassesOwn.never rfl (OA<|av 7) (an 8 Wl.nd) (Pb<|S3 (i:=4) G (hr.mono<|by omega) rfl T.xW T.LP.kp T.S5 ZP (bc (av 0)<|bc (av 8)<|bc (av 5)<|bc (av 6)<|bc (av 4) zM) (by decide) rfl rfl rfl) λ_=>rfl)
theorem A0:Co "row_of" P w K mg base kd 23 t.Sw t.HF ["way","tree"] Wj:=by
 refine Xl (N:=Hc) (k:=22) (c:=B7) T.D5 TR λ_ _ _ _ _ _ hr=>?_;have:=TR.nd;conv=>arg 3;whnf
 exact(by
  refine sj 2 TR.nd ?_ ?_;trivial;refine xG ?_ ?_;exact(VZ (tc hkd hr (av 1) aZ) (xf<|uz (i:=2) (Sx T hkd 20) (hr.mono<|by omega) rfl T.xW T.LP.kp T.S5 ZP (bc (av 0)<|bc (av 1)<|bc aZ<|bc aB<|bc (av 2) zM) (by decide) rfl rfl rfl) vQ);exact xf<|vv<|av 2)
theorem MF:Co "leaned_left" P w K mg base kd 6 t.U7 t.U8 ["way","one","other"] XJ:=by
 refine Xl (N:=U4) (k:=5) (c:=Rc) T.MM QX λ_ _ _ _ _ _ hr=>?_;have:=QX.nd;have:=Y8 (base:=base) T hkd;have:=X6 (base:=base) T hkd;conv=>arg 3;whnf
 trivial
theorem Mr:Co "leaned_right" P w K mg base kd 6 t.Qc t.QR ["way","one","other"] YL:=by
 refine Xl (N:=V3) (k:=5) (c:=V0) T.Nj VU λ_ _ _ _ _ _ hr=>?_;have:=VU.nd;have:=Y8 (base:=base) T hkd;have:=X6 (base:=base) T hkd;conv=>arg 3;whnf
 trivial
theorem SX:Co "evened" P w K mg base kd 7 t.Hy t.HB ["way","one","other"] RP:=by
 refine Xl (N:=Sh) (k:=6) (c:=Hx) T.DB EH λ_ _ _ _ _ _ hr=>?_;have:=EH.nd;have:=MF (base:=base) T hkd;have:=Mr (base:=base) T hkd;have:=X6 (base:=base) T hkd;conv=>arg 3;whnf
 trivial
omit T hkd in
theorem Zc(T:Txt K kd mg t)(hkd:u6 P w K kd):∀n:Nat,FnOk P w K mg base wV (7+n) t.YW t.Y_ ["way","one","other"] (RD K kd<|zN n)
 |0=>BB
 |n+1=>by
  have G:=Zc T hkd n;refine Zb (N:=Qz) (k:=7+n) (c:=V6<|zN n) T.xj Z2 λcdv A outer s H E hr=>?_;exact(by
  refine xG ?_ ?_;exact(VZ (tc hkd hr (av 1) aZ) (xf<|vv<|av 2) vQ);refine xG ?_ ?_;exact(VZ (tc hkd hr (av 2) aZ) (xf<|vv<|av 1) vQ);refine xG ?_ ?_;exact(VZ (tc hkd hr (fd (WJ T)<|av 1)<|bn (fd (WJ T)<|av 2) aI) (by
  refine sj 3 Z2.nd ?_ ?_;exact(cq (Y8 T hkd) hr<|bc (av 0)<|bc (av 1) zM);exact xf<|vv<|cq (SX T hkd) hr<|bc (av 0)<|bc (ax hkd (av 3) aI)<|bc (ck G hr T.zN T.xj.kp T.xX<|bc (av 0)<|bc (ax hkd (av 3) aI)<|bc (av 2) zM) zM) vQ)
  refine xG ?_ ?_;exact(VZ (tc hkd hr (fd (WJ T)<|av 2)<|bn (fd (WJ T)<|av 1) aI) (by
  refine sj 3 Z2.nd ?_ ?_;exact(cq (Y8 T hkd) hr<|bc (av 0)<|bc (av 2) zM);exact xf<|vv<|cq (SX T hkd) hr<|bc (av 0)<|bc (ck G hr T.zN T.xj.kp T.xX<|bc (av 0)<|bc (av 1)<|bc (ax hkd (av 3) aI) zM)<|bc (ax hkd (av 3) aI) zM) vQ)
  exact xf<|vv<|cq (X6 T hkd) hr<|bc (av 0)<|bc (av 1)<|bc (av 2) zM)
omit T hkd in
theorem GS(T:Txt K kd mg t)(hkd:u6 P w K kd):∀n:Nat,FnOk P w K mg base wV (27+n) t.Qf t.Qy ["way","tree","place"] (RD K kd<|yA n)
 |0=>BB
 |n+1=>by
  have G:=GS T hkd n;refine Zb (N:=GZ) (k:=27+n) (c:=G3<|yA n) T.Xy Zd λcdv A outer s H E hr=>?_;exact(by
  refine xG ?_ ?_;exact(VZ (tc hkd hr (av 2) aI) (xf<|vv<|WB<|bd aZ<|bd (av 1) Y5) vQ);refine xG ?_ ?_;exact(VZ (tc hkd hr (av 2)<|fd (Rk T)<|av 1) (xf<|vv<|WB<|bd (av 1)<|bd aZ Y5) vQ);refine sj 3 Zd.nd ?_ ?_;exact(cq (Y8 T hkd) hr<|bc (av 0)<|bc (av 1) zM);refine sj 4 Zd.nd ?_ ?_;exact(fd (Rk T)<|ax hkd (av 3) aI);refine xG ?_ ?_;exact(VZ (tc hkd hr (av 2)<|av 4) (by
  refine sj 5 Zd.nd ?_ ?_;exact(ck G hr T.yA T.Xy.kp T.QV<|bc (av 0)<|bc (ax hkd (av 3) aI)<|bc (av 2) zM);exact xf<|vv<|WB<|bd (ax hkd (av 5) aI)<|bd (ck (Zc T hkd 20) hr T.zN T.xj.kp T.xX<|bc (av 0)<|bc (ax hkd (av 5) aI)<|bc (ax hkd (av 3) aI) zM) Y5) vQ)
  refine sj 5 Zd.nd ?_ ?_;exact(ck G hr T.yA T.Xy.kp T.QV<|bc (av 0)<|bc (ax hkd (av 3) aI)<|bc (bn (av 2)<|av 4) zM);exact xf<|vv<|WB<|bd (ck (Zc T hkd 20) hr T.zN T.xj.kp T.xX<|bc (av 0)<|bc (ax hkd (av 3) aI)<|bc (ax hkd (av 5) aI) zM)<|bd (ax hkd (av 5) aI) Y5)
theorem U1:Co "check_place" P w K mg base kd 3 t.UD t.UB ["place","least","most"] yZ:=by
 refine Xl (N:=Re) (k:=2) (c:=XR) T.M_ VY λ_ _ _ _ _ _ hr=>?_;have:=VY.nd;have:=Qo (base:=base) T hkd;conv=>arg 3;whnf
 trivial
theorem BI:Co "check_size" P w K mg base kd 1 t.Py t.P0 ["size"] vW:=by
 refine Xl (N:=RK) (k:=0) (c:=Wr) T.FO UZ λ_ _ _ _ _ _ hr=>?_;have:=UZ.nd;conv=>arg 3;whnf
 trivial
theorem uK:Co "firm" P w K mg base kd 1 t.AJ t.uJ ["rows"] FU:=by
 refine Xl (N:=D0) (k:=0) (c:=uq) T.oR CJ λ_ _ _ _ _ _ hr=>?_;have:=CJ.nd;conv=>arg 3;whnf
 trivial
theorem Rv:Co "_law_draw" P w K mg base kd 1 t.Ms t.LC ["_law_script","_law_k"] yg:=by
 refine Xl (N:=Np) (k:=0) (c:=Mj) T.Ou Kh λ_ _ _ _ _ _ hr=>?_;have:=Kh.nd;conv=>arg 3;whnf
 trivial
theorem Yz:Co "_law_digits" P w K mg base kd 1 t.RZ t.PD ["_law_x","_law_sizes"] yw:=by
 refine Xl (N:=Ph) (k:=0) (c:=Pr) T.BZ UU λ_ _ _ _ _ _ hr=>?_;have:=UU.nd;conv=>arg 3;whnf
 trivial
theorem GW:Co "_law_names" P w K mg base kd 2 t.Kd t.Gk ["_law_x","_law_many"] XC:=by
 refine Xl (N:=GA) (k:=1) (c:=Gv) T.HE P3 λ_ _ _ _ _ _ hr=>?_;have:=P3.nd;have:=Yz (base:=base) T hkd;conv=>arg 3;whnf
 trivial
theorem Km:Co "_law_part_join" P w K mg base kd 1 t.VD t.Vx ["_law_part","_law_a","_law_b"] w_:=by
 refine Xl (N:=Vm) (k:=0) (c:=Vu) T.KH We λ_ _ _ _ _ _ hr=>?_;have:=We.nd;conv=>arg 3;whnf
 trivial
theorem Kj:Co "_law_part_done" P w K mg base kd 1 t.VH t.VM ["_law_part","_law_x","_law_c","_law_a"] xy:=by
 refine Xl (N:=Vs) (k:=0) (c:=Vy) T.KR X3 λ_ _ _ _ _ _ hr=>?_;have:=X3.nd;conv=>arg 3;whnf
 trivial
theorem SA:Co "_law_parts" P w K mg base kd 1 t.Ka t.GM ["_law_x"] Ql:=by
 refine Xl (N:=G4) (k:=0) (c:=GN) T.S7 Pg λ_ _ _ _ _ _ hr=>?_;have:=Pg.nd;conv=>arg 3;whnf
 trivial
theorem Hf:Co "_law_split" P w K mg base kd 1 t.GH t.Gn ["_law_parts_here","_law_value"] V_:=by
 refine Xl (N:=GY) (k:=0) (c:=Kf) T.Sn Pp λ_ _ _ _ _ _ hr=>?_;have:=Pp.nd;conv=>arg 3;whnf
 trivial
theorem Og:Co "_law_laid" P w K mg base kd 1 t.Na t.NL ["_law_parts_here","_law_row_here"] xx:=by
 refine Xl (N:=Mi) (k:=0) (c:=LV) T.O7 GG λ_ _ _ _ _ _ hr=>?_;have:=GG.nd;conv=>arg 3;whnf
 trivial
theorem Sk:Co "_law_order" P w K mg base kd 1 t.G2 t.GQ ["_law_x","_law_n"] Qt:=by
 refine Xl (N:=GO) (k:=0) (c:=G0) T.SC P8 λ_ _ _ _ _ _ hr=>?_;have:=P8.nd;conv=>arg 3;whnf
 trivial
theorem M9:Co "_law_algebra" P w K mg base kd 3 t.UG t.UH ["_law_script","_law_start"] ZA:=by
 refine Xl (N:=U2) (k:=2) (c:=UO) T.MI QZ λ_ _ _ _ _ _ hr=>?_;have:=QZ.nd;have:=SA (base:=base) T hkd;have:=Rv (base:=base) T hkd;have:=Og (base:=base) T hkd;have:=Sk (base:=base) T hkd;have:=Hf (base:=base) T hkd;have:=Km (base:=base) T hkd;have:=GW (base:=base) T hkd;have:=Kj (base:=base) T hkd;conv=>arg 3;whnf
 trivial
theorem KM:Co "_law_by_digits" P w K mg base kd 3 t.VE t.VG ["_law_script"] vh:=by
 refine Xl (N:=VP) (k:=2) (c:=Vz) T.K1 Wd λ_ _ _ _ _ _ hr=>?_;have:=Wd.nd;have:=Yz (base:=base) T hkd;have:=GW (base:=base) T hkd;have:=Rv (base:=base) T hkd;conv=>arg 3;whnf
 trivial
theorem Ov:Co "_law_does" P w K mg base kd 1 t.Mu t.N0 ["_law_m","_law_join","_law_rows","_law_a","_law_b"] Ri:=by
 refine Xl (N:=Nk) (k:=0) (c:=Nl) T.OM GT λ_ _ _ _ _ _ hr=>?_;have:=GT.nd;conv=>arg 3;whnf
 trivial
theorem MY:Co "_law_is_good" P w K mg base kd 2 t.U0 t.UW ["_law_algebra_here"] XH:=by
 refine Xl (N:=U5) (k:=1) (c:=Uy) T.M3 QU λ_ _ _ _ _ _ hr=>?_;have:=QU.nd;have:=Ov (base:=base) T hkd;conv=>arg 3;whnf
 trivial
theorem JX:Co "_law_any" P w K mg base kd 4 t.Fh t.EJ ["_law_script"] Ug:=by
 refine Xl (N:=Fd) (k:=3) (c:=Eh) T.Jb Mg λ_ _ _ _ _ _ hr=>?_;have:=Mg.nd;have:=KM (base:=base) T hkd;have:=MY (base:=base) T hkd;have:=M9 (base:=base) T hkd;conv=>arg 3;whnf
 trivial
theorem OR:Co "_law_copy" P w K mg base kd 1 t.LA t.Mn ["_law_algebra_here"] Rz:=by
 refine Xl (N:=NI) (k:=0) (c:=NF) T.Ca Ke λ_ _ _ _ _ _ hr=>?_;have:=Ke.nd;conv=>arg 3;whnf
 trivial
theorem HU:Co "_law_deed" P w K mg base kd 1 t.N_ t.Nd ["_law_algebra_here","_law_name","_law_row_here"] RB:=by
 refine Xl (N:=MA) (k:=0) (c:=Nx) T.OY GU λ_ _ _ _ _ _ hr=>?_;have:=GU.nd;conv=>arg 3;whnf
 trivial
theorem IX:Co "_law_row" P w K mg base kd 2 t.Fc t.EX ["_law_x","_law_n","_law_most"] TH:=by
 refine Xl (N:=Fe) (k:=1) (c:=E5) T.Jp Md λ_ _ _ _ _ _ hr=>?_;have:=Md.nd;have:=Yz (base:=base) T hkd;conv=>arg 3;whnf
 trivial
theorem M0:Co "_law_is_list" P w K mg base kd 1 t.Uz t.U_ ["_law_found","_law_due"] Zz:=by
 refine Xl (N:=UN) (k:=0) (c:=UJ) T.MH Qd λ_ _ _ _ _ _ hr=>?_;have:=Qd.nd;conv=>arg 3;whnf
 trivial
theorem Ko:Co "_law_is_number" P w K mg base kd 1 t.VA t.Vi ["_law_found","_law_due"] vb:=by
 refine Xl (N:=Vd) (k:=0) (c:=VO) T.Kw Wb λ_ _ _ _ _ _ hr=>?_;have:=Wb.nd;conv=>arg 3;whnf
 trivial
theorem FQ:Co "_law_places" P w K mg base kd 2 t.RS t.Pa ["_law_x","_law_many"] Yo:=by
 refine Xl (N:=PY) (k:=1) (c:=Td) T.Bf Rb λ_ _ _ _ _ _ hr=>?_;have:=Rb.nd;have:=Yz (base:=base) T hkd;conv=>arg 3;whnf
 trivial
theorem SO:Co "_law_first" P w K mg base kd 1 t.Gr t.G5 ["_law_algebra_here","_law_row_here","_law_i","_law_values"] QB:=by
 refine Xl (N:=Kb) (k:=0) (c:=Kg) T.SK Pi λ_ _ _ _ _ _ hr=>?_;have:=Pi.nd;conv=>arg 3;whnf
 trivial
theorem OS:Co "_law_told" P w K mg base kd 2 t.NP t.NO ["_law_found","_law_due"] WV:=by
 refine Xl (N:=Lo) (k:=1) (c:=LB) T.H0 GE λ_ _ _ _ _ _ hr=>?_;have:=GE.nd;have:=Ko (base:=base) T hkd;conv=>arg 3;whnf
 trivial
theorem Tq(c:Str):FnOk P w K mg base wV 1 t.Zu t.Zy ["self","way"] (ll K kd c<|yO c):=by
 refine Oa (N:=X7) (k:=0) (b:=Zp) T.Tu Ta (by decide) λcdv A outer s H E hr=>?_;exact(yW (xr (NA T) (pv 0) (av 1) rfl)<|Fu<|uC (K9 T) (pv 0) (AZ Y5) rfl)
theorem Fo:FnOk P w K mg base wV 1 t.W4 t.WC ["self","tree"] (spS K kd yM):=by
 refine Bo (N:=Pd) (k:=0) (c:=Yv) T.Bw M7 (by decide) λcdv A outer s H E hr=>?_;exact(ZT (kP (K9 T) (pv 0) (pv 1) rfl rfl rfl rfl rfl rfl rfl)<|Lm<|bn (jg (K9 T) (pv 0) rfl rfl T.Ec rfl rfl) aI)
theorem Kx:FnOk P w K mg base wV 3 t.Yc t.Z6 ["self","thing"] (RD K kd ZY):=by
 refine Zb (N:=VI) (k:=2) (c:=Vk) T.KJ X1 λ_ _ _ _ _ _ hr=>?_;have:=X1.nd;have:=Qo (base:=base) T hkd;conv=>arg 3;whnf
 trivial
theorem HV:MT P w K mg base kd "is_value" 3 G_:=(vA T.xR T.Kk (Kx T hkd) (by decide) T.KC vp)
theorem Ul:FnOk P w K mg base wV 4 t.wG t.wM ["self","thing"] (RD K kd xa):=by
 refine Zb (N:=Yn) (k:=3) (c:=wL) T.Uu ZO λ_ _ _ _ _ _ hr=>?_;have:=ZO.nd;have:=HV (base:=base) T hkd;conv=>arg 3;whnf
 trivial
theorem MX:MT P w K mg base kd "check_value" 4 YZ:=(vA T.xq T.Ur (Ul T hkd) (by decide) T.Uk vp)
theorem BS:MS P w K mg base kd "keep" 1 "Makes" yM:=Cw T.xq T.Bu (Fo T hkd) T.BR
theorem FG:FnOk P w K mg base wV 24 t.Wn t.WS ["self","row"] (spS K kd wC):=by
 refine Bo (N:=Pf) (k:=23) (c:=YD) T.Fy U9 (by decide) λcdv A outer s H E hr=>?_;exact(ZT (pL (OK<|Bh (NY (hkd _ rfl rfl rfl) rfl rfl T.vN Bt.isinstance rfl T.BL Bt.list (av 1) (Bt.n _ rfl) (by decide) (Bt.n _ rfl) (by decide) rfl rfl rfl) λ_=>rfl) (Pb pj) CU)<|ZT (DP (by decide) PassesOwn.never rfl (OA<|av 1) (an 2 U9.nd) (Pb<|FF (Q2 (MX T hkd) (hr.mono<|by omega) ZP (pv 0) (bc (av 2) zM) rfl rfl rfl) rfl) λ_=>rfl)<|ZT (FF (cq (BI T hkd) hr<|bc (bi (X_<|hkd _ rfl rfl rfl) T.Ec Bt.len<|bc (av 1) zM) zM) rfl)<|Lm<|K7 (BS T hkd) (hr.mono<|by omega) ZP (pv 0) (bc (ck (EI T hkd 20) hr T.xI T.Q3.kp T.TC<|bc (Hz (NA T) (pv 0) rfl)<|bc (av 1) zM) zM) rfl rfl rfl)
theorem KU:FnOk P w K mg base wV 3 t.Z5 t.Z7 ["self","make"] (RD K kd Z9):=by
 refine Zb (N:=Vv) (k:=2) (c:=VB) T.Kl X5 λ_ _ _ _ _ _ hr=>?_;have:=X5.nd;have:=Qo (base:=base) T hkd;conv=>arg 3;whnf
 trivial
theorem EE:MT P w K mg base kd "tree_at" 3 Y2:=(vA T.xq T.KO (KU T hkd) (by decide) T.KZ vp)
theorem Up:FnOk P w K mg base wV 48 t.wH t.wF ["self","make","i","j"] (RD K kd wO):=by
 refine Zb (N:=Yj) (k:=47) (c:=Yl) T.Uj ZU λ_ _ _ _ _ _ hr=>?_;have:=ZU.nd;have:=EE (base:=base) T hkd;have:=U1 (base:=base) T hkd;have:=JF (base:=base) T hkd;have:=Co.mk (GS (base:=base) T hkd 20) T.yA T.Xy.kp T.QV;conv=>arg 3;whnf
 trivial
theorem N4:FnOk P w K mg base wV 1 t.Xf t.YT ["self","thing"] (RD K kd YV):=by
 refine Zb (N:=Qa) (k:=0) (c:=Qk) T.NW Vf λ_ _ _ _ _ _ hr=>?_;have:=Vf.nd;conv=>arg 3;whnf
 trivial
theorem Me:FnOk P w K mg base wV 1 t.Xh t.Xg ["self","deed"] (RD K kd YK):=by
 refine Zb (N:=Qh) (k:=0) (c:=Qx) T.ND Vq λ_ _ _ _ _ _ hr=>?_;have:=Vq.nd;conv=>arg 3;whnf
 trivial
theorem Wv:FnOk P w K mg base wV 28 t.xv t.xp ["self","ahead","stretch","rest"] (RD K kd yq):=by
 refine Zb (N:=vR) (k:=27) (c:=vX) T.WG vF λ_ _ _ _ _ _ hr=>?_;have:=vF.nd;have:=Co.mk (Zc (base:=base) T hkd 20) T.zN T.xj.kp T.xX;conv=>arg 3;whnf
 trivial
theorem Wc:MT P w K mg base kd "three_together" 28 xV:=(vA T.xq T.Wm (Wv T hkd) (by decide) T.Wo vp)
theorem JP:MT P w K mg base kd "wait_of" 1 Rw:=(vA T.xR T.Ml (Me T hkd) (by decide) T.MD vp)
theorem IR:MT P w K mg base kd "is_deed" 1 RA:=(vA T.xR T.L8 (N4 T hkd) (by decide) T.LG vp)
theorem UR:MT P w K mg base kd "three_parts" 48 Qv:=(vA T.xq T.Uq (Up T hkd) (by decide) T.Us vp)
theorem BE:FnOk P w K mg base wV 49 t.WK t.Ww ["self","make","i","j","deed"] (spS K kd vY):=by
 refine Bo (N:=RW) (k:=48) (c:=PB) T.Fz XQ (by decide) λcdv A outer s H E hr=>?_;exact(ZT (by refine ko true 5 (by decide) XQ.nd ?_;exact(Q2 (UR T hkd) (hr.mono<|by omega) ZP (pv 0) (bc (av 1)<|bc (av 2)<|bc (av 3) zM) rfl rfl rfl))<|ZT (pL (OK<|Bh (mt (IR T hkd) hr (Hz (NA T) (pv 0) rfl) (bc (av 4) zM) rfl) λ_=>rfl) (Pb pj) CU)<|ZT (by refine ko true 6 (by decide) XQ.nd ?_;exact(cq (Mq T hkd) hr<|bc (Hz (NA T) (pv 0) rfl)<|bc (ax hkd (av 5) aI)<|bc (mt (JP T hkd) hr (Hz (NA T) (pv 0) rfl) (bc (av 4) zM) rfl) zM))<|Lm<|K7 (BS T hkd) (hr.mono<|by omega) ZP (pv 0) (bc (Q2 (Wc T hkd) (hr.mono<|by omega) ZP (pv 0) (bc (ax hkd (av 5) aI)<|bc (av 6)<|bc (ax hkd (av 5) aI) zM) rfl rfl rfl) zM) rfl rfl rfl)
theorem Lp:FnOk P w K mg base wV 49 t.Xe t.Y6 ["self","make","i","j"] (spS K kd we):=by
 refine Bo (N:=QS) (k:=48) (c:=QD) T.MB Vn (by decide) λcdv A outer s H E hr=>?_;exact(ZT (by refine ko true 4 (by decide) Vn.nd ?_;exact(Q2 (UR T hkd) (hr.mono<|by omega) ZP (pv 0) (bc (av 1)<|bc (av 2)<|bc (av 3) zM) rfl rfl rfl))<|Lm<|K7 (BS T hkd) (hr.mono<|by omega) ZP (pv 0) (bc (Q2 (Wc T hkd) (hr.mono<|by omega) ZP (pv 0) (bc (ax hkd (av 4) aI)<|bc (cq (PJ T hkd) hr<|bc (Hz (NA T) (pv 0) rfl)<|bc (ax hkd (av 4) aI) zM)<|bc (ax hkd (av 4) aI) zM) rfl rfl rfl) zM) rfl rfl rfl)
theorem Kt(c:Str):FnOk P w K mg base wV 5 t.Yh t.Z0 ["self","algebra"] (ll K kd c<|vm c):=by
 refine Oa (N:=w9) (k:=4) (b:=Yi) T.KW Gi (by decide) λcdv A outer s H E hr=>?_;exact(yW (ri (cq (LH T hkd) hr<|bc (av 1) zM) rfl)<|yW (xr (Rk T) (pv 0) (ax hkd (av 1) aI) rfl)<|yW (xr (Sb T) (pv 0) (ax hkd (av 1) aI) rfl)<|yW (xr (C4 T) (pv 0) (cq (uK T hkd) hr<|bc (ax hkd (av 1) aI) zM) rfl)<|yW (xr (EB T) (pv 0) (ax hkd (av 1) aI) rfl)<|yW (xr (CH T) (pv 0) (lK (Ru rfl<|hkd _ rfl rfl rfl) T.Om Bt.dict<|bc (BX (N:=["name","rows"]) (cap:=[none,none]) (S:=[0,1]) rfl (Oq<|ax hkd (av 1) aI) rfl (by change U6 _ w9 _ (zd yU).names _=true;decide +kernel) (by decide) (λcl s H fp=>(Bg rfl (X2 (an 0 YN) (X2 (an 1 YN) Ll rfl) rfl) rfl rfl)) (λcl s H fp=>Fm) (λcl s H fp=>(WB<|bd (av 0)<|bd (cq (uK T hkd) hr<|bc (av 1) zM) Y5)) λ_=>rfl) zM) rfl)<|Fu<|xr (Eu T) (pv 0) (lK (Ru rfl<|hkd _ rfl rfl rfl) T.Om Bt.dict<|bc (BX (N:=["name","values"]) (cap:=[none,none]) (S:=[0,1]) rfl (Oq<|ax hkd (av 1) aI) rfl (by change U6 _ w9 _ (zd yU).names _=true;decide +kernel) (by decide) (λcl s H fp=>(Bg rfl (X2 (an 0 YR) (X2 (an 1 YR) Ll rfl) rfl) rfl rfl)) (λcl s H fp=>Fm) (λcl s H fp=>(WB<|bd (av 0)<|bd (lK E2 T.Ct Bt.tuple<|bc (av 1) zM) Y5)) λ_=>rfl) zM) rfl)
theorem Mx:FnOk P w K mg base wV 24 t.YU t.Y3 ["self","make"] (RD K kd vM):=by
 refine Zb (N:=Qm) (k:=23) (c:=QO) T.L7 Vp λ_ _ _ _ _ _ hr=>?_;have:=Vp.nd;have:=A0 (base:=base) T hkd;have:=EE (base:=base) T hkd;conv=>arg 3;whnf
 trivial
theorem L0:FnOk P w K mg base wV 1 t.YX t.YQ ["self"] (RD K kd YJ):=by
 refine Zb (N:=QY) (k:=0) (c:=QE) T.NX Ve λ_ _ _ _ _ _ hr=>?_;have:=Ve.nd;conv=>arg 3;whnf
 trivial
theorem LQ:FnOk P w K mg base wV 1 t.Xc t.YI ["self","thing"] (RD K kd Y1):=by
 refine Zb (N:=Qp) (k:=0) (c:=V7) T.Nu Vl λ_ _ _ _ _ _ hr=>?_;have:=Vl.nd;conv=>arg 3;whnf
 trivial
theorem KG:FnOk P w K mg base wV 1 t.ZX t.Z1 ["self","sign","value"] (RD K kd ZZ):=by
 refine Zb (N:=Vo) (k:=0) (c:=VC) T.KP Wg λ_ _ _ _ _ _ hr=>?_;have:=Wg.nd;conv=>arg 3;whnf
 trivial
theorem Hg:MT P w K mg base kd "listed" 24 X0:=(vA T.xq T.Ny (Mx T hkd) (by decide) T.N7 vp)
theorem Ju:MT P w K mg base kd "is_sign" 1 Rg:=(vA T.xR T.Lx (LQ T hkd) (by decide) T.My vp)
theorem J0:MT P w K mg base kd "nothing" 1 Rn:=(vA T.xR T.NG (L0 T hkd) (by decide) T.LR vp)
theorem Cm:MT P w K mg base kd "has_sign" 1 Qe:=(vA T.xR T.Ky (KG T hkd) (by decide) T.KI vp)
theorem MR:FnOk P w K mg base wV 25 t.XU t.XZ ["self","make","i","sign"] (RD K kd XM):=by
 refine Zb (N:=UP) (k:=24) (c:=UT) T.ML QW λ_ _ _ _ _ _ hr=>?_;have:=QW.nd;have:=Hg (base:=base) T hkd;have:=U1 (base:=base) T hkd;have:=Ju (base:=base) T hkd;have:=J0 (base:=base) T hkd;have:=Am (base:=base) T hkd;have:=Cm (base:=base) T hkd;conv=>arg 3;whnf
 trivial
theorem qL:MT P w K mg base kd "first" 25 S9:=(vA T.xq T.Ea (MR T hkd) (by decide) T.MZ vp)
theorem qD:MS P w K mg base kd "done" 49 "Makes" vY:=Cw T.xq T.FC (BE T hkd) T.FK
theorem qw:MS P w K mg base kd "made" 24 "Makes" wC:=Cw T.xq T.FE (FG T hkd) T.Ba
theorem JT:MS P w K mg base kd "turned" 49 "Makes" we:=Cw T.xq T.L_ (Lp T hkd) T.LZ
theorem kU:Co "law" P w K mg base kd 50 t.pZ t.pK ["_law_script"] Ed:=by
 refine Xl (N:=qY) (k:=49) (c:=p4) T.h_ A4 λ_ _ _ _ _ _ hr=>?_;have:=A4.nd;have:=JX (base:=base) T hkd;have:=Tq (base:=base) T hkd "Makes";have:=Kt (base:=base) T hkd "Ways";have:=OR (base:=base) T hkd;have:=IX (base:=base) T hkd;have:=Rv (base:=base) T hkd;have:=FQ (base:=base) T hkd;have:=HU (base:=base) T hkd;have:=qw (base:=base) T hkd;have:=qD (base:=base) T hkd;have:=JT (base:=base) T hkd;have:=OS (base:=base) T hkd;have:=qL (base:=base) T hkd;have:=SO (base:=base) T hkd;have:=M0 (base:=base) T hkd;have:=Hg (base:=base) T hkd;conv=>arg 3;whnf
 trivial
end
abbrev jC(K:zzA)(x:Str)(f:Addr):Prop:=W.nsIn K mainGlobals x=some (some<|.ref f)
abbrev FnAt(K:zzA)(x q:Str)(s:Stmt)(f:Addr):Prop:=∃d,Fun K x q s f d
abbrev Fk(K:zzA)(x:Str)(s:Stmt)(f:Addr):Prop:=jC K x f/\FnAt K x x s f
def nX{l:PySem.W.OpenLaw}{w:World}{K:zzA}{h:Heap}{mg:Str->Option Value}{fa:Addr}(X:K.In h)(G:h.Ns mainGlobals mg)(hfa:mg "law"=some (.ref fa))
 {f0 f1 f2 f3 f4 f5 f6 f7 f8 f9 f10 f11 f12 f13 f14 f15 f16 f17 f18 f19 f20 f21 f22 f23 f24 f25 f26 f27 f28 f29 f30 f31 f32 f33 f34 f35 f36 f37 f38 f39 f40 f41 f42 f43 f44 f45 f46 f47 f48 f49 f50 f51 f52 f53 f54 f55 f56 f57 f58 f59 f60 f61 f62 f63 f64 f65 f66 f67 f68 f69 f70 C0 C1 C2:Addr}
 {tk0_0:Tok}
 (aC0:W.nsIn K mainGlobals "Knot"=some (some<|.ref C0))
 (aC1:W.nsIn K mainGlobals "Makes"=some (some<|.ref C1))
 (aC2:W.nsIn K mainGlobals "Ways"=some (some<|.ref C2))
 (e0:W.findIn K (.ref C0) "__init__"=some (some<|.ref f8)) (ei0:W.isFn K (.ref f8)=true) (ek0:W.keepIn K (.ref f8)=true)
 (e1:W.findIn K (.ref C1) "__init__"=some (some<|.ref f52)) (ei1:W.isFn K (.ref f52)=true) (ek1:W.keepIn K (.ref f52)=true)
 (e2:W.findIn K (.ref C2) "__init__"=some (some<|.ref f64)) (ei2:W.isFn K (.ref f64)=true) (ek2:W.keepIn K (.ref f64)=true)
 (e3:W.findIn K (.ref C2) "join"=some (some<|.ref f10)) (ei3:W.isFn K (.ref f10)=true) (ek3:W.keepIn K (.ref f10)=true)
 (e4:W.findIn K (.ref C2) "behind"=some (some<|.ref f14)) (ei4:W.isFn K (.ref f14)=true) (ek4:W.keepIn K (.ref f14)=true)
 (e5:W.findIn K (.ref C1) "made"=some (some<|.ref f56)) (ei5:W.isFn K (.ref f56)=true) (ek5:W.keepIn K (.ref f56)=true)
 (e6:W.findIn K (.ref C2) "made"=some (some<|.ref f16)) (ei6:W.isFn K (.ref f16)=true) (ek6:W.keepIn K (.ref f16)=true)
 (e7:W.findIn K (.ref C2) "is_value"=some (some<|.ref f54)) (ei7:W.isFn K (.ref f54)=true) (ek7:W.keepIn K (.ref f54)=true)
 (e8:W.findIn K (.ref C1) "keep"=some (some<|.ref f53)) (ei8:W.isFn K (.ref f53)=true) (ek8:W.keepIn K (.ref f53)=true)
 (e9:W.findIn K (.ref C1) "check_value"=some (some<|.ref f55)) (ei9:W.isFn K (.ref f55)=true) (ek9:W.keepIn K (.ref f55)=true)
 (e10:W.findIn K (.ref C1) "tree_at"=some (some<|.ref f57)) (ei10:W.isFn K (.ref f57)=true) (ek10:W.keepIn K (.ref f57)=true)
 (e11:W.findIn K (.ref C1) "three_together"=some (some<|.ref f61)) (ei11:W.isFn K (.ref f61)=true) (ek11:W.keepIn K (.ref f61)=true)
 (e12:W.findIn K (.ref C2) "wait_of"=some (some<|.ref f60)) (ei12:W.isFn K (.ref f60)=true) (ek12:W.keepIn K (.ref f60)=true)
 (e13:W.findIn K (.ref C2) "is_deed"=some (some<|.ref f59)) (ei13:W.isFn K (.ref f59)=true) (ek13:W.keepIn K (.ref f59)=true)
 (e14:W.findIn K (.ref C1) "three_parts"=some (some<|.ref f58)) (ei14:W.isFn K (.ref f58)=true) (ek14:W.keepIn K (.ref f58)=true)
 (e15:W.findIn K (.ref C1) "listed"=some (some<|.ref f65)) (ei15:W.isFn K (.ref f65)=true) (ek15:W.keepIn K (.ref f65)=true)
 (e16:W.findIn K (.ref C2) "is_sign"=some (some<|.ref f67)) (ei16:W.isFn K (.ref f67)=true) (ek16:W.keepIn K (.ref f67)=true)
 (e17:W.findIn K (.ref C2) "nothing"=some (some<|.ref f66)) (ei17:W.isFn K (.ref f66)=true) (ek17:W.keepIn K (.ref f66)=true)
 (e18:W.findIn K (.ref C2) "has_sign"=some (some<|.ref f68)) (ei18:W.isFn K (.ref f68)=true) (ek18:W.keepIn K (.ref f68)=true)
 (e19:W.findIn K (.ref C1) "done"=some (some<|.ref f62)) (ei19:W.isFn K (.ref f62)=true) (ek19:W.keepIn K (.ref f62)=true)
 (e20:W.findIn K (.ref C1) "turned"=some (some<|.ref f63)) (ei20:W.isFn K (.ref f63)=true) (ek20:W.keepIn K (.ref f63)=true)
 (e21:W.findIn K (.ref C1) "first"=some (some<|.ref f69)) (ei21:W.isFn K (.ref f69)=true) (ek21:W.keepIn K (.ref f69)=true)
 (pg0:W.plainGet K C0 Str.empty=true) (hd0:W.hasDictIn K C0=true) (po0:W.plainOver K C0=true) (sa0:W.findIn K (.ref C0) "__setattr__"=some (some<|.builtin "object.__setattr__")) (mk0:W.makesIn K C0=true) (kc0:W.keepIn K (.ref C0)=true)
 (pg1:W.plainGet K C1 Str.empty=true) (hd1:W.hasDictIn K C1=true) (po1:W.plainOver K C1=true) (sa1:W.findIn K (.ref C1) "__setattr__"=some (some<|.builtin "object.__setattr__")) (mk1:W.makesIn K C1=true) (kc1:W.keepIn K (.ref C1)=true)
 (pg2:W.plainGet K C2 Str.empty=true) (hd2:W.hasDictIn K C2=true) (po2:W.plainOver K C2=true) (sa2:W.findIn K (.ref C2) "__setattr__"=some (some<|.builtin "object.__setattr__")) (mk2:W.makesIn K C2=true) (kc2:W.keepIn K (.ref C2)=true)
 (na0:W.findIn K (.ref C0) "whole"=some none)
 (na1:W.findIn K (.ref C0) "back"=some none)
 (na2:W.findIn K (.ref C0) "wait"=some none)
 (na3:W.findIn K (.ref C0) "turn"=some none)
 (na4:W.findIn K (.ref C0) "one"=some none)
 (na5:W.findIn K (.ref C0) "other"=some none)
 (na6:W.findIn K (.ref C0) "deep"=some none)
 (na7:W.findIn K (.ref C0) "size"=some none)
 (na8:W.findIn K (.ref C2) "size"=some none)
 (na9:W.findIn K (.ref C2) "table"=some none)
 (na10:W.findIn K (.ref C2) "around"=some none)
 (na11:W.findIn K (.ref C1) "way"=some none)
 (na12:W.findIn K (.ref C1) "trees"=some none)
 (na13:W.findIn K (.ref C2) "waits"=some none)
 (na14:W.findIn K (.ref C2) "neutral"=some none)
 (na15:W.findIn K (.ref C2) "holders"=some none)
 (a0:Fk K "is_whole" W5 f0)
 (a1:Fk K "is_within" Xo f1)
 (a2:Fk K "nothing_fails" vo f2)
 (a3:Fk K "parting_fails" vg f3)
 (a4:Fk K "doing_fails" ZK f4)
 (a5:Fk K "deeds_fail" Yx f5)
 (a6:Fk K "what_fails" YB f6)
 (a7:Fk K "check_let_by" v7 f7)
 (l8:FnAt K "__init__" "Knot.__init__" va f8)
 (a9:Fk K "leaf_of" Uh f9)
 (l10:FnAt K "join" "Ways.join" XD f10)
 (a11:Fk K "knot_of" Ui f11)
 (a12:jC K "tree_of" f12) (l12:FnAt K "tree_of" "tree_of" Uc f12)
 (a13:Fk K "size_of" Q5 f13)
 (l14:FnAt K "behind" "Ways.behind" ZF f14)
 (a15:Fk K "both_waits" Yp f15)
 (l16:FnAt K "made" "Ways.made" Xr f16)
 (a17:Fk K "done_all" WQ f17)
 (a18:Fk K "turned_all" Ys f18)
 (a19:Fk K "parts_of" WM f19)
 (a20:jC K "gather" f20) (l20:FnAt K "gather" "gather" P9 f20)
 (a21:Fk K "row_of" Pn f21)
 (a22:Fk K "leaned_left" ZE f22)
 (a23:Fk K "leaned_right" vT f23)
 (a24:Fk K "evened" Pe f24)
 (a25:jC K "put_together" f25) (l25:FnAt K "put_together" "put_together" Ze f25)
 (a26:jC K "parted_at" f26) (l26:FnAt K "parted_at" "parted_at" Xz f26)
 (a27:Fk K "check_place" ZG f27)
 (a28:Fk K "check_size" Yw f28)
 (a29:Fk K "firm" FT f29)
 (a30:Fk K "_law_draw" WI f30)
 (a31:Fk K "_law_digits" YC f31)
 (a32:Fk K "_law_names" Xs f32)
 (a33:Fk K "_law_part_join" wX f33)
 (a34:Fk K "_law_part_done" vk f34)
 (a35:Fk K "_law_parts" Xq f35)
 (a36:Fk K "_law_split" XE f36)
 (a37:Fk K "_law_laid" Vc f37)
 (a38:Fk K "_law_order" Xv f38)
 (a39:Fk K "_law_algebra" ZD f39)
 (a40:Fk K "_law_by_digits" vc f40)
 (a41:Fk K "_law_does" WR f41)
 (a42:Fk K "_law_is_good" ZC f42)
 (a43:Fk K "_law_any" Ue f43)
 (a44:Fk K "_law_copy" W9 f44)
 (a45:Fk K "_law_deed" W0 f45)
 (a46:Fk K "_law_row" Q8 f46)
 (a47:Fk K "_law_is_list" ZJ f47)
 (a48:Fk K "_law_is_number" wY f48)
 (a49:Fk K "_law_places" Yu f49)
 (a50:Fk K "_law_first" Xu f50)
 (a51:Fk K "_law_told" WU f51)
 (l52:FnAt K "__init__" "Makes.__init__" wq f52)
 (l53:FnAt K "keep" "Makes.keep" YA f53)
 (l54:FnAt K "is_value" "Ways.is_value" vi f54)
 (l55:FnAt K "check_value" "Makes.check_value" xh f55)
 (l56:FnAt K "made" "Makes.made" Yy f56)
 (l57:FnAt K "tree_at" "Makes.tree_at" vd f57)
 (l58:FnAt K "three_parts" "Makes.three_parts" xg f58)
 (l59:FnAt K "is_deed" "Ways.is_deed" vV f59)
 (l60:FnAt K "wait_of" "Ways.wait_of" vL f60)
 (l61:FnAt K "three_together" "Makes.three_together" yI f61)
 (l62:FnAt K "done" "Makes.done" Yr f62)
 (l63:FnAt K "turned" "Makes.turned" Zg f63)
 (l64:FnAt K "__init__" "Ways.__init__" yU f64)
 (l65:FnAt K "listed" "Makes.listed" vP f65)
 (l66:FnAt K "nothing" "Ways.nothing" Zi f66)
 (l67:FnAt K "is_sign" "Ways.is_sign" vS f67)
 (l68:FnAt K "has_sign" "Ways.has_sign" wZ f68)
 (l69:FnAt K "first" "Makes.first" ZI f69)
 (a70:Fk K "law" C8 f70)
 (cg0:W.nsIn K mainGlobals "MOST_IN_ROW"=some (some<|.int 300 tk0_0))
 (z0:W.nsIn K mainGlobals "bool"=some none) (z1:W.nsIn K mainGlobals "dict"=some none) (z2:W.nsIn K mainGlobals "divmod"=some none) (z3:W.nsIn K mainGlobals "int"=some none) (z4:W.nsIn K mainGlobals "isinstance"=some none) (z5:W.nsIn K mainGlobals "len"=some none) (z6:W.nsIn K mainGlobals "list"=some none) (z7:W.nsIn K mainGlobals "max"=some none) (z8:W.nsIn K mainGlobals "min"=some none) (z9:W.nsIn K mainGlobals "range"=some none) (z10:W.nsIn K mainGlobals "str"=some none) (z11:W.nsIn K mainGlobals "sum"=some none) (z12:W.nsIn K mainGlobals "tuple"=some none) (z13:W.nsIn K mainGlobals "zip"=some none):
 ∃fd:FuncData,(∀(s:Shared) (v:Value),BindsTo s fd ⟨[v],[]⟩ [("_law_script",v)])/\∀base:Heap,K.In base->base.Ns mainGlobals mg->FnOk l.prog w K mg base wV 50 fa fd ["_law_script"] (eC K Ed):=by
 have e:=hfa.symm.trans<|W.mg_of X G a70.1;cases e;obtain⟨a0,_,F0⟩:=a0;obtain⟨a1,_,F1⟩:=a1;obtain⟨a2,_,F2⟩:=a2;obtain⟨a3,_,F3⟩:=a3;obtain⟨a4,_,F4⟩:=a4;obtain⟨a5,_,F5⟩:=a5;obtain⟨a6,_,F6⟩:=a6;obtain⟨a7,_,F7⟩:=a7;obtain⟨_,F8⟩:=l8;have b8:=F8.binds (ps:=["self","whole","back","wait","turn","one","other"]) λ_ _ _ _ _ _ us hl=>match us,hl with | [_,_,_,_,_,_,_],_=>rfl
 obtain⟨a9,_,F9⟩:=a9;obtain⟨_,F10⟩:=l10;obtain⟨a11,_,F11⟩:=a11;obtain⟨_,F12⟩:=l12;obtain⟨a13,_,F13⟩:=a13;obtain⟨_,F14⟩:=l14;obtain⟨a15,_,F15⟩:=a15;obtain⟨_,F16⟩:=l16;obtain⟨a17,_,F17⟩:=a17;obtain⟨a18,_,F18⟩:=a18;obtain⟨a19,_,F19⟩:=a19;obtain⟨_,F20⟩:=l20;obtain⟨a21,_,F21⟩:=a21;obtain⟨a22,_,F22⟩:=a22;obtain⟨a23,_,F23⟩:=a23;obtain⟨a24,_,F24⟩:=a24;obtain⟨_,F25⟩:=l25;obtain⟨_,F26⟩:=l26;obtain⟨a27,_,F27⟩:=a27;obtain⟨a28,_,F28⟩:=a28;obtain⟨a29,_,F29⟩:=a29;obtain⟨a30,_,F30⟩:=a30;obtain⟨a31,_,F31⟩:=a31;obtain⟨a32,_,F32⟩:=a32;obtain⟨a33,_,F33⟩:=a33;obtain⟨a34,_,F34⟩:=a34;obtain⟨a35,_,F35⟩:=a35;obtain⟨a36,_,F36⟩:=a36;obtain⟨a37,_,F37⟩:=a37;obtain⟨a38,_,F38⟩:=a38;obtain⟨a39,_,F39⟩:=a39;obtain⟨a40,_,F40⟩:=a40;obtain⟨a41,_,F41⟩:=a41;obtain⟨a42,_,F42⟩:=a42;obtain⟨a43,_,F43⟩:=a43;obtain⟨a44,_,F44⟩:=a44;obtain⟨a45,_,F45⟩:=a45;obtain⟨a46,_,F46⟩:=a46;obtain⟨a47,_,F47⟩:=a47;obtain⟨a48,_,F48⟩:=a48;obtain⟨a49,_,F49⟩:=a49;obtain⟨a50,_,F50⟩:=a50;obtain⟨a51,_,F51⟩:=a51;obtain⟨_,F52⟩:=l52;obtain⟨_,F53⟩:=l53;obtain⟨_,F54⟩:=l54;obtain⟨_,F55⟩:=l55;obtain⟨_,F56⟩:=l56;obtain⟨_,F57⟩:=l57;obtain⟨_,F58⟩:=l58;obtain⟨_,F59⟩:=l59;obtain⟨_,F60⟩:=l60;obtain⟨_,F61⟩:=l61;obtain⟨_,F62⟩:=l62;obtain⟨_,F63⟩:=l63;obtain⟨_,F64⟩:=l64;obtain⟨_,F65⟩:=l65;obtain⟨_,F66⟩:=l66;obtain⟨_,F67⟩:=l67;obtain⟨_,F68⟩:=l68;obtain⟨_,F69⟩:=l69;obtain⟨a70,_,F70⟩:=a70;obtain⟨_,_,_,_,_,_,_,_,_,rfl,_,_⟩:=F70.ex;let KL:List (Addr×List (Key×V)):=[];have hkd:u6 l.prog w K (ee KL<|tV mg):=nU λp m=>by
  exact absurd (show p ∈ ([]:List (Addr×List (Key×V)))from m) zxB
 have T:Txt K (ee KL<|tV mg) mg ⟨_,_,_,_,_,_,_,_,_,_,_,_,_,_,_,_,_,_,_,_,_,_,_,_,_,_,_,_,_,_,_,_,_,_,_,_,_,_,_,_,_,_,_,_,_,_,_,_,_,_,_,_,_,_,_,_,_,_,_,_,_,_,_,_,_,_,_,_,_,_,_,_,_,_,_,_,_,_,_,_,_,_,_,_,_,_,_,_,_,_,_,_,_,_,_,_,_,_,_,_,_,_,_,_,_,_,_,_,_,_,_,_,_,_,_,_,_,_,_,_,_,_,_,_,_,_,_,_,_,_,_,_,_,_,_,_,_,_,_,_,_,_,_,_,_⟩:=⟨⟨F0,bs F0,W.mg_of X G a0⟩,⟨F1,bs F1,W.mg_of X G a1⟩,⟨F2,bs F2,W.mg_of X G a2⟩,⟨F3,bs F3,W.mg_of X G a3⟩,⟨F4,bs F4,W.mg_of X G a4⟩,⟨F5,bs F5,W.mg_of X G a5⟩,⟨F6,bs F6,W.mg_of X G a6⟩,⟨F7,bs F7,W.mg_of X G a7⟩,F8,b8,⟨F9,bs F9,W.mg_of X G a9⟩,F10,bs F10,⟨F11,bs F11,W.mg_of X G a11⟩,F12,bs F12,W.mg_of X G a12,⟨F13,bs F13,W.mg_of X G a13⟩,F14,bs F14,⟨F15,bs F15,W.mg_of X G a15⟩,F16,bs F16,⟨F17,bs F17,W.mg_of X G a17⟩,⟨F18,bs F18,W.mg_of X G a18⟩,⟨F19,bs F19,W.mg_of X G a19⟩,F20,bs F20,W.mg_of X G a20,⟨F21,bs F21,W.mg_of X G a21⟩,⟨F22,bs F22,W.mg_of X G a22⟩,⟨F23,bs F23,W.mg_of X G a23⟩,⟨F24,bs F24,W.mg_of X G a24⟩,F25,bs F25,W.mg_of X G a25,F26,bs F26,W.mg_of X G a26,⟨F27,bs F27,W.mg_of X G a27⟩,⟨F28,bs F28,W.mg_of X G a28⟩,⟨F29,bs F29,W.mg_of X G a29⟩,⟨F30,bs F30,W.mg_of X G a30⟩,⟨F31,bs F31,W.mg_of X G a31⟩,⟨F32,bs F32,W.mg_of X G a32⟩,⟨F33,bs F33,W.mg_of X G a33⟩,⟨F34,bs F34,W.mg_of X G a34⟩,⟨F35,bs F35,W.mg_of X G a35⟩,⟨F36,bs F36,W.mg_of X G a36⟩,⟨F37,bs F37,W.mg_of X G a37⟩,⟨F38,bs F38,W.mg_of X G a38⟩,⟨F39,bs F39,W.mg_of X G a39⟩,⟨F40,bs F40,W.mg_of X G a40⟩,⟨F41,bs F41,W.mg_of X G a41⟩,⟨F42,bs F42,W.mg_of X G a42⟩,⟨F43,bs F43,W.mg_of X G a43⟩,⟨F44,bs F44,W.mg_of X G a44⟩,⟨F45,bs F45,W.mg_of X G a45⟩,⟨F46,bs F46,W.mg_of X G a46⟩,⟨F47,bs F47,W.mg_of X G a47⟩,⟨F48,bs F48,W.mg_of X G a48⟩,⟨F49,bs F49,W.mg_of X G a49⟩,⟨F50,bs F50,W.mg_of X G a50⟩,⟨F51,bs F51,W.mg_of X G a51⟩,F52,bs F52,F53,bs F53,F54,bs F54,F55,bs F55,F56,bs F56,F57,bs F57,F58,bs F58,F59,bs F59,F60,bs F60,F61,bs F61,F62,bs F62,F63,bs F63,F64,bs F64,F65,bs F65,F66,bs F66,F67,bs F67,F68,bs F68,F69,bs F69,⟨F70,bs F70,W.mg_of X G a70⟩,⟨FV<|W.mg_of X G aC0,⟨pg0,hd0,po0,sa0⟩,mk0,kc0,W.mg_of X G aC0⟩,⟨FV<|W.mg_of X G aC1,⟨pg1,hd1,po1,sa1⟩,mk1,kc1,W.mg_of X G aC1⟩,⟨FV<|W.mg_of X G aC2,⟨pg2,hd2,po2,sa2⟩,mk2,kc2,W.mg_of X G aC2⟩,⟨e0,ei0,ek0⟩,⟨e1,ei1,ek1⟩,⟨e2,ei2,ek2⟩,⟨e3,ei3,ek3⟩,⟨e4,ei4,ek4⟩,⟨e5,ei5,ek5⟩,⟨e6,ei6,ek6⟩,⟨e7,ei7,ek7⟩,⟨e8,ei8,ek8⟩,⟨e9,ei9,ek9⟩,⟨e10,ei10,ek10⟩,⟨e11,ei11,ek11⟩,⟨e12,ei12,ek12⟩,⟨e13,ei13,ek13⟩,⟨e14,ei14,ek14⟩,⟨e15,ei15,ek15⟩,⟨e16,ei16,ek16⟩,⟨e17,ei17,ek17⟩,⟨e18,ei18,ek18⟩,⟨e19,ei19,ek19⟩,⟨e20,ei20,ek20⟩,⟨e21,ei21,ek21⟩,na0,na1,na2,na3,na4,na5,na6,na7,na8,na9,na10,na11,na12,na13,na14,na15,GC.int<|W.mg_of X G cg0,W.mg_none_of X G z0,W.mg_none_of X G z1,W.mg_none_of X G z2,W.mg_none_of X G z3,W.mg_none_of X G z4,W.mg_none_of X G z5,W.mg_none_of X G z6,W.mg_none_of X G z7,W.mg_none_of X G z8,W.mg_none_of X G z9,W.mg_none_of X G z10,W.mg_none_of X G z11,W.mg_none_of X G z12,W.mg_none_of X G z13⟩;exact⟨_,λs v=>.of_eq rfl,λbase _ _=>(kU T hkd).F.imp λvs H Q E h=>h _⟩
def walk{l:PySem.W.OpenLaw}{q:Program}{loose:List Str}{XP:(Str->Option Value)->Heap->Prop}{YP:World->Heap->Prop}{d:DefRec}{K:Params->zzA}(hn:l.most=some 63)(hdf:d.params.defaults=[])
 (hY:∀(w:World) (h:Heap),YP w h->(K w.params).In h) (hm:∀ns:List Int,ns.length<=63->Ed [(true,.lst<|ns.map D.int)]=some (.lf true<|.bl true))
 (F:∀(w:World) (mg:Str->Option Value) (fa:Addr) (h:Heap),(K w.params).In h->h.Ns mainGlobals mg->mg d.name=some (.ref fa)->
  ∃fd:FuncData,(∀(s:Shared) (u:Value),BindsTo s fd ⟨[u],[]⟩ [("_law_script",u)])/\∀base:Heap,(K w.params).In base->base.Ns mainGlobals mg->FnOk l.prog w (K w.params) mg base wV 50 fa fd ["_law_script"] (eC (K w.params) Ed)):
 PySem.W.WalkO q loose XP YP l.row.toRowW d [] (λf vs=>PySem.call f vs):=
 L2.walk_of (n:=63) (k:=50) (x:="_law_script") (CX:=λ_=>wV) (sp:=λw=>eC (K w.params) Ed) hn (by decide) hdf ⟨rfl,by decide,by decide,rfl⟩ hY F (λ_ _ a ns hl _ hS kd=>mF (hm ns hl) hS) λ_ _ _ _ _ z=>z
local macro_rules | `(tactic| trivial)=>`(tactic| first|with_reducible first|assumption|exact Int.natCast_nonneg _|exact Nat.le_refl _|exact Int.le_refl _|exact rfl|exact nj (by assumption)|exact nh (by assumption)|exact np2 (by assumption)|exact nq1 (by assumption)|exact nq2 (by assumption)|exact Int.natCast_pos.mpr (by assumption)|exact Nat.le_trans (by assumption) (by decide)|exact bgL _|exact bgU (by assumption)|exact mU (by assumption)|exact zI _|exact bL0 (by assumption)|exact bU0 (by assumption) (by assumption)|exact iL (by assumption)|exact iU (by assumption) (by assumption)|exact iC (by assumption)|exact iT (by assumption)|exact stL (by assumption)|exact stU (by assumption)|exact lnK (by assumption) (by assumption) (by assumption)|exact zi1 _|exact lnE (by assumption)|exact ltL (by assumption)|exact Int.toNat_of_nonneg (by assumption)|exact tS (by assumption) (by assumption)|exact b6 (by assumption)|exact Int.emod_nonneg _ (by decide)|exact Int.emod_lt_of_pos _ (by decide)|decide|omega)
section
variable{n m:Nat}{J T:TZ}{e:Int}{Ds:DD}{S:SS}
def O_(n8:n<=8)(hJ:Tab n n J)(he:zQ n e):J4 (Ye [(true,Zm n m J e Ds S)]) (fN n J e):=by
 refine J4.imp (P:=fN n J e/\True) (O6 rfl ?_) ⟨λz=>z.1,λz=>⟨z,trivial⟩⟩;have s1:zr true 1 (f2 zk yy zx) [sT<|Zm n m J e Ds S,none,none,none]=some _:=zJ (yt (za rfl) zb rfl)<|ze rfl;have s2:zr true 2 (f2 zk WW zx) [sT _,sT<|xD J,none,none]=some (.nx [sT<|Zm n m J e Ds S,sT<|xD J,sI e,none]):=zJ (yt (za rfl) zb rfl)<|ze rfl;have k:=Fp (g:=zy _) (oO (S:=λx y z=>[sT<|Zm n m J e Ds S,sT<|xD J,sI e,x]) (x:=none) (y:=none) (z:=none) (vj:=1) (ve:=2) hJ he (λ_ _ _=>rfl) (λ_ _ _=>rfl) (λ_ _ _=>rfl) λ_ _ _ _=>rfl) λ_ _ _=>F_;have hf:∀f:SF,yC (yG (aC (f2 zk zW zx) aN) yS) (gN 3) f [sT<|Zm n m J e Ds S,sT<|xD J,sI e,none]=forL (gN 3) f _ [sT _,sT<|xD J,sI e,none]:=λf=>yh (xu (zg (zw (za rfl) zb rfl rfl) zq) (by trivial)<|by trivial) (by rw[zyI]);have fin:∀x,Rt (zh (λas=>forL (gN 3) _ _ as) _ [sT _,sT<|xD J,sI e,none]) x->Rt (Z4 _) x:=λx h=>by
  refine zc s1<|zc s2 ?_;obtain⟨o,a,b⟩:=h;refine⟨o, ?_,b⟩;unfold zh at a ⊢;rw[hf];exact a
 rcases k with⟨k,p⟩|⟨⟨es,k⟩,p⟩
 . exact .inl ⟨fin _ k,p⟩
 . exact .inr ⟨⟨es,fin _ k⟩,p⟩
def HN(n8:n<=8)(hJ:Tab n n J):J4 (Yd [(true,Zm n m J e Ds S)]) (As n J):=by
 have s1:zr true 1 (f2 zk zW zx) [sT<|Zm n m J e Ds S,none,none,none,none,none]=some _:=zJ (yt (za rfl) zb rfl)<|ze rfl;have s2:zr true 2 (f2 zk yy zx) [sT<|Zm n m J e Ds S,sI n,none,none,none,none]=some _:=zJ (yt (za rfl) zb rfl)<|ze rfl;have k:=tL (S:=λx y z=>[sT<|Zm n m J e Ds S,sI n,sT<|xD J,x,y,z]) (x:=none) (y:=none) (z:=none) (vj:=2) (vn:=1) n8 hJ (λ_ _ _=>rfl) (λ_ _ _=>rfl) (λ_ _ _=>rfl) (λ_ _ _=>rfl) (λ_ _ _=>rfl) (λ_ _ _ _=>rfl) (λ_ _ _ _=>rfl) λ_ _ _ _=>rfl;rw[<-W6 (v:=1) rfl (by trivial)]at k;refine J4.imp (P:=As n J/\True) (O6 rfl ?_) ⟨λz=>z.1,λz=>⟨z,trivial⟩⟩
 rcases Fp k λ_ _ _=>F_ with⟨k,p⟩|⟨⟨es,k⟩,p⟩
 . exact .inl ⟨zc s1<|zc s2 k,p⟩
 . exact .inr ⟨⟨es,zc s1<|zc s2 k⟩,p⟩
def Dt(n8:n<=8)(m1:1<=m)(m6:m<=6)(hJ:Tab n n J)(hT:Tab m n T):J4 (XY [(true,Zm n m J e Ds S),(true,.str s),(true,xD T)]) (Dn n m J T):=by
 have k:Ku (forL (gN 6) (yC (yG (aC zY aN) yS) (gN 7)<|yC (yG v_ yS) (gN 8)<|yC (yG (aC zY aN) yS) (gN 9) ey) (yY 0 n)<|BQ n m J T e Ds S s none none none none) (λas=>∃x y z w,as=BQ n m J T e Ds S s x y z w) (Dn n m J T):=by
  refine Qi (fr:=yX) (λas=>∃x y z w,as=BQ n m J T e Ds S s x y z w) _ (λa ha as hI=>?_) ⟨_,_,_,_,rfl⟩;obtain⟨x,y,z,w,rfl⟩:=hI;refine⟨BQ n m J T e Ds S s (sI a) y z w,rfl, ?_⟩;rw[W6 rfl<|by trivial];have k:=Qi (v:=7) (fr:=yX) (f:=yC (yG v_ yS) (gN 8) _) (as:=BQ n m J T e Ds S s (sI a) y z w) (λas=>∃y z w,as=BQ n m J T e Ds S s (sI a) y z w) (λi=>∀b,zQ n b->∀k,zQ m k->yi T ((i+k)%m) (yi J a b)=yi J (yi T i a) (yi T k b)) (λi hi as hI=>by
   obtain⟨y,z,w,rfl⟩:=hI;refine⟨BQ n m J T e Ds S s (sI a) (sI i) z w,rfl, ?_⟩;rw[W6 rfl<|by trivial];have k:=Qi (v:=8) (fr:=yX) (f:=yC (yG (aC zY aN) yS) (gN 9) ey) (as:=BQ n m J T e Ds S s (sI a) (sI i) z w) (λas=>∃z w,as=BQ n m J T e Ds S s (sI a) (sI i) z w) (λb=>∀k,zQ m k->yi T ((i+k)%m) (yi J a b)=yi J (yi T i a) (yi T k b)) (λb hb as hI=>by
    obtain⟨z,w,rfl⟩:=hI;refine⟨BQ n m J T e Ds S s (sI a) (sI i) (sI b) w,rfl, ?_⟩;rw[W6 rfl<|by trivial]
    rcases bz hJ hT m1 ha hi hb with⟨as',k1,⟨w',rfl⟩,k3⟩|k
    . exact .inl ⟨_,k1,⟨_,_,rfl⟩,k3⟩
    . exact .inr k) ⟨_,_,rfl⟩
   rcases k with⟨as',k1,⟨z',w',rfl⟩,k3⟩|k
   . exact .inl ⟨_,k1,⟨_,_,_,rfl⟩,k3⟩
   . exact .inr k) ⟨_,_,_,rfl⟩
  rcases k with⟨as',k1,⟨y',z',w',rfl⟩,k3⟩|k
  . exact .inl ⟨_,k1,⟨_,_,_,_,rfl⟩,k3⟩
  . exact .inr k
 rw[<-W6 (v:=3) rfl (by trivial)]at k;have s3:zr true 3 (f2 zk zW zx) [sT<|Zm n m J e Ds S,sT<|.str s,sT<|xD T,none,none,none,none,none,none,none]=some _:=zJ (yt (za rfl) zb rfl)<|ze rfl;have s4:zr true 4 (f2 zk zL zx) [sT<|Zm n m J e Ds S,sT<|.str s,sT<|xD T,sI n,none,none,none,none,none,none]=some _:=zJ (yt (za rfl) zb rfl)<|ze rfl;have s5:zr true 5 (f2 zk yy zx) [sT<|Zm n m J e Ds S,sT<|.str s,sT<|xD T,sI n,sI m,none,none,none,none,none]=some _:=zJ (yt (za rfl) zb rfl)<|ze rfl;refine J4.imp (P:=Dn n m J T/\True) (O6 rfl ?_) ⟨λz=>z.1,λz=>⟨z,trivial⟩⟩
 rcases Fp k λ_ _ _=>F_ with⟨k,p⟩|⟨⟨es,k⟩,p⟩
 . exact .inl ⟨zc s3<|zc s4<|zc s5 k,p⟩
 . exact .inr ⟨⟨es,zc s3<|zc s4<|zc s5 k⟩,p⟩
def HQ(A:Alg n m J e Ds)(L:LawA n m J e Ds):RE (Wq [(true,Zm n m J e Ds S)]) .non:=by
 have n8:=A.n8;have m1:=A.m1;have s1:zr true 1 (f2 zk WW zx) [sT<|Zm n m J e Ds S,none,none,none,none]=some _:=zJ (yt (za rfl) zb rfl)<|ze rfl;obtain⟨as',hf,x,y,z,rfl⟩:=yP (g:=gT 2<|yH (gN 2)<|yH (gN 3) XI) (f:=(zh (y6 _ (zy _) yX)
  (zh _
  (y6 (fT<|f2 zY (fC .non)<|zz .IsNot) (zy zY) yX))))
  (λi as=>∃(x y z:Option O),as=[sT _,sI e,x,y,z])
  ((Ds.map Qj).map λd=>(true,d)) 0 [sT _,sI e,none,none,none] (λi x as hx' hI=>by
    obtain⟨x,y,z,rfl⟩:=hI;rw[zyB,zzI]at hx';obtain⟨p,hp,rfl⟩:=zzX.mp hx';have mp:=zyA hp;have hT:=A.ds p mp;obtain⟨q1,_⟩:=V4 (as:=[sT _,sI e,sT<|.str p.1,sT<|xD p.2,z]) hT ⟨by trivial,by trivial⟩ ⟨A.e0,A.en⟩ (za (i:=3) rfl) (zb)<|za (i:=1) rfl;have t1:=uW q1<|za (i:=1) rfl;rw[(L.ld p mp).em,show(!(e==e))=false by simp]at t1;have d:=(Dt (s:=p.1) (e:=e) (Ds:=Ds) (S:=S) n8 m1 A.m6 A.j hT).none<|L.dn mp;exact⟨_,rfl,_,zo (zp t1 rfl)<|zo (yJ (p:=4) (ya (WD.e<|za (i:=0) rfl) (WD.e<|za (i:=2) rfl) (WD.e<|za (i:=3) rfl) d)<|ze rfl)<|zp (yf (zw (za rfl) zb rfl rfl) rfl) rfl,_,_,_,rfl⟩)
  ⟨_,_,_,rfl⟩
 exact zH rfl<|zc s1<|zc (yh (CM<|yt (za rfl) zb rfl) hf)<|zA<|WD.e zb
def Jk(A:Alg n m J e Ds)(L:LawA n m J e Ds):RE (Wy [(true,Zm n m J e Ds S)]) .non:=by
 have r1:=(O_ (m:=m) (Ds:=Ds) (S:=S) A.n8 A.j ⟨A.e0,A.en⟩).none L.un;have r2:=(HN (m:=m) (e:=e) (Ds:=Ds) (S:=S) A.n8 A.j).none L.as;have r3:=HQ (S:=S) A L;have tt:WT (fT<|f2 zm (fC .non)<|zz .Is) [sT<|Zm n m J e Ds S,sT .non] true:=yf (zw (za rfl) zb rfl rfl) rfl;exact zH rfl<|zc (yJ (wU (WD.e<|za rfl) r1)<|ze rfl)<|zc (yL tt<|yJ (wU (WD.e<|za rfl) r2)<|ze rfl)<|zc (yL tt<|yJ (wU (WD.e<|za rfl) r3)<|ze rfl)<|zA<|WD.e<|za rfl
end
open L2 (Tx)
abbrev fW(p:Str×TZ):L2.Key×D:=(Sum.inr p.1,Zl p.2)
abbrev eJ(p:Str×List Int):L2.Key×D:=(Sum.inr p.1,K0 p.2)
abbrev gi:List Str:=["size","around","table","neutral","waits","holders"]
abbrev Uo(n m:Nat)(J:TZ)(e:Int)(Ds:DD)(S:SS):D:=.ob "Ways" gi [.int n,.int m,Zl J,.int e,.dct<|Ds.map fW,.dct<|S.map eJ]
def Wk{α:Type}{g}{l:List α}(h:WE f as (.lst<|l.map g)):xS f as=some (l.map λa=>(true,g a),as):=by
 have:=jb h;rw[zyB]at this;exact this
def C_{T:TZ}(hl:T.length<=1000):RE (FU [(true,xD T)]) (Zl T):=
 zH rfl (zA<|Px (Qg T (Wk<|WD.e<|za rfl) (q0t hl) λr _=>⟨_,rfl,Px (WD.e<|za rfl) rfl⟩) rfl)
section
variable{n m:Nat}{J:TZ}{e:Int}{Ds:DD}{S:SS}
def Dg(A:Alg n m J e Ds)(L:LawA n m J e Ds):RE (vK [(true,Zm n m J e Ds S)]) .non:=by
 have h:Xa (Zr 2 [(true,Zm n m J e Ds S)])=some _:=zo (yJ (wU (WD.e<|za rfl)<|Jk A L)<|ze rfl)<|zp (yf (zw (za rfl) zb rfl rfl) rfl) rfl;refine⟨.lf true .non, ?_,rfl,rfl⟩;unfold vK xJ;rw[if_pos (by rfl),h];rfl
def qR(A:Alg n m J e Ds)(L:LawA n m J e Ds)(sl:S.length<=4)(sn:(S.map (·.1)).Nodup):RE (vm "Ways" [(true,Zm n m J e Ds S)]) (Uo n m J e Ds S):=by
 have dl:=A.dl;have n8:=A.n8;have m6:=A.m6;have w1:∀o,WD zm [o,sT<|Zm n m J e Ds S] true (Zm n m J e Ds S):=λo=>za rfl;have h4:∀o,WE il [o,sT<|Zm n m J e Ds S] (.dct<|Ds.map fW):=λo=>
  mK A.nd (Qg Ds (Wk<|UF (WD.e<|w1 o) (WD.e zb) rfl) (q1W dl) λp mp=>⟨_,rfl,yu (WD.e<|za rfl)<|wU (WD.e<|za rfl)<|C_<|by rw[(A.ds p mp).1];exact q0M m6⟩)
 have h5:∀o,WE gY [o,sT<|Zm n m J e Ds S] (.dct<|S.map eJ):=λo=>
  mK sn (Qg S (Wk<|UF (WD.e<|w1 o) (WD.e zb) rfl) (by omega) λp mp=>⟨_,rfl,yu (WD.e<|za rfl)<|Px (WD.e<|za rfl) rfl⟩)
 have h:Yi (YM 2 (ku "Ways"::[(true,Zm n m J e Ds S)].map uZ))=some [some _,sT<|Zm n m J e Ds S]:=
  yE (Ah<|wU (WD.e<|w1 _)<|Dg A L) (yE (yQ (UF (WD.e<|w1 _) (WD.e zb) rfl) rfl (by decide +kernel) (by decide +kernel)<|by decide)<|yE (yQ (UF (WD.e<|w1 _) (WD.e zb) rfl) rfl (by decide +kernel) (by decide +kernel)<|by decide)<|yE (yQ (wU (UF (WD.e<|w1 _) (WD.e zb) rfl)<|C_<|by rw[A.j.1];exact q0j n8) rfl (by decide +kernel) (by decide +kernel)<|by decide)<|yE (yQ (UF (WD.e<|w1 _) (WD.e zb) rfl) rfl (by decide +kernel) (by decide +kernel)<|by decide)<|yE (yQ (h4 _) rfl (by decide +kernel) (by decide +kernel)<|by decide)<|yQ (h5 _) rfl (by decide +kernel) (by decide +kernel)<|by decide)
 refine⟨.nd (.ob "Ways" gi) [.lf true<|.int n,.lf true<|.int m,.lf true<|Zl J,.lf true<|.int e,.lf true<|.dct<|Ds.map fW,.lf true<|.dct<|S.map eJ], ?_,rfl,rfl⟩;unfold vm nu;rw[if_pos (by rfl),h];rfl
def Cj(hJ:Tab n n J)(ha:zQ n a)(hb:zQ n b):RE (QP [(true,Uo n m J e Ds S),(true,.int a),(true,.int b)]) (.int<|yi J a b):=
 zH rfl (zA<|WD.e<|uQ hJ ha hb (Oc rfl (by decide +kernel) rfl) (za rfl)<|za rfl)
end
structure Cx where
 n:Nat
 m:Nat
 J:TZ
 e:Int
 Ds:DD
 S:SS
abbrev Cx.w(c:Cx):D:=Uo c.n c.m c.J c.e c.Ds c.S
abbrev Cx.g(c:Cx):D:=Zm c.n c.m c.J c.e c.Ds c.S
abbrev Cx.h(c:Cx):List Int->Int:=Ig c.J c.e
abbrev Cx.In(c:Cx)(r:List Int):Prop:=∀x ∈ r,zQ c.n x
structure Cx.Ok(c:Cx):Prop where
 A:Alg c.n c.m c.J c.e c.Ds
 L:LawA c.n c.m c.J c.e c.Ds
structure Cx.W(c:Cx)(T:TZ):Prop where
 t:Tab c.m c.n T
 l:LD c.n c.m (yi c.J) c.e (yi T)
def N5:Option TZ->D
 |none=>.non
 |some T=>Zl T
def Cx.wok(c:Cx):Option TZ->Prop
 |none=>True
 |some T=>c.W T
def Cx.ap(c:Cx):Option TZ->List Int->List Int
 |none,r=>r
 |some T,r=>r.map<|yi T<|1%(c.m:Int)
def tn:Bool->List Int->List Int
 |false,r=>r
 |true,r=>r.reverse
noncomputable abbrev gG:List Str:=["whole","back","wait","turn","one","other","deep","size"]
abbrev kn(w b:Int)(q:D)(t:Bool)(x y:D)(p s:Int):D:=.ob "Knot" gG [.int w,.int b,q,.bl t,x,y,.int p,.int s]
inductive TK(c:Cx):D->List Int->Nat->Prop
 |lf (v:Int) (t:Bool):zQ c.n v->TK c (kn v v .non t .non .non 0 1) [v] 0
 |nd (w:Option TZ) (t:Bool) {x y:D}{r s:List Int}{p q:Nat}{R:List Int}:TK c x r p->TK c y s q->p<=q+1->q<=p+1->c.wok w->R=tn t (c.ap w (r++s))->TK c (kn (c.h R) (c.h R.reverse) (N5 w) t x y ((1+max p q:Nat):Int) (R.length:Int)) R (1+max p q)
section
variable{c:Cx}{d:D}{R:List Int}{p:Nat}
def W3(w)(r):(c.ap w r).length=r.length:=by cases w with
 |none=>rfl
 |some T=>exact zzB ..
def BF(t)(r):(tn t r).length=r.length:=by cases t with
 |false=>rfl
 |true=>exact List.length_reverse ..
def Ci(w)(r s):c.ap w (r++s)=c.ap w r++c.ap w s:=by cases w with
 |none=>rfl
 |some T=>exact zyM ..
def pM(w)(t)(r):c.ap w (tn t r)=tn t (c.ap w r):=by cases w with
 |none=>rfl
 |some T=>cases t with
  |false=>rfl
  |true=>exact List.map_reverse ..
def gB(t u)(r):tn t (tn u r)=tn (u != t) r:=by cases t<;>cases u<;>first|rfl|exact List.reverse_reverse r
theorem Cx.Ok.m1(h:c.Ok):zQ c.m (1%(c.m:Int)):=Uv h.A.m1
def gA(h:c.Ok)(hw:c.wok w)(k:c.In r):c.In (c.ap w r):=by cases w with
 |none=>exact k
 |some T=>
  intro x mx;obtain⟨z,mz,rfl⟩:=zxD.mp mx;exact hw.l.cl _ _ h.m1<|k z mz
def pA(k:c.In r):c.In (tn t r):=by cases t with
 |false=>exact k
 |true=>exact λx mx=>k x<|List.mem_reverse.mp mx
def Cb(k:c.In r)(l:c.In s):c.In (r++s):=λx mx=>(zzM.mp mx).elim (k x)<|l x
def TK.in(h:c.Ok):TK c d R p->c.In R:=λk=>by
 induction k with
 |lf v t hv=>exact λx mx=>by rcases zzC.mp mx with rfl|mx;exact hv;exact nomatch mx
 |nd w t a b _ _ hw e i j=>subst e;exact pA<|gA h hw<|Cb i j
def TK.rev(h:c.Ok)(k:TK c d R p):c.In R.reverse:=pA (t:=true)<|k.in h
def fb:Nat->Nat
 |0=>1
 |1=>2
 |k+2=>fb (k+1)+fb k
def jV:∀k,fb k<=fb (k+1)
 |0=>by decide
 |k+1=>by show _<=fb (k+1)+fb k;exact q0v
def pd{a b:Nat}(h:a<=b):fb a<=fb b:=by
 induction h with
 |refl=>exact zzN _
 |step _ i=>exact zzO i (jV _)
theorem TK.fb(k:TK c d R p):fb p<=R.length:=by
 induction k with
 |lf=>exact zzN _
 | @nd w t x y r s p q R a b h1 h2 hw e i j=>
  subst e;rw[BF,W3,zzJ]
  by_cases h:q<=p
  . rw[Nat.max_eq_left h,Nat.add_comm 1 p];cases p with
    |zero=>rw[show q=0 by omega]at j;exact Nat.add_le_add i j
    |succ p=>
     have:G44.fb p<=G44.fb q:=pd (by omega);show G44.fb _+G44.fb p<=_;omega
  . rw[Nat.max_eq_right (by omega),Nat.add_comm 1 q,show q=p+1 from q1V h2 h1 h];rw[show q=p+1 from q1V h2 h1 h]at j;show G44.fb _+G44.fb p<=_;omega
def TK.lt(k:TK c d R p)(hl:R.length<=1000):p<20:=by
 refine Nat.lt_of_not_le λh=>?_;have h1:=k.fb;have h2:=pd h;have:G44.fb 20=17711:=by decide
 omega
def TK.gt(k:TK c d R p):∃q t x y,d=kn (c.h R) (c.h R.reverse) q t x y p R.length:=by
 cases k with
 |lf v t _=>exact⟨_,_,_,_,rfl⟩
 |nd w t=>exact⟨_,_,_,_,rfl⟩
def W7(h:WD a as true (kn w b q t x y p s))(hc:("Knot":Str) ∈ cs)(hl:HJ gG [.int w,.int b,q,.bl t,x,y,.int p,.int s] f=some v):WD (f1 a<|zP cs f) as true v:=by
 have:=Tb h hc hl;rw[zyD]at this;exact this
variable{a:EF}{as:AS}
theorem TK.whole(k:TK c d R p)(ha:WD a as true d):WD (f1 a<|zP vZ "whole") as true (.int<|c.h R):=by
 obtain⟨q,t,x,y,rfl⟩:=k.gt;exact W7 ha (by decide +kernel) rfl
theorem TK.back(k:TK c d R p)(ha:WD a as true d):WD (f1 a<|zP Wp "back") as true (.int<|c.h R.reverse):=by
 obtain⟨q,t,x,y,rfl⟩:=k.gt;exact W7 ha (by decide +kernel) rfl
theorem TK.deep(k:TK c d R p)(ha:WD a as true d):WD (f1 a<|zP yF "deep") as true (.int p):=by
 obtain⟨q,t,x,y,rfl⟩:=k.gt;exact W7 ha (by decide +kernel) rfl
theorem TK.size(k:TK c d R p)(ha:WD a as true d):WD (f1 a<|zP xU "size") as true (.int R.length):=by
 obtain⟨q,t,x,y,rfl⟩:=k.gt;exact W7 ha (by decide +kernel) rfl
def TK.isN(k:TK c d R p)(ha:WD a as true d):WT (fT<|f2 a (fC .non)<|zz .Is) as false:=by
 obtain⟨q,t,x,y,rfl⟩:=k.gt;exact yf (zw ha zb rfl rfl) rfl
def TK.isS(k:TK c d R p)(ha:WD a as true d):WT (fT<|f2 a (fC .non)<|zz .IsNot) as true:=by
 obtain⟨q,t,x,y,rfl⟩:=k.gt;exact yf (zw ha zb rfl rfl) rfl
def TK.zero(k:TK c d R p)(ha:WD a as true d):WT (fT<|f2 (f1 a<|zP yF "deep") zW<|zz .Eq) as (decide (p=0)):=yf (UL (k.deep ha) zb (by
 show some _=_
 by_cases h:p=0
 . subst h;rfl
 . rw[zyG h,beq_eq_false_iff_ne.mpr<|by omega])) rfl
end
section
variable{n m:Nat}{J:TZ}{e:Int}{Ds:DD}{S:SS}
def IL(h1:Tab m n W1)(h2:Tab m n W2)(m6:m<=6)(n8:n<=8):RE (XX [(true,x),(true,Zl W1),(true,Zl W2)]) (Zl<|bh W1 W2):=by
 have hz:VR (aC zm Zx) [sT x,sT<|Zl W1,sT<|Zl W2]=some ((W1.zip W2).map λq=>(true,.tup [K0 q.1,K0 q.2]),[sT x,sT<|Zl W1,sT<|Zl W2]):=by
  have:=ui (as:=[sT x,sT<|Zl W1,sT<|Zl W2]) (WD.e<|za (i:=1) rfl) (WD.e<|za (i:=2) rfl) (.t _)<|.t _;rw[this,List.zip_map,zyB];rfl
 have:=Qg (cap:=[none,none]) (gg:=gT 2<|yH xm<|yH (gN 1) XI) (fe:=fP (aC JZ aN) tupP) _ hz (by rw[List.length_zip,h1.1];omega) (λq mq=>by
  obtain⟨q1,q2⟩:=List.of_mem_zip mq;have r1:=h1.2 _ q1;have r2:=h2.2 _ q2;refine⟨_,rfl,Px (Qg (it:=λa=>(true,D.int a)) q.1 ?_ (by rw[r1.1];exact q1X n8) λa ma=>⟨_,rfl,WD.e<|zw (za rfl) (za rfl) (jR r2<|r1.2 a ma) rfl⟩) ?_⟩
  . have:=o_ (as:=[sT<|K0 q.1,sT<|K0 q.2])<|WD.e<|za (i:=0) rfl;rw[zyB]at this;exact this
  . show _=some (R0.im<|.tup<|(q.1.map<|Zw q.2).map D.int);rw[zyB];rfl)
 refine zH rfl<|zA<|Px this ?_;show _=some (R0.im<|.tup<|((W1.zip W2).map λp=>p.1.map<|Zw p.2).map K0);rw[zyB];rfl
def ID(m1:1<=m)(h1:Tab m n W)(hv:zQ n v):QF [(true,Uo n m J e Ds S),(true,Zl W),(true,.int v),(true,.int k)]=sI (yi W (k%m) v):=by
 have wa:WD (f1 zk<|zP Q7 "around") [sT<|Uo n m J e Ds S,sT<|Zl W,sI v,sI k] true (.int m):=Oc rfl (by decide +kernel) rfl;exact xo rfl<|yT<|uQ h1 (Uv m1) hv (za rfl) (zV (za rfl) wa<|q0o m1)<|za rfl
end
def NC(ha:WE a as x)(hb:WE b as y)(hc:WE c as z)(hd:WE d as u)(he:WE e as v)(hf:WE f as w)(hg:RE (g [(true,x),(true,y),(true,z),(true,u),(true,v),(true,w)]) o):WE (zj (aC a<|aC b<|aC c<|aC d<|aC e<|aC f aN) g) as o:=by
 obtain⟨o,h1,h2⟩:=hg;exact⟨o,Zh (y_ ha<|y_ hb<|y_ hc<|y_ hd<|y_ he<|y_ hf zq) (by show g [(zB x||true,x),_,_,_,_,_]=_;simp only[zyD];exact h1),h2⟩
abbrev k7(ns:List Str)(os:List O)(w b:Int)(a:D)(t:Bool)(x y:D):AS:=[some<|.nd (.ob "Knot" ns) os,sI w,sI b,sT a,sT<|.bl t,sT x,sT y]
def pG(hd:∀ns os,WE kY (k7 ns os w b a t x y)<|.int p)
 (hz:∀ns os,WE jY (k7 ns os w b a t x y)<|.int s):
 RE (ym "Knot" [(true,.int w),(true,.int b),(true,a),(true,.bl t),(true,x),(true,y)]) (kn w b a t x y p s):=by
 have v:∀i d ns os,_[i]? = some (sT d)->WE (fV i) (k7 ns os w b a t x y) d:=λi d ns os h=>WD.e<|za h;have h:Yb (YM 7 (ku "Knot"::[(true,.int w),(true,.int b),(true,a),(true,.bl t),(true,x),(true,y)].map uZ))=some _:=
  yE (yQ (v 1 _ _ _ rfl) rfl (by decide +kernel) (by decide +kernel)<|by decide)
  (yE (yQ (v 2 _ _ _ rfl) rfl (by decide +kernel) (by decide +kernel)<|by decide)
  (yE (yQ (v 3 _ _ _ rfl) rfl (by decide +kernel) (by decide +kernel)<|by decide)
  (yE (yQ (v 4 _ _ _ rfl) rfl (by decide +kernel) (by decide +kernel)<|by decide)
  (yE (yQ (v 5 _ _ _ rfl) rfl (by decide +kernel) (by decide +kernel)<|by decide)
  (yE (yQ (v 6 _ _ _ rfl) rfl (by decide +kernel) (by decide +kernel)<|by decide)
  (yE (yQ (hd _ _) rfl (by decide +kernel) (by decide +kernel)<|by decide)
  (yQ (hz _ _) rfl (by decide +kernel) (by decide +kernel)<|by decide)))))))
 refine⟨.nd (.ob "Knot" gG) [.lf true<|.int w,.lf true<|.int b,.lf true a,.lf true<|.bl t,.lf true x,.lf true y,.lf true<|.int p,.lf true<|.int s], ?_,rfl,rfl⟩;unfold ym nu;rw[if_pos (by rfl),h];rfl
def He:RE (ym "Knot" [(true,.int w),(true,.int b),(true,a),(true,.bl t),(true,.non),(true,.non)]) (kn w b a t .non .non 0 1):=
 pG (λ_ _=>Fs (yf (zw (za rfl) zb rfl rfl) rfl)<|WD.e zb) λ_ _=>Fs (yf (zw (za rfl) zb rfl rfl) rfl)<|WD.e zb
section
variable{c:Cx}{x y d:D}{r s R:List Int}{p q:Nat}
def NQ(k:TK c x r p)(l:TK c y s q):RE (ym "Knot" [(true,.int w),(true,.int b),(true,a),(true,.bl t),(true,x),(true,y)]) (kn w b a t x y ((1+max p q:Nat):Int) ((r.length+s.length:Nat):Int)):=by
 have v5:∀ns os,WD yB (k7 ns os w b a t x y) true x:=λ_ _=>za rfl;have v6:∀ns os,WD wR (k7 ns os w b a t x y) true y:=λ_ _=>za rfl;refine pG (λns os=>Bi (k.isN<|v5 _ _) ?_) λns os=>Bi (k.isN<|v5 _ _) ?_
 . have h:=zE (zb (x:=.int 1))<|yx (g:=HA) (zg (k.deep<|v5 ns os)<|zg (l.deep<|v6 ns os) zq) rfl rfl;rw[show((1+max p q:Nat):Int)=1+(if(q:Int) > p then(q:Int)else p) by split<;>omega];exact WD.e h
 . have h:=zE (k.size<|v5 ns os)<|l.size<|v6 ns os;rw[show((r.length+s.length:Nat):Int)=r.length+s.length by omega];exact WD.e h
def Ir:RE (Q4 [(true,.int v)]) (kn v v .non false .non .non 0 1):=
 zH rfl (zA<|NC (WD.e<|za rfl) (WD.e<|za rfl) (WD.e zb) (WD.e zb) (WD.e zb) (WD.e zb) He)
def TK.mk(h:c.Ok)(w)(t)(hw:c.wok w)(k:TK c x r p)(l:TK c y s q)(h1:p<=q+1)(h2:q<=p+1)(hu:u=c.h (tn t<|c.ap w<|r++s))(hv:v=c.h (tn t<|c.ap w<|r++s).reverse):TK c (kn u v (N5 w) t x y ((1+max p q:Nat):Int) ((r.length+s.length:Nat):Int)) (tn t<|c.ap w<|r++s) (1+max p q):=by
 have:=TK.nd w t k l h1 h2 hw rfl;rw[BF,W3,zzJ]at this;rw[hu,hv];exact this
def wD(h:c.Ok)(k:TK c x r p)(l:TK c y s q)(h1:p<=q+1)(h2:q<=p+1):∃d,RE (yr [(true,c.w),(true,x),(true,y)]) d/\TK c d (r++s) (1+max p q):=by
 have v1:WD zm [sT c.w,sT x,sT y] true x:=za rfl;have v2:WD zD [sT c.w,sT x,sT y] true y:=za rfl;have wy:WD zk [sT c.w,sT x,sT y] true c.w:=za rfl;have w1:=Se (tbl:=WY) (m:="join") wy (by decide +kernel) rfl (WD.e<|k.whole v1) (WD.e<|l.whole v2)<|Cj h.A.j (XF h.L.lj<|k.in h)<|XF h.L.lj<|l.in h;have w2:=Se (tbl:=WY) (m:="join") wy (by decide +kernel) rfl (WD.e<|l.back v2) (WD.e<|k.back v1)<|Cj h.A.j (XF h.L.lj<|l.rev h)<|XF h.L.lj<|k.rev h;refine⟨_,zH rfl<|zA<|NC w1 w2 (WD.e zb) (WD.e zb) (WD.e v1) (WD.e v2)<|NQ k l,TK.mk h none false trivial k l h1 h2 ?_ ?_⟩
 . exact(D2 h.L.lj (k.in h)<|l.in h).symm
 . show _=c.h (r++s).reverse;rw[List.reverse_append];exact(D2 h.L.lj (l.rev h)<|k.rev h).symm
def CT(h:c.Ok)(hw:c.wok w)(hu:c.wok u):∃v,RE (WH [(true,c.w),(true,N5 w),(true,N5 u)]) (N5 v)/\c.wok v/\∀r,c.In r->c.ap v r=c.ap u (c.ap w r):=by
 cases w with
 |none=>exact⟨u,zH rfl<|yk<|yK (yf (zw (za rfl) zb rfl rfl) rfl)<|zA<|WD.e<|za rfl,hu,λ_ _=>rfl⟩
 |some A=>
  have t1:∀z,WT (fT<|f2 zm (fC .non)<|zz .Is) [sT c.w,sT<|Zl A,z] false:=λz=>yf (zw (za rfl) zb rfl rfl) rfl;cases u with
  |none=>exact⟨some A,zH rfl<|zc (zp (t1 _) rfl)<|yk<|yK (yf (zw (za rfl) zb rfl rfl) rfl)<|zA<|WD.e<|za rfl,hw,λ_ _=>rfl⟩
  |some B=>
   have m1:=h.m1;have at':∀{i a:Int},zQ c.m i->zQ c.n a->yi (bh A B) i a=yi B i _:=λhi ha=>jm hw.t hu.t hi ha;refine⟨some<|bh A B,zH rfl<|zc (zp (t1 _) rfl)<|zc (zp (yf (zw (za rfl) zb rfl rfl) rfl) rfl)<|zA<|Se (za rfl) (by decide +kernel) rfl (WD.e<|za rfl) (WD.e<|za rfl)<|IL hw.t hu.t h.A.m6 h.A.n8,⟨nO hw.t hu.t, ?_⟩,λr hr=>?_⟩
   . have he:=h.L.lj.ce;have h0:zQ c.m 0:=⟨Int.le_refl _,Int.natCast_pos.mpr h.A.m1⟩;refine⟨λi a hi ha=>?_, ?_,λa i b k ha hi hb hk=>?_⟩
     . rw[at' hi ha];exact hu.l.cl _ _ hi<|hw.l.cl _ _ hi ha
     . rw[at' h0 he,hw.l.em,hu.l.em]
     . rw[at' (Uv h.A.m1)<|h.L.lj.cl _ _ ha hb,at' hi ha,at' hk hb,hw.l.dn a i b k ha hi hb hk,hu.l.dn _ i _ k (hw.l.cl _ _ hi ha) hi (hw.l.cl _ _ hk hb) hk]
   . show _=(r.map _).map _;rw[zyB];exact List.map_congr_left λa ma=>at' m1<|hr a ma
def BO(h:c.Ok)(hT:c.W T)(k:TK c d R p):∃d',RE (Zs [(true,c.w),(true,d),(true,Zl T)]) d'/\TK c d' (c.ap (some T) R) p:=by
 have v1:∀a b,WD zm [sT c.w,sT d,sT<|Zl T,a,b] true d:=λ_ _=>za rfl;have mk:∀{v:Int}{j:EF}{a b:Option O},zQ c.n v->WE j [sT c.w,sT d,sT<|Zl T,a,b] (.int v)->WE (xM PR "made" zk _) [sT c.w,sT d,sT<|Zl T,a,b] _:=λhv hj=>
  q8 (za rfl) (by decide +kernel) rfl (WD.e<|za (i:=2) rfl) hj (WD.e<|k.size<|v1 _ _) (RE.lf<|ID h.A.m1 hT.t hv)
 have e1:=BU h.A.m1 h.L.lj hT.l R<|k.in h;have e2:=BU h.A.m1 h.L.lj hT.l R.reverse<|k.rev h;rw[List.length_reverse]at e2;have s3:=yJ (p:=3) (mk (a:=none) (b:=none) (XF h.L.lj<|k.in h)<|WD.e<|k.whole<|v1 _ _)<|ze rfl;rw[<-e1]at s3;have s4:=yJ (p:=4) (mk (a:=sI<|Ig c.J c.e<|R.map<|yi T<|1%c.m) (b:=none) (XF h.L.lj<|k.rev h)<|WD.e<|k.back<|v1 _ _)<|ze rfl;rw[<-e2]at s4;have t0:=k.zero<|v1 (sI<|Ig c.J c.e<|R.map<|yi T<|1%(c.m:Int)) none;cases k with
 |lf v t hv=>
  exact⟨_,zH rfl<|zc (zp ((TK.lf v t hv).isN<|za rfl) rfl)<|zc s3<|yk<|yK t0<|zA<|wU (WD.e<|za rfl) Ir,TK.lf _ false<|hT.l.cl _ _ h.m1 hv⟩
 | @nd w t x y r s p q R k l h1 h2 hw e=>
  obtain⟨v,b1,b2,b3⟩:=CT h hw (show c.wok (some T)from hT);have kk:=TK.nd w t k l h1 h2 hw e;rw[zyG<|q1j h1 h2]at t0;have f:∀{cs:List Str}{n:Str}{z:D}(a b:Option O),("Knot":Str) ∈ cs->HJ gG [.int<|c.h R,.int<|c.h R.reverse,N5 w,.bl t,x,y,.int ((1+max p q:Nat):Int),.int R.length] n=some z->WE (f1 zm<|zP cs n) [sT c.w,sT _,sT<|Zl T,a,b] z:=λa b hc hl=>WD.e<|W7 (v1 a b) hc hl;have eR:c.ap (some T) R=tn t (c.ap v<|r++s):=by rw[e,pM,b3 _<|Cb (k.in h)<|l.in h]
  refine⟨_,zH rfl<|zc (zp (kk.isN<|za rfl) rfl)<|zc s3<|zc (zp t0 rfl)<|zc s4<|zA<|NC (WD.e<|za rfl) (WD.e<|za rfl) (ya (WD.e<|za rfl) (f _ _ (by decide +kernel) rfl) (WD.e<|za rfl) b1) (f _ _ (by decide +kernel) rfl) (f _ _ (by decide +kernel) rfl) (f _ _ (by decide +kernel) rfl)<|NQ k l, ?_⟩;have:=TK.mk h v t b2 k l h1 h2 (u:=Ig c.J c.e<|R.map<|yi T<|1%c.m) (v:=Ig c.J c.e<|R.reverse.map<|yi T<|1%c.m) (by rw[<-eR];rfl) (by rw[<-eR,List.map_reverse];rfl);rw[<-eR]at this;exact this
def T_(h:c.Ok)(k:TK c d R p):∃d',RE (wA [(true,c.w),(true,d)]) d'/\TK c d' R.reverse p:=by
 have v1:WD zm [sT c.w,sT d] true d:=za rfl;have w1:=WD.e<|k.back v1;have w2:=WD.e<|k.whole v1;have n0:=k.isN v1;cases k with
 |lf v t hv=>
  exact⟨_,zH rfl<|zc (zp n0 rfl)<|zA<|NC w1 w2 (WD.e<|W7 v1 (by decide +kernel) rfl) (WD.e<|uM<|W7 v1 (by decide +kernel) rfl) (WD.e<|W7 v1 (by decide +kernel) rfl) (WD.e<|W7 v1 (by decide +kernel) rfl) He,TK.lf _ _ hv⟩
 | @nd w t x y r s p q R k l h1 h2 hw e=>
  refine⟨_,zH rfl<|zc (zp n0 rfl)<|zA<|NC w1 w2 (WD.e<|W7 v1 (by decide +kernel) rfl) (WD.e<|uM<|W7 v1 (by decide +kernel) rfl) (WD.e<|W7 v1 (by decide +kernel) rfl) (WD.e<|W7 v1 (by decide +kernel) rfl)<|NQ k l, ?_⟩;have eR:R.reverse=tn (!t) (c.ap w<|r++s):=by
   rw[e];cases t with
   |false=>rfl
   |true=>exact List.reverse_reverse _
  have:=TK.mk h w (!t) hw k l h1 h2 (by rw[<-eR]) (by rw[<-eR,List.reverse_reverse]);rw[<-eR]at this;exact this
def Y7(h:c.Ok)(k:TK c d R p)(hp:p≠0):∃x y r s u v,RE (vt [(true,c.w),(true,d)]) (.tup [x,y])/\TK c x r u/\TK c y s v/\u<=v+1/\v<=u+1/\p=1+max u v/\R=r++s:=by
 cases k with
 |lf=>exact absurd rfl hp
 | @nd w t x y r s p q R k l h1 h2 hw e=>
  have v1:∀a b,WD zm [sT c.w,sT _,a,b] true (kn (c.h R) (c.h R.reverse) (N5 w) t x y ((1+max p q:Nat):Int) R.length):=λ_ _=>za (i:=1) rfl;have s2:=zJ (i:=2) (st:=true) (W7 (cs:=Qs) (f:="one") (v1 none none) (by decide +kernel) rfl)<|ze rfl;have s3:=zJ (i:=3) (st:=true) (W7 (cs:=ZR) (f:="other") (v1 (sT x) none) (by decide +kernel) rfl)<|ze rfl;obtain⟨x',y',q1,q2,q3⟩:∃x' y',y6 (fT<|f2 (f1 zm<|zP ZH "wait") (fC .non)<|zz .IsNot) _ yX [sT c.w,sT<|kn (c.h R) (c.h R.reverse) (N5 w) t x y ((1+max p q:Nat):Int) R.length,sT x,sT y]=some (.nx [sT c.w,sT<|kn (c.h R) (c.h R.reverse) (N5 w) t x y ((1+max p q:Nat):Int) R.length,sT x',sT y'])/\TK c x' (c.ap w r) p/\TK c y' (c.ap w s) q:=by
   cases w with
   |none=>exact⟨x,y,zp (yf (zw (W7 (v1 _ _) (by decide +kernel) rfl) zb rfl rfl) rfl) rfl,k,l⟩
   |some T=>
    obtain⟨x',a1,a2⟩:=BO h hw k;obtain⟨y',b1,b2⟩:=BO h hw l;have wt:∀a b,WE (f1 zm<|zP ZH "wait") [sT c.w,sT _,a,b] (Zl T):=λa b=>WD.e<|W7 (v1 a b) (by decide +kernel) rfl;exact⟨x',y',yL (yf (Jv (wt _ _) (WD.e zb) rfl) rfl)<|zo (yJ (p:=2) (ya (WD.e<|za (i:=0) rfl) (WD.e<|za (i:=2) rfl) (wt _ _) a1)<|ze rfl)<|yJ (p:=3) (ya (WD.e<|za (i:=0) rfl) (WD.e<|za (i:=3) rfl) (wt _ _) b1)<|ze rfl,a2,b2⟩
  have tt:WT (fT<|f1 zm<|zP Xx "turn") [sT c.w,sT _,sT x',sT y'] t:=yf (W7 (v1 _ _) (by decide +kernel) rfl) rfl;cases t with
  |false=>exact⟨x',y',_,_,p,q,zH rfl<|zc s2<|zc s3<|zc q1<|zc (zp tt rfl)<|zA<|yu (WD.e<|za rfl)<|WD.e<|za rfl,q2,q3,h1,h2,rfl,by rw[e,Ci];rfl⟩
  |true=>
   obtain⟨x'',a1,a2⟩:=T_ h q2;obtain⟨y'',b1,b2⟩:=T_ h q3;exact⟨y'',x'',_,_,q,p,zH rfl<|zc s2<|zc s3<|zc q1<|yk<|yK tt<|zA<|yu (y8 (WD.e<|za rfl) (WD.e<|za rfl) b1)<|y8 (WD.e<|za rfl) (WD.e<|za rfl) a1,b2,a2,h2,h1,by rw[Nat.max_comm],by rw[e,Ci];exact List.reverse_append⟩
end
def pH(h:WD f as true (.tup ds)):Zq f as=some (ds.map λd=>(true,d),as):=by
 unfold Zq;unfold WD at h;rw[h];show some (kids true ds,as)=_;rw[QQ]
def Eo{i:Nat}(h1:fr as=some (rs,as))(h2:B6 i rs=some xs)(h3:as[i]? = some (some o))(h4:g xs o=some r):WZ i fr g as=some (.nx<|as.set i<|some r):=by
 unfold WZ;rw[h1];show(B6 i rs).bind _=_;rw[h2];show _=_;rw[h3];show(g xs o).bind _=_;rw[h4];rfl
def fI(hd:zB d=true)(h:WE f as d):WD f as true d:=by
 obtain⟨o,h,h1,h2⟩:=h;cases o with
 |lf s x=>subst h2;rw[show s=true from h1]at h;exact h
 |nd k os=>subst h2;cases k<;>cases hd
def tI(h:WE f as (.bl k)):WT (fT f) as k:=yf (fI rfl h) rfl
section
variable{c:Cx}{x y d:D}{r s R:List Int}{p q:Nat}
abbrev g9(c:Cx)(d:D)(w:Option TZ)(t:Bool)(acc:List Int)(a b e f:Option O):AS:=[sT c.w,sT d,sT<|N5 w,sT<|.bl t,some<|xO acc,a,b,e,f]
def ir(acc)(v):acc.map BY++[BY v]=(acc++[v]).map BY:=by rw[zyM];rfl
theorem ET(h:c.Ok):∀(k:Nat) {d:D}{R:List Int}{p:Nat}(w:Option TZ) (t:Bool) (acc:List Int),TK c d R p->c.wok w->p<k->acc.length+R.length<=1000->xW k [(true,c.w),(true,d),(true,N5 w),(true,.bl t)] (xO acc)=some (xO<|acc++tn t (c.ap w R))
 |0,_,_,_,_,_,_,_,_,h,_=>absurd h (Nat.not_lt_zero _)
 |n+1,d,R,p,w,t,acc,k,hw,hp,hl=>by
  obtain⟨a',b',e',f',run⟩:∃a b e f,Nq (xW n) (g9 c d w t acc none none none none)=some (.nx<|g9 c d w t (acc++tn t (c.ap w R)) a b e f):=by
   have v1:∀a b e f,WD zm (g9 c d w t acc a b e f) true d:=λ_ _ _ _=>za (i:=1) rfl;have t0:=k.zero<|v1 none none none none;have wh:=k.whole<|v1 none none none none;have al:acc.length<1001:=by omega
   cases k with
   |lf v b hv=>
    have wv:∃u,[u]=tn t (c.ap w [v])/\WD iB (g9 c (kn v v .non b .non .non 0 1) w t acc none none none none) true (.int u):=by
     cases w with
     |none=>exact⟨v,by cases t<;>rfl,lr (yf (zw (a:=fV 2) (za (i:=2) rfl) zb rfl rfl) rfl) wh⟩
     |some T=>exact⟨yi T (1%(c.m:Int)) v,by cases t<;>rfl,mI (yf (zw (a:=fV 2) (za (i:=2) rfl) zb rfl rfl) rfl)<|fI rfl<|q8 (za (i:=0) rfl) (by decide +kernel) rfl (WD.e<|za (i:=2) rfl) (WD.e wh) (WD.e zb)<|RE.lf<|ID (k:=1) h.A.m1 hw.t hv⟩
    obtain⟨u,e,wv⟩:=wv;refine⟨none,none,none,none,yL t0 ?_⟩;rw[Dj (i:=4) rfl (by rw[zzB];exact zzK al<|JA<|by decide) wv,<-e];show some (Out.nx [_,_,_,_,some _,_,_,_,_])=_;rw[ir]
   | @nd u b x y r s p q R k l h1 h2 hu e=>
    rw[zyG<|q1j h1 h2]at t0;obtain⟨v,b1,b2,b3⟩:=CT h hu hw;have hR:R.length=r.length+s.length:=by rw[e,BF,W3,zzJ]
    have eR:tn t (c.ap w R)=tn (b != t) (c.ap v r++c.ap v s):=by rw[e,pM,gB,<-b3 _ (Cb (k.in h)<|l.in h),Ci]
    rw[eR];have f:∀{cs:List Str}{n:Str}{z:D}(a b' e f:Option O),("Knot":Str) ∈ cs->HJ gG [.int<|c.h R,.int<|c.h R.reverse,N5 u,.bl b,x,y,.int ((1+max p q:Nat):Int),.int (R.length:Int)] n=some z->WD (f1 zm<|zP cs n) _ true z:=λa b e f hc hl=>W7 (v1 a b e f) hc hl;have s5:=yJ (p:=5) (ya (WD.e<|za (i:=0) rfl) (WD.e<|f (cs:=ZH) (n:="wait") none none none none (by decide +kernel) rfl) (WD.e<|za (i:=2) rfl) b1)<|ze rfl;have s6:=zJ (i:=6) (st:=true) (IE (c:=b==t) (f (cs:=Xx) (n:="turn") (sT<|N5 v) none none none (by decide +kernel) rfl) (za (i:=3) rfl)<|by cases b<;>cases t<;>rfl)<|ze rfl;rw[show(!(b==t))=(b != t)from rfl]at s6;have fx:=WD.e<|f (cs:=Qs) (n:="one") (sT<|N5 v) (sT<|.bl<|b != t) none none (by decide +kernel) rfl;have fy:=WD.e<|f (cs:=ZR) (n:="other") (sT<|N5 v) (sT<|.bl<|b != t) none none (by decide +kernel) rfl;have w6:WT (fT wR) (g9 c (kn (c.h R) (c.h R.reverse) (N5 u) b x y ((1+max p q:Nat):Int) (R.length:Int)) w t acc (sT<|N5 v) (sT<|.bl<|b != t) none none) (b != t):=yf (za (i:=6) rfl) rfl;have cl:∀{z:D}{r':List Int}{p':Nat}(a:List Int) (o f:Option O),TK c z r' p'->p'<n->a.length+r'.length<=1000->WZ 4 mJ (xW n) [sT c.w,f,sT<|N5 w,sT<|.bl t,some<|xO a,sT<|N5 v,sT<|.bl<|b != t,o,sT z]=some _:=λ{z r' p'} a o f k' hp' ha=>Eo rfl rfl rfl<|ET h n v (b != t) a k' b2 hp' ha;have lp:∀{z z':D}{r1 r2:List Int}{p1 p2:Nat}(o:Option O),TK c z r1 p1->TK c z' r2 p2->p1<n->p2<n->acc.length+r1.length+r2.length<=1000->forL (gN 8) (WZ 4 mJ<|xW n) [(true,z),(true,z')] (g9 c (kn (c.h R) (c.h R.reverse) (N5 u) b x y ((1+max p q:Nat):Int) (R.length:Int)) w t acc (sT<|N5 v) (sT<|.bl<|b != t) o none)=some _:=λ{z z' r1 r2 p1 p2} o k1 k2 l1 l2 hl=>vG rfl (cl acc o _ k1 l1<|by omega)<|vG rfl (cl (acc++tn (b != t) (c.ap v r1)) o _ k2 l2<|by rw[zzJ,BF,W3];exact hl) rfl;cases hc:(b != t)with
    |false=>
     rw[hc]at w6 s6 lp fx fy;have:=lp (sT<|.tup [x,y]) k l (q1w hp h1 h2) (q1r hp h1 h2) (by omega);rw[zxC]at this;exact⟨_,_,_,_,zp t0<|zo s5<|zo s6<|zo (yJ (p:=7) (Bi w6<|yu fx fy)<|ze rfl)<|yh (pH<|za (i:=7) rfl) this⟩
    |true=>
     rw[hc]at w6 s6 lp fx fy;have:=lp (sT<|.tup [y,x]) l k (q1r hp h1 h2) (q1w hp h1 h2) (by omega);rw[zxC,show tn true (c.ap v s)++tn true (c.ap v r)=tn true (c.ap v r++c.ap v s)from List.reverse_append.symm]at this;exact⟨_,_,_,_,zp t0<|zo s5<|zo s6<|zo (yJ (p:=7) (Fs w6<|yu fy fx)<|ze rfl)<|yh (pH<|za (i:=7) rfl) this⟩
  show gL 9 5 _ _ (xO acc)=_;unfold gL;rw[if_pos (by rfl),show Rx 9 [(true,c.w),(true,d),(true,N5 w),(true,.bl t)] (xO acc)=g9 c d w t acc none none none none from rfl,run];rfl
def mN(h:c.Ok)(k:TK c d R p)(hl:R.length<=1000):Wj [(true,c.w),(true,d)]=some (xO R):=by
 have g:=ET h 20 none false [] k trivial (k.lt hl) (by show 0+_<=_;omega);have cl:WZ 2 (aC zk<|aC zm<|aC (fC .non)<|aC (fC _) Zx) _ [sT c.w,sT d,some _]=some _:=Eo rfl rfl rfl g;exact xo rfl<|zo (xt (vz yp<|Uw rfl)<|ze rfl)<|zo (yL (k.isS<|za rfl) cl)<|Ud rfl (XA R).1
def qS:Wj [(true,c.w),(true,.non)]=some (xO []):=
 xo rfl (zo (xt (vz yp<|Uw rfl)<|ze rfl)<|zo (zp (yf (zw (za rfl) zb rfl rfl) rfl) rfl)<|Ud rfl (XA []).1)
def OT(c:Cx)(d:D)(R:List Int):Prop:=(d = .non/\R=[])\/∃p,TK c d R p
def TK.o(k:TK c d R p):OT c d R:=.inr ⟨p,k⟩
def OT.n:OT c .non []:=.inl ⟨rfl,rfl⟩
theorem OT.in(h:c.Ok)(k:OT c d R):c.In R:=by
 rcases k with⟨_,rfl⟩|⟨p,k⟩
 . exact λ_ m=>nomatch m
 . exact k.in h
def rn(k:OT c d R):RE (X4 [(true,d)]) (.int R.length):=by
 rcases k with⟨rfl,rfl⟩|⟨p,k⟩
 . exact zH rfl<|zA<|Fs (yf (zw (za rfl) zb rfl rfl) rfl)<|WD.e zb
 . exact zH rfl<|zA<|Bi (k.isN<|za rfl)<|WD.e<|k.size<|za rfl
def gC(h:c.Ok)(k:OT c d R)(hl:R.length<=1000):Wj [(true,c.w),(true,d)]=some (xO R):=by
 rcases k with⟨rfl,rfl⟩|⟨p,k⟩
 . exact qS
 . exact mN h k hl
def Zk{j:Nat}(h:as[j]? = some (sT<|.tup ds))(hz:zx (.tup ds) (.int i)=some (.im z)):WD (f2 (fV j) (fC<|.int i) zx) as true z:=yt (za h) zb hz
end
def T5{lo hi}(ha:WD f as s y)(hl:fl as=some (lo,as))(hh:fh as=some (hi,as))(hg:Tn y lo hi=some (.fl<|r.map D.int)):WE (Rj f fl fh Tn) as (zi r):=by
 refine⟨xO r, ?_,XA r⟩;unfold WD at ha;unfold Rj;rw[ha];show((fl as).bind _)=_;rw[hl];show((fh as).bind _)=_;rw[hh];show((Tn y lo hi).bind _)=_;rw[hg];show(if _=true then some _ else none:Option RV).bind _=_;rw[if_pos (by simp),zyB];rfl
def slt{n:Nat}(h:n<1000):n<sizeLine:=zzK h (JA<|by decide)
def TM(h:f as=some (.ow<|xO r,as)):WE f as (zi r):=⟨_,h,XA r⟩
def dg:Int->List Int->List Int
 |_,[]=>[]
 |x,z::r=>x%z::dg (x/z) r
theorem NV:∀(l:List Int) (x:Int),(dg x l).length=l.length
 | [],_=>rfl
 |_::r,x=>congrArg (· + 1)<|NV r _
theorem Ia{n:Nat}(hn:1<=n):∀(k:Nat) (x:Int),∀v ∈ dg x (List.replicate k (n:Int)),zQ n v
 |0,_,v,m=>nomatch m
 |k+1,x,v,m=>by
  have m:=m
  rcases zzC.mp m with rfl|m
  . exact Uv hn
  . exact Ia hn k _ v m
abbrev bT:SF:=(zh (yo<|ZQ 2 (dC (f2 zk zF zO) dN) ZS)
 (zr true 0<|f2 zk zF zK))
theorem uu:∀(sz:List Int) (x:Int) (acc:List Int) (e3:Option O),(∀z ∈ sz,0<z/\z<1000000)->acc.length+sz.length<=900->∃x' e3',forL (gN 3) bT (sz.map λz=>(true,D.int z)) [sI x,B,some<|xO acc,e3]=some (.nx [sI x',B,some<|xO<|acc++dg x sz,e3'])
 | [],x,acc,e3,_,_=>⟨x,e3,by rw[show acc++dg x []=acc from zyE _];rfl⟩
 |z::sz,x,acc,e3,h,hl=>by
  have hz:=h z<|zzF ..;rw[zzT]at hl;obtain⟨x',f3,hf⟩:=uu sz (x/z) (acc++[x%z]) (sI z) (λy m=>h y<|zzD _ m) (by rw[zzJ];show acc.length+1+sz.length<=900;exact q1H hl);rw[zxC]at hf;refine⟨x',f3,vG rfl (zo (as1:=[sI x,B,some _,sI z]) ?_<|zJ (xN (za rfl) (za rfl) hz.1<|zC (by omega)<|by omega)<|ze rfl) hf⟩;have ap:=P7 (i:=2) (as:=[sI x,B,some<|xO acc,sI z]) rfl (zV (za (i:=0) rfl) (za (i:=3) rfl) hz.1) rfl (by rw[zzB];exact slt<|q1F hl);rw[<-SE]at ap;exact ap
def JR{sz}(h:∀z ∈ sz,0<z/\z<1000000)(hl:sz.length<=900):yw [(true,.int x),(true,zi sz)]=some (xO<|dg x sz):=by
 obtain⟨x',e3,hf⟩:=uu sz x [] none h (by show 0+_<=_;omega);have it:Zq zm [sI x,sT<|zi sz,some<|xO [],none]=some (sz.map λz=>(true,D.int z),[sI x,sT<|zi sz,some<|xO [],none]):=by
  have:=Mv<|WD.e<|za (as:=[sI x,sT<|zi sz,some<|xO [],none]) (i:=1) rfl;rw[zyB]at this;exact this
 exact xo rfl<|zo (xt (vz yp<|Uw rfl)<|ze rfl)<|zo (yh it hf)<|Ud rfl (ZV _).2.1
def OI{sz}(h:∀z ∈ sz,0<z/\z<1000000)(hl:sz.length<=900)(ha:WE a as (.int x))(hb:WE b as (zi sz)):WE (zj (aC a<|aC b aN) yw) as (zi<|dg x sz):=y8 ha hb ⟨_,JR h hl,XA _⟩
def Lg(p n:Nat):Prop:=n<=2 ^ p/\(p=0\/2 ^ (p-1)<n)
def nv{p q a b:Nat}(ha:1<=a)(h1:a<=b)(h2:b<=a+1)(hp:Lg p a)(hq:Lg q b):p<=q/\q<=p+1/\Lg (1+max p q) (a+b):=by
 obtain⟨p1,p2⟩:=hp;obtain⟨q1,q2⟩:=hq;have e1:p<=q:=by
  rcases p2 with p2|p2
  . omega
  . refine Nat.le_of_not_lt λh=>?_;have:=Nat.pow_le_pow_right (n:=2) (by decide) (show q<=p-1 by omega);omega
 have e2:q<=p+1:=by
  rcases q2 with q2|q2
  . omega
  . refine Nat.le_of_not_lt λh=>?_;have:=Nat.pow_le_pow_right (n:=2) (by decide) (show p+1<=q-1 by omega);rw[Nat.pow_succ]at this;omega
 refine⟨e1,e2, ?_⟩;rw[Nat.max_eq_right e1];refine⟨?_,.inr ?_⟩
 . rw[Nat.add_comm 1 q,Nat.pow_succ];omega
 . rw[show 1+q-1=q by omega]
   rcases q2 with q2|q2
   . subst q2;omega
   . obtain⟨r,rfl⟩:∃r,q=r+1:=⟨q-1,by
      have:q≠0:=λz=>by subst z;have:2 ^ (0-1)=1:=rfl;have z1:=q1;omega
      omega⟩
     rw[Nat.add_sub_cancel]at q2;rw[Nat.pow_succ];omega
section
variable{c:Cx}{x y d:D}{r s R:List Int}{p q:Nat}
theorem FB(h:c.Ok):∀(k:Nat) (r:List Int),1<=r.length->r.length<=2 ^ k->r.length<=1000->c.In r->∀s:Bool,∃d p,RE (xI (k+1) [(true,c.w),(s,zi r)]) d/\TK c d r p/\Lg p r.length
 |k,r,h1,h2,hk,hv,s=>by
  have wl:=λz=>by
   have:=yx (as:=[sT c.w,some<|.lf s<|zi r,z]) (g:=xC) (zg (za (i:=1) rfl) zq) rfl rfl;rw[zzB]at this;exact this
  have t0:WT (fT<|f2 (fP xQ xC) zW<|zz .Eq) [sT c.w,some<|.lf s<|zi r,none] false:=yf (UL (wl _) zb (by show some ((r.length:Int)==0)=_;rw[beq_eq_false_iff_ne.mpr<|by omega])) rfl;have t1:WT (fT<|f2 (fP xQ xC) zL<|zz .Eq) [sT c.w,some<|.lf s<|zi r,none] (decide (r.length=1)):=yf (UL (wl _) zb (by
   show some _=_
   by_cases h:r.length=1
   . rw[h];rfl
   . rw[beq_eq_false_iff_ne.mpr (by omega),zyG h])) rfl
  by_cases hr:r.length=1
  . rw[zyO hr]at t1
    match r,hr with
    | [v],_=>
     exact⟨_,0,zH rfl<|zc (zp t0 rfl)<|yk<|yK t1<|zA<|wU (WD.e<|zw (za rfl) zb rfl rfl) Ir,.lf v false<|hv v zzF,⟨zzN _,.inl rfl⟩⟩
  . rw[zyG hr]at t1;cases k with
    |zero=>exact absurd (h2) (by omega)
    |succ k=>
     rw[Nat.pow_succ]at h2;have s3:zr true 2 (f2 (fP xQ xC) yy zK) [sT c.w,some<|.lf s<|zi r,none]=some _:=zJ (xN (wl none) (zb) (by decide)<|zC (by decide)<|by decide)<|ze rfl;have l1:(r.take<|r.length/2).length=r.length/2:=by rw[zzS];omega
     have l2:(r.drop<|r.length/2).length=r.length-r.length/2:=List.length_drop;obtain⟨x,p,a1,a2,a3⟩:=FB h k (r.take<|r.length/2) (by omega) (by omega) (by omega) (λv mv=>hv v<|List.mem_of_mem_take mv) true;obtain⟨y,q,b1,b2,b3⟩:=FB h k (r.drop<|r.length/2) (by omega) (by omega) (by omega) (λv mv=>hv v<|List.mem_of_mem_drop mv) true;rw[l1]at a3;rw[l2]at b3;obtain⟨q1,q2,q3⟩:=nv (by omega) (by omega) (by omega) a3 b3;obtain⟨d,d1,d2⟩:=wD h a2 b2 (by omega) (by omega);have sp:(r.map D.int)=(r.take<|r.length/2).map D.int++(r.drop<|r.length/2).map D.int:=by rw[<-zyM,List.take_append_drop]
     have c1:=uP (xs:=(r.take<|r.length/2).map D.int) (ys:=(r.drop<|r.length/2).map D.int);have c2:=SY (xs:=(r.take<|r.length/2).map D.int) (ys:=(r.drop<|r.length/2).map D.int);rw[<-sp,zzB,l1]at c1 c2;have w1:WE (Rj zm oN (oS zD) Tn) [sT c.w,some<|.lf s<|zi r,sI _] _:=T5 (za rfl) rfl rfl c1;have w2:WE (Rj zm (oS zD) oN Tn) [sT c.w,some<|.lf s<|zi r,sI _] _:=T5 (za rfl) rfl rfl c2;have wy:WE zk [sT c.w,some<|.lf s<|zi r,sI ((r.length/2:Nat):Int)] c.w:=WD.e<|za rfl;rw[List.take_append_drop]at d2;exact⟨d,_,zH rfl<|zc (zp t0 rfl)<|zc (zp t1 rfl)<|zc s3<|zA<|ya wy (y8 wy w1 a1) (y8 wy w2 b1) d1,d2,by rw[show r.length/2+(r.length-r.length/2)=r.length by omega]at q3;exact q3⟩
def mf(h:c.Ok)(hl:r.length<=1000)(hv:c.In r)(s):∃d,RE (xI 20 [(true,c.w),(s,zi r)]) d/\OT c d r:=by
 by_cases e:r=[]
 . subst e;exact⟨.non,zH rfl<|yk<|yK (yf (UL (yx (zg (za rfl) zq) rfl rfl) zb rfl) rfl)<|zA<|WD.e zb,.n⟩
 . obtain⟨d,p,a,b,_⟩:=FB h 19 r (List.length_pos_iff.mpr e) (zzO hl<|by decide) hl hv s;exact⟨d,a,b.o⟩
def fF(k:TK c x r p)(l:TK c y s q)(ha:WD a as true x)(hb:WD b as true y):WT (fT<|f2 (f1 a<|zP yF "deep") (f2 (f1 b<|zP yF "deep") zL zt)<|zz .Gt) as (decide (q+1<p)):=by
 have:=yf (hW (k.deep ha)<|zE (l.deep hb)<|zb (x:=.int 1)) rfl;rw[show decide _=decide (q+1<p)from decide_eq_decide.mpr<|by omega]at this;exact this
def cO(k:TK c x r p)(l:TK c y s q)(ha:WD a as true x)(hb:WD b as true y):WT (fT<|f2 (f1 a<|zP yF "deep") (f1 b<|zP yF "deep")<|zz .GtE) as (decide (q<=p)):=by
 have:=yf (gP (k.deep ha)<|l.deep hb) rfl;rw[show decide _=decide (q<=p)from decide_eq_decide.mpr<|by omega]at this;exact this
def tj(h:c.Ok)(k:TK c x r p)(l:TK c y s q)(e:p=q+2):∃d u,RE (XJ [(true,c.w),(true,x),(true,y)]) d/\TK c d (r++s) u/\p<=u/\u<=p+1:=by
 obtain⟨x1,x2,r1,r2,p1,p2,k0,k1,k2,k3,k4,k5,rfl⟩:=Y7 h k<|q1O e;have wy:∀a b,WE zk [sT c.w,sT x,sT y,a,b] c.w:=λ_ _=>WD.e<|za rfl;have v2:∀a b,WE zD [sT c.w,sT x,sT y,a,b] y:=λ_ _=>WD.e<|za rfl;have s3:=yJ (p:=3) (y8 (wy none none) (WD.e<|za (i:=1) rfl) k0)<|ze rfl;have u0:∀b,WD (f2 zF zW zx) [sT c.w,sT x,sT y,sT<|.tup [x1,x2],b] true x1:=λ_=>Zk rfl rfl;have u1:∀b,WD (f2 zF zL zx) [sT c.w,sT x,sT y,sT<|.tup [x1,x2],b] true x2:=λ_=>Zk rfl rfl;have t:=cO k1 k2 (u0 none)<|u1 none
 by_cases g:p2<=p1
 . rw[zyO g]at t;obtain⟨d1,a1,a2⟩:=wD h k2 l (by omega) (by omega);obtain⟨d2,b1,b2⟩:=wD h k1 a2 (by omega) (by omega);rw[<-zxC]at b2;exact⟨d2,_,zH rfl<|zc s3<|yk<|yK t<|zA<|ya (wy _ _) (WD.e<|u0 _) (ya (wy _ _) (WD.e<|u1 _) (v2 _ _) a1) b1,b2,by omega,by omega⟩
 . rw[zyG g]at t;obtain⟨z1,z2,s1,s2,q1,q2,l0,l1,l2,l3,l4,l5,rfl⟩:=Y7 h k2<|q2n k4 k3 g;obtain⟨d1,a1,a2⟩:=wD h k1 l1 (by omega) (by omega);obtain⟨d2,b1,b2⟩:=wD h l2 l (by omega) (by omega);obtain⟨d3,c1,c2⟩:=wD h a2 b2 (by omega) (by omega);have s4:=yJ (p:=4) (y8 (wy _ _) (WD.e<|u1 none) l0)<|ze rfl;rw[show r1++s1++_=r1++(s1++s2)++s by simp only[zxC]]at c2;exact⟨d3,_,zH rfl<|zc s3<|zc (zp t rfl)<|zc s4<|zA<|ya (wy _ _) (ya (wy _ _) (WD.e<|u0 _) (WD.e<|Zk rfl rfl) a1) (ya (wy _ _) (WD.e<|Zk rfl rfl) (v2 _ _) b1) c1,c2,by omega,by omega⟩
def ub(h:c.Ok)(k:TK c x r p)(l:TK c y s q)(e:q=p+2):∃d u,RE (YL [(true,c.w),(true,x),(true,y)]) d/\TK c d (r++s) u/\q<=u/\u<=q+1:=by
 obtain⟨x1,x2,r1,r2,p1,p2,k0,k1,k2,k3,k4,k5,rfl⟩:=Y7 h l<|q1O e;have wy:∀a b,WE zk [sT c.w,sT x,sT y,a,b] c.w:=λ_ _=>WD.e<|za rfl;have v1:∀a b,WE zm [sT c.w,sT x,sT y,a,b] x:=λ_ _=>WD.e<|za rfl;have s3:=yJ (p:=3) (y8 (wy none none) (WD.e<|za (i:=2) rfl) k0)<|ze rfl;have u0:∀b,WD (f2 zF zW zx) [sT c.w,sT x,sT y,sT<|.tup [x1,x2],b] true x1:=λ_=>Zk rfl rfl;have u1:∀b,WD (f2 zF zL zx) [sT c.w,sT x,sT y,sT<|.tup [x1,x2],b] true x2:=λ_=>Zk rfl rfl;have t:=cO k2 k1 (u1 none)<|u0 none
 by_cases g:p1<=p2
 . rw[zyO g]at t;obtain⟨d1,a1,a2⟩:=wD h k k1 (by omega) (by omega);obtain⟨d2,b1,b2⟩:=wD h a2 k2 (by omega) (by omega);rw[zxC]at b2;exact⟨d2,_,zH rfl<|zc s3<|yk<|yK t<|zA<|ya (wy _ _) (ya (wy _ _) (v1 _ _) (WD.e<|u0 _) a1) (WD.e<|u1 _) b1,b2,by omega,by omega⟩
 . rw[zyG g]at t;obtain⟨z1,z2,s1,s2,q1,q2,l0,l1,l2,l3,l4,l5,rfl⟩:=Y7 h k1<|q2n k3 k4 g;obtain⟨d1,a1,a2⟩:=wD h k l1 (by omega) (by omega);obtain⟨d2,b1,b2⟩:=wD h l2 k2 (by omega) (by omega);obtain⟨d3,c1,c2⟩:=wD h a2 b2 (by omega) (by omega);have s4:=yJ (p:=4) (y8 (wy _ _) (WD.e<|u0 none) l0)<|ze rfl;rw[show r++s1++_=r++(s1++s2++r2) by simp only[zxC]]at c2;exact⟨d3,_,zH rfl<|zc s3<|zc (zp t rfl)<|zc s4<|zA<|ya (wy _ _) (ya (wy _ _) (v1 _ _) (WD.e<|Zk rfl rfl) a1) (ya (wy _ _) (WD.e<|Zk rfl rfl) (WD.e<|u1 _) b1) c1,c2,by omega,by omega⟩
def Cp(h:c.Ok)(k:TK c x r p)(l:TK c y s q)(h1:p<=q+2)(h2:q<=p+2):∃d u,RE (RP [(true,c.w),(true,x),(true,y)]) d/\TK c d (r++s) u/\max p q<=u/\u<=1+max p q/\(p<=q+1->q<=p+1->u=1+max p q):=by
 have v1:WD zm [sT c.w,sT x,sT y] true x:=za rfl;have v2:WD zD [sT c.w,sT x,sT y] true y:=za rfl;have wy:WE zk [sT c.w,sT x,sT y] c.w:=WD.e<|za rfl;have t1:=fF k l v1 v2;have t2:=fF l k v2 v1
 by_cases g:q+1<p
 . rw[zyO g]at t1;obtain⟨d,u,a,b,b1,b2⟩:=tj h k l (by omega);exact⟨d,u,zH rfl<|yk<|yK t1<|zA<|ya wy (WD.e v1) (WD.e v2) a,b,by omega,by omega,by omega⟩
 . rw[zyG g]at t1
   by_cases g2:p+1<q
   . rw[zyO g2]at t2;obtain⟨d,u,a,b,b1,b2⟩:=ub h k l (by omega);exact⟨d,u,zH rfl<|zc (zp t1 rfl)<|yk<|yK t2<|zA<|ya wy (WD.e v1) (WD.e v2) a,b,by omega,by omega,by omega⟩
   . rw[zyG g2]at t2;obtain⟨d,a,b⟩:=wD h k l (q2s h1 h2 g2 g)<|q2s h2 h1 g g2;exact⟨d,_,zH rfl<|zc (zp t1 rfl)<|zc (zp t2 rfl)<|zA<|ya wy (WD.e v1) (WD.e v2) a,b,q1L,q1R,λ_ _=>rfl⟩
theorem Cg(h:c.Ok):∀(n:Nat) {x y:D}{r s:List Int}{p q:Nat},TK c x r p->TK c y s q->p<n->q<n->∃d u,RE (zN n [(true,c.w),(true,x),(true,y)]) d/\TK c d (r++s) u/\max p q<=u/\u<=1+max p q
 |0,_,_,_,_,_,_,_,_,h,_=>absurd h (Nat.not_lt_zero _)
 |n+1,x,y,r,s,p,q,k,l,hp,hq=>by
  have v1:∀a,WD zm [sT c.w,sT x,sT y,a] true x:=λ_=>za rfl;have v2:∀a,WD zD [sT c.w,sT x,sT y,a] true y:=λ_=>za rfl;have wy:∀a,WE zk [sT c.w,sT x,sT y,a] c.w:=λ_=>WD.e<|za rfl;have t1:=fF k l (v1 none)<|v2 none;have t2:=fF l k (v2 none)<|v1 none;have n1:=k.isN<|v1 none;have n2:=l.isN<|v2 none
  by_cases g:q+1<p
  . rw[zyO g]at t1;obtain⟨x1,x2,r1,r2,p1,p2,k0,k1,k2,k3,k4,k5,rfl⟩:=Y7 h k<|q1A g;obtain⟨d,u,a1,a2,a3,a4⟩:=Cg h n k2 l (by omega)<|q2l g hq hp k5;obtain⟨d',u',b1,b2,b3,b4,b5⟩:=Cp h k1 a2 (by omega) (by omega);have s3:=yJ (p:=3) (y8 (wy none) (WD.e<|v1 _) k0)<|ze rfl;rw[<-zxC]at b2;exact⟨d',u',zH rfl<|zc (zp n1 rfl)<|zc (zp n2 rfl)<|yk<|yK t1<|zc s3<|zA<|ya (wy _) (WD.e<|Zk rfl rfl) (ya (wy _) (WD.e<|Zk rfl rfl) (WD.e<|v2 _) a1) b1,b2,by omega,by omega⟩
  . rw[zyG g]at t1
    by_cases g2:p+1<q
    . rw[zyO g2]at t2;obtain⟨x1,x2,r1,r2,p1,p2,k0,k1,k2,k3,k4,k5,rfl⟩:=Y7 h l<|q1A g2;obtain⟨d,u,a1,a2,a3,a4⟩:=Cg h n k k1 (q2l g2 hp hq k5) (by omega);obtain⟨d',u',b1,b2,b3,b4,b5⟩:=Cp h a2 k2 (by omega) (by omega);have s3:=yJ (p:=3) (y8 (wy none) (WD.e<|v2 _) k0)<|ze rfl;rw[zxC]at b2;exact⟨d',u',zH rfl<|zc (zp n1 rfl)<|zc (zp n2 rfl)<|zc (zp t1 rfl)<|yk<|yK t2<|zc s3<|zA<|ya (wy _) (ya (wy _) (WD.e<|v1 _) (WD.e<|Zk rfl rfl) a1) (WD.e<|Zk rfl rfl) b1,b2,by omega,by omega⟩
    . rw[zyG g2]at t2;obtain⟨d,a,b⟩:=wD h k l (q2e g2 g)<|q2e g g2;exact⟨d,_,zH rfl<|zc (zp n1 rfl)<|zc (zp n2 rfl)<|zc (zp t1 rfl)<|zc (zp t2 rfl)<|zA<|ya (wy _) (WD.e<|v1 _) (WD.e<|v2 _) a,b,q1L,q1R⟩
def Cq(h:c.Ok)(k:OT c x r)(l:OT c y s)(h1:r.length<=1000)(h2:s.length<=1000):∃d,RE (zN 20 [(true,c.w),(true,x),(true,y)]) d/\OT c d (r++s):=by
 have wN:WT (fT<|f2 zm (fC .non)<|zz .Is) [sT c.w,sT .non,sT y,none] true:=yf (zw (za rfl) zb rfl rfl) rfl
 rcases k with⟨rfl,rfl⟩|⟨p,k⟩
 . exact⟨y,zH rfl<|yk<|yK wN<|zA<|WD.e<|za rfl,l⟩
 rcases l with⟨rfl,rfl⟩|⟨q,l⟩
 . refine⟨x,zH rfl<|zc (zp (k.isN<|za rfl) rfl)<|yk<|yK (yf (zw (za rfl) zb rfl rfl) rfl)<|zA<|WD.e<|za rfl, ?_⟩;rw[zyE];exact k.o
 . obtain⟨d,u,a,b,_⟩:=Cg h 20 k l (k.lt h1)<|l.lt h2;exact⟨d,a,b.o⟩
end
abbrev J5:Int:=1000*10 ^ (64:Int).toNat
def HS:(0:Int)<J5:=by decide
def eqT(ha:WD a as s (.int x))(hb:WD b as t (.int y))(e:(x==y)=q):WT (fT<|f2 a b<|zz .Eq) as q:=yf (UL ha hb<|congrArg some e) rfl
def lb{x y:Int}(h0:0<=x)(h1:x<y)(hy:y<=10 ^ 200:=by decide):x.natAbs<big:=zC (Int.lt_of_lt_of_le (by decide) h0)<|Int.lt_of_lt_of_le h1 hy
def ZN(ha:WD a as true (zi ns))(hb:WD b as true (.int k))(h0:0<=k)(h1:k<ns.length):∃v,WD (f2 a b zx) as true (.int v):=by
 obtain⟨v,e,_⟩:=AH h0 h1 λ_ _=>trivial;exact⟨v,zw ha hb e rfl⟩
abbrev bN:SF:=(zh jj
 jn)
def CC{ns:List Int}{k:Nat}(hk:k<=100):∃x:Int,0<=x/\yg [(true,.lst<|ns.map .int),(true,.int k)]=sI x:=by
 have s2:zr true 2 _ [sT<|zi ns,sI k,none,none,none,none]=some (.nx [sT<|zi ns,sI k,sI J5,none,none,none]):=zJ (i:=2) (y7 zb (uB zb zb ⟨by decide,by decide,by decide⟩) (zC (by decide)<|by decide)<|zC (by decide)<|by decide)<|ze rfl;have wl:∀as:AS,as[0]? = some (sT<|zi ns)->WD (fP Zv xC) as true (.int (ns.length:Nat)):=λas h=>by
  have:=yx (g:=xC) (zg (za h) zq) rfl rfl
  rwa [zzB]at this
 by_cases h:(k:Int)<(ns.length:Int)
 . obtain⟨v,w⟩:=ZN (as:=[sT<|zi ns,sI k,sI J5,none,none,none]) (a:=fV 0) (b:=fV 1) (ns:=ns) (k:=k) (za rfl) (za rfl) (q0H hk) h;refine⟨_,zyN _<|Int.ne_of_gt HS,xo rfl<|zo s2<|wB<|yL (yf (um (za (i:=1) rfl)<|wl _ rfl)<|congrArg some<|zyO h)<|yT<|zV (y7 (zV w (za (i:=2) rfl) HS) (uB zb zb ⟨by decide,by decide,by decide⟩) (lb (zyN _<|Int.ne_of_gt HS)<|zyH _ HS)<|zC (by decide)<|by decide) (za (i:=2) rfl) HS⟩
 . have t0:=zp (f:=zy kz) (g:=yX) (yf (um (as:=[sT<|zi ns,sI k,sI J5,none,none,none]) (za (i:=1) (s:=true) rfl)<|wl _ rfl)<|congrArg some<|zyG h) rfl;have kb:((k:Int)).natAbs<big:=zC (by omega) (by omega);have s3:zr true 3 _ [sT<|zi ns,sI k,sI J5,none,none,none]=some (.nx [sT<|zi ns,sI k,sI J5,sI<|(k:Int)*k+7*k+11,none,none]):=zJ (i:=3) (zE (zE (y7 (za (i:=1) rfl) (za (i:=1) rfl) kb kb)<|y7 zb (za (i:=1) rfl) (zC (by decide)<|by decide) kb) zb)<|ze rfl;have kk:(k:Int)*k<=10000:=by
    have:=Int.mul_le_mul (show(k:Int)<=100 from q2t hk) (show(k:Int)<=100 from q2t hk) (q0H hk) (by omega);omega
   have k0:0<=(k:Int)*k:=Int.mul_nonneg (q0H hk)<|q0H hk;obtain⟨x0,p0,p1,s4⟩:∃x0:Int,0<=x0/\x0<10 ^ 12/\y6 (fT<|f2 zk (yd dN)<|zz .NotEq) jx yX [sT<|zi ns,sI k,sI J5,sI<|(k:Int)*k+7*k+11,none,none]=some (.nx [sT<|zi ns,sI k,sI J5,sI x0,none,none]):=by
    have nn:WT (fT<|f2 zk (yd dN)<|zz .NotEq) [sT<|zi ns,sI k,sI J5,sI<|(k:Int)*k+7*k+11,none,none] (!ns.isEmpty):=yf (Jv (z:=.bl<|!ns.isEmpty) (WD.e<|za (i:=0) rfl) (ZM (os:=[]) yp (Uw rfl) rfl rfl)<|by cases ns<;>rfl) rfl
    by_cases hn:ns=[]
    . subst hn;exact⟨_,by omega,by omega,zp nn rfl⟩
    . have lp:=List.length_pos_iff.mpr hn;obtain⟨v,w⟩:=ZN (as:=[sT<|zi ns,sI k,sI J5,sI<|(k:Int)*k+7*k+11,none,none]) (a:=fV 0) (ns:=ns) (za rfl) (zV (za (i:=1) rfl) (wl _ rfl)<|q0c lp) (zyN _<|q1u lp)<|zyH _<|q0c lp;have q0:=zyN v (show(1000003:Int)≠0 by decide);have q1:=zyH v (show(0:Int)<1000003 by decide);have q2:0<=v%1000003*(2*k+1):=Int.mul_nonneg q0<|q1Y hk;have q3:v%1000003*(2*k+1)<=1000003*201:=Int.mul_le_mul (by omega) (by omega) (q1Y hk) (by omega);have ne:(!ns.isEmpty)=true:=by
       cases ns with
       |nil=>exact absurd rfl hn
       |cons _ _=>rfl
      rw[ne]at nn;exact⟨_,by omega,by omega,yL nn<|zJ (i:=3) (zE (za (i:=3) rfl)<|y7 (zV w zb<|by decide) (zE (y7 zb (za (i:=1) rfl) (zC (by decide)<|by decide) kb) zb) (zC (by omega)<|by omega)<|zC (by omega)<|by omega)<|ze rfl⟩
   obtain⟨as',hf,x,y,e5,rfl,_⟩:=yP (g:=gN 5) (f:=bN) (λi as=>∃(x y:Int) (e5:Option O),as=[sT<|zi ns,sI k,sI J5,sI x,sI y,e5]/\0<=x/\x<10 ^ 12) (yY 0 8) 0 [sT<|zi ns,sI k,sI J5,sI x0,sI 0,none] (λi z as hz hI=>by
    obtain⟨x,y,e5,rfl,b0,b1⟩:=hI;obtain⟨rfl,hi⟩:=x_ hz;have xb:x.natAbs<big:=zC (by omega) (by omega);have c0:=zyN (x*x+48271*x+69621*(0+(i:Int))+k) (show(2147483629:Int)≠0 by decide);have c1:=zyH (x*x+48271*x+69621*(0+(i:Int))+k) (show(0:Int)<2147483629 by decide);exact⟨_,rfl,_,zo (zJ (i:=3) (zV (zE (zE (zE (y7 (za (i:=3) rfl) (za (i:=3) rfl) xb xb)<|y7 zb (za (i:=3) rfl) (zC (by decide)<|by decide) xb)<|y7 zb (za (i:=5) rfl) (zC (by decide)<|by decide)<|zC (by omega)<|by omega)<|za (i:=1) rfl) zb<|by decide)<|ze rfl)<|zJ (i:=4) (zE (Bn (za (i:=4) rfl) zb<|by decide)<|zV (Bn (za (i:=3) rfl) zb<|by decide) zb<|by decide)<|ze rfl,_,_,_,rfl,c0,by omega⟩)
    ⟨x0,0,none,rfl,p0,p1⟩
   refine⟨_,zyN _<|Int.ne_of_gt HS,xo rfl<|zo s2<|zo t0<|zo s3<|zo s4<|zo (zJ (i:=4) zb<|ze rfl)<|zo (yh (xu (zg (zb) zq) (by decide)<|by decide) hf)<|yT<|zV (za (i:=4) rfl) (za (i:=2) rfl) HS⟩
def V2(ns:List Int){k:Nat}(hk:k<=100):∃x:Int,0<=x/\∀(as:AS) (b:EF),as[0]? = some (sT<|zi ns)->WD b as true (.int k)->WD (zj (aC zk<|aC b aN) yg) as true (.int x):=by
 obtain⟨x,h0,h⟩:=CC hk;exact⟨x,h0,λas b h1 h2=>Yt (zg (za h1)<|zg h2 zq) h⟩
noncomputable def gF(x at_ st:Int)(k j:Nat):Nat:=97+((x/(53761+26*(j:Int)*j)+(if(j:Int)=at_ then(k:Int)*(st+1)else 0))%26).toNat
def SV(x at_ st:Int)(sz k:Nat):Str:=⟨((List.range sz).map<|gF x at_ st k).toArray⟩
abbrev eZ(st:Int):Prop:=st=0\/st=2\/st=4\/st=6\/st=8\/st=10\/st=14\/st=16
def tF{x at_ st:Int}{sz k l:Nat}(hs:eZ st)(h0:0<=at_)(h1:at_<sz)(hk:k<10)(hl:l<10)(h:SV x at_ st sz k=SV x at_ st sz l):k=l:=by
 unfold SV at h;injection h with h
 have h:=congrArg Array.toList h;rw[List.toList_toArray,List.toList_toArray]at h;have e:=congrArg (λt:List Nat=>t[at_.toNat]?) h;have hr:(List.range sz)[at_.toNat]? = some at_.toNat:=List.getElem?_range (by omega)
 simp only[zzI,hr,Option.map_some]at e;have e:=zzZ e;unfold gF at e;rw[show(at_.toNat:Int)=at_ from q1p h0,if_pos rfl,if_pos rfl]at e;have a0:=zyN (x/(53761+26*at_*at_)+k*(st+1)) (show 26≠0 by decide);have b0:=zyN (x/(53761+26*at_*at_)+l*(st+1)) (show 26≠0 by decide);generalize x/_=q at e a0 b0
 rcases hs with rfl|rfl|rfl|rfl|rfl|rfl|rfl|rfl<;>omega
def lF(h:x.length+y.length<=sizeLine):Y4 .Add (.str x) (.str y)=some (.im<|.str<|x++y):=if_pos h
abbrev HI(x:Int)(mn sz:Nat)(at_ st:Int)(os:List O)(a b c d:Option O):AS:=[sI x,sI mn,sT<|.str u4,sI<|(sz:Int)-1,sI at_,sI st,sN os,a,b,c,d]
abbrev c8:SF:=(zh (zr true 10 nQ)
 (zh (y6 (fT<|f2 (fV 9) zY<|zz .Eq) mE yX)
 j9))
def jQ{mn sz:Nat}{at_ st os}{k:Nat}(hz:sz<=8)(hk:k<10)(hs:eZ st):∃c' d',forL (gN 9) c8 (yY 0 sz) (HI x mn sz at_ st os (sI k) (sT<|.str ⟨#[]⟩) c d)=some (.nx<|HI x mn sz at_ st os (sI k) (sT<|.str<|SV x at_ st sz k) c' d'):=by
 have st16:0<=st/\st<=16:=by rcases hs with rfl|rfl|rfl|rfl|rfl|rfl|rfl|rfl<;>decide
 obtain⟨as',hf,c',d',rfl⟩:=yP (g:=gN 9) (f:=c8) (λi as=>∃c' d',as=HI x mn sz at_ st os (sI k) (sT<|.str<|SV x at_ st i k) c' d') (yY 0 sz) 0 (HI x mn sz at_ st os (sI k) (sT<|.str ⟨#[]⟩) c d) (λi z as hz' hI=>by
  obtain⟨c',d',rfl⟩:=hI;obtain⟨rfl,hi⟩:=x_ hz';rw[zyX,Int.zero_add];have i2:0<=(i:Int)*i:=Int.mul_nonneg (q0a)<|q0a;have i3:(i:Int)*i<=64:=Int.mul_le_mul (c:=8) (d:=8) (q2g hi hz) (q2g hi hz) (q0a) (by omega);have i4:26*(i:Int)*i=26*((i:Int)*i):=Int.mul_assoc ..;have s10:∀d',zr true 10 nQ (HI x mn sz at_ st os (sI k) (sT<|.str<|SV x at_ st i k) (sI i) d')=some _:=λd'=>zJ (i:=10) (xN (za (i:=0) rfl) (zE zb<|y7 (y7 zb (za (i:=9) rfl) (zC (by decide)<|by decide)<|zC (q1E)<|q1T hi hz) (za (i:=9) rfl) (zC (by omega)<|by omega)<|zC (q1E)<|q1T hi hz) (by omega)<|zC (by omega)<|by omega)<|ze rfl;have s11:y6 (fT<|f2 (fV 9) zY<|zz .Eq) mE yX (HI x mn sz at_ st os (sI k) (sT<|.str<|SV x at_ st i k) (sI i)<|sI<|x/(53761+26*(i:Int)*i))=some (.nx<|HI x mn sz at_ st os (sI k) (sT<|.str<|SV x at_ st i k) (sI i)<|sI<|x/(53761+26*(i:Int)*i)+(if(i:Int)=at_ then(k:Int)*(st+1)else 0)):=by
   by_cases e:(i:Int)=at_
   . rw[if_pos e];exact yL (eqT (za (i:=9) rfl) (za (i:=4) rfl)<|by simp[e])<|zJ (i:=10) (zE (za (i:=10) rfl)<|y7 (za (i:=7) rfl) (zE (za (i:=5) rfl) zb) (zC (by omega)<|by omega)<|zC (by omega)<|by omega)<|ze rfl
   . rw[if_neg e,Int.add_zero];exact zp (eqT (za (i:=9) rfl) (za (i:=4) rfl)<|by simp[e]) rfl
  have q0:=zyN (x/(53761+26*(i:Int)*i)+(if(i:Int)=at_ then(k:Int)*(st+1)else 0)) (show(26:Int)≠0 by decide);have q1:=zyH (x/(53761+26*(i:Int)*i)+(if(i:Int)=at_ then(k:Int)*(st+1)else 0)) (show(0:Int)<26 by decide);have ln:(SV x at_ st i k).length=i:=by
   show(((List.range i).map _).toArray).size=i;rw[zzH,zzB,zyU]
  have ea:SV x at_ st i k++(⟨#[gF x at_ st k i]⟩:Str)=SV x at_ st (i+1) k:=by
   show(⟨((List.range i).map _).toArray ++ #[gF x at_ st k i]⟩:Str)=_;unfold SV;rw[List.range_succ,zyM];simp
  have s8:=zJ (st:=true) (i:=8) (as:=HI x mn sz at_ st os (sI k) (sT<|.str<|SV x at_ st i k) (sI i)<|sI _) (zw (za (i:=8) rfl) (zw (za (i:=2) rfl) (zV (za (i:=10) rfl) zb<|by decide) (oH q0 q1) rfl) (lF<|JA (by rw[ln];show i+1<=_;omega)) rfl)<|ze rfl;rw[show(⟨#[97+((x/(53761+26*(i:Int)*i)+(if(i:Int)=at_ then(k:Int)*(st+1)else 0))%26).toNat]⟩:Str)=⟨#[gF x at_ st k i]⟩from rfl,ea]at s8;exact⟨HI x mn sz at_ st os (sI k) (sT<|.str<|SV x at_ st i k) (sI i) d',rfl,_,zo (s10 d')<|zo s11 s8,_,_,rfl⟩)
  ⟨c,d,rfl⟩
 rw[xi,zyX]at hf;exact⟨c',d',hf⟩
def S4(x:Int){mn:Nat}(hm:mn<=10):∃ss:List Str,ss.length=mn/\ss.Nodup/\RE (XC [(true,.int x),(true,.int mn)]) (.lst<|ss.map D.str):=by
 have s2:zr true 2 (fC<|.str "abcdefghijklmnopqrstuvwxyz") [sI x,sI mn,none,none,none,none,none,none,none,none,none]=some _:=zJ (i:=2) zb<|ze rfl;have e0:=zyN x (show(8:Int)≠0 by decide);have e1:=zyH x (show(0:Int)<8 by decide);obtain⟨sz,hz1,hz8,hz⟩:∃sz:Nat,1<=sz/\sz<=8/\x%8=(sz:Int)-1:=⟨(x%8+1).toNat,by omega,by omega,by omega⟩;have s3:VW jJ (gT 3<|yH (gN 3)<|yH P_<|yH (gN 5) XI) [sI x,sI mn,sT<|.str u4,none,none,none,none,none,none,none,none]=some (.nx [sI x,sI mn,sT<|.str u4,sI<|(sz:Int)-1,sI<|x/8%840,sI<|x/8/840%8,none,none,none,none,none]):=by
  rw[<-hz];exact O9 (OI (sz:=[8,840,8]) (by decide) (by decide) (WD.e<|za (i:=0) rfl)<|ZM (zu zb<|zu zb<|zu zb yp) (Uw rfl) rfl rfl) rfl
 have f0:=zyN (x/8/840) (show(8:Int)≠0 by decide);have f1:=zyH (x/8/840) (show(0:Int)<8 by decide);obtain⟨st,hst,hs⟩:=AH (r:=[0,2,4,6,8,10,14,16]) (P:=eZ) f0 f1 (by decide);have s5:zr true 5 _ [sI x,sI mn,sT<|.str u4,sI<|(sz:Int)-1,sI<|x/8%840,sI<|x/8/840%8,none,none,none,none,none]=some _:=zJ (i:=5) (Jv (ZM (zu zb<|zu zb<|zu zb<|zu zb<|zu zb<|zu zb<|zu zb<|zu zb yp) (Uw rfl) rfl rfl) (WD.e<|za (i:=5) rfl) hst)<|ze rfl;have h0:=zyN (x/8%840) (show(sz:Int)-1+1≠0 by omega);have h1:=zyH (x/8%840) (show(0:Int)<(sz:Int)-1+1 by omega);have s4:zr true 4 (f2 zY (f2 zF zL zt) zO) [sI x,sI mn,sT<|.str u4,sI<|(sz:Int)-1,sI<|x/8%840,sI st,none,none,none,none,none]=some _:=zJ (i:=4) (zV (za (i:=4) rfl) (zE (za (i:=3) rfl) zb)<|by omega)<|ze rfl;generalize x/8%840%((sz:Int)-1+1)=at_ at s4 h0 h1
 obtain⟨as',hf,os,a,b,c,d,rfl,ho⟩:=yP (g:=gN 7) (f:=(zh (zr true 8<|fC<|.str "")
  _))
  (λi as=>∃os a b c d,as=HI x mn sz at_ st os a b c d/\Ows D.str (λ_=>True) os ((List.range i).map<|SV x at_ st sz))
  (yY 0 mn) 0 (HI x mn sz at_ st [] none none none none) (λi z as hz' hI=>by
   obtain⟨os,a,b,c,d,rfl,ho⟩:=hI;obtain⟨rfl,hi⟩:=x_ hz';rw[zyX]at ho ⊢;rw[Int.zero_add];obtain⟨c',d',hin⟩:=jQ (x:=x) (mn:=mn) (os:=os) (k:=i) (c:=c) (d:=d) hz8 (q0V hi hm) hs;have wr:WA (aC (f2 zF zL zt) aN) (HI x mn sz at_ st os (sI i) (sT<|.str ⟨#[]⟩) c d) [(true,.int (sz:Int))]:=by
    have:=zg (zE (as:=HI x mn sz at_ st os (sI i) (sT<|.str ⟨#[]⟩) c d) (za (i:=3) rfl)<|zb (x:=.int 1)) zq
    rwa [Int.sub_add_cancel]at this
   have hrun:=xu wr (by omega) (by omega);rw[zyI]at hrun;obtain⟨os',o1,o2⟩:=J_ (as:=HI x mn sz at_ st os (sI i) (sT<|.str<|SV x at_ st sz i) c' d') (i:=6) rfl ho (by rw[zzB,zyU];omega) (WD.e<|za (i:=8) rfl) True.intro;exact⟨HI x mn sz at_ st os (sI i) b c d,rfl,_,zo (zJ (i:=8) zb<|ze rfl)<|zo (yh hrun hin) o2,os',_,_,_,_,rfl,by rw[List.range_succ,zyM];exact o1⟩)
  ⟨[],none,none,none,none,rfl,Ows.nil⟩
 rw[xi,zyX]at ho;have hrun:=xu (as:=HI x mn sz at_ st [] none none none none) (zg (za (i:=1) rfl) zq) (by omega) (by omega);rw[zyI]at hrun;refine⟨(List.range mn).map<|SV x at_ st sz,by rw[zzB,zyU], ?_,zH rfl<|zc s2<|zc s3<|zc s5<|zc s4<|zc (xt (i:=6) (vz yp<|Uw rfl)<|ze rfl)<|zc (yh hrun hf)<|Ows.retB (i:=6) rfl ho⟩;exact List.pairwise_map.mpr<|(List.nodup_range (n:=mn)).imp_of_mem λha hb hne he=>hne<|tF hs h0 (by omega) (by have:=List.mem_range.mp ha;exact q0V this hm) (by have:=List.mem_range.mp hb;exact q0V this hm) he
abbrev PZ:Type:=List<|Int×Nat
abbrev pD(p:Int×Nat):D:=.tup [.int p.1,.int p.2]
abbrev Qq(P:PZ):D:=.lst<|P.map pD
noncomputable def PN:PZ->Nat
 | []=>1
 |p::r=>PN r*p.2
def sp:PZ->Int->List Int
 | [],_=>[]
 |p::r,v=>v%p.2::sp r (v/p.2)
def ld:PZ->List Int->Int
 |p::r,d::t=>ld r t*p.2+d
 |_,_=>0
def jX:PZ->Int->Int->Int
 | [],_,_=>0
 |p::r,v,w=>jB p.2 (jX r) (jK p.1 p.2) v w
def eX:PZ->Int
 | []=>0
 |p::r=>eX r*p.2+eK p.1
noncomputable def dS(x:Int):Nat->Int
 |0=>0
 |k+1=>dS x k+x/3 ^ k%3
def dK(k:Int)(n:Nat)(x c a:Int):Int:=
 if k=0 then(x%n*a+x/n%n*c)%n
 else if k=1 then(if dS x a.toNat<(n:Int)-1 then dS x a.toNat else(n:Int)-1)
 else if k=2 then(if 0<a then 1+x/6 ^ a.toNat%((n:Int)-1)else 0)
 else if x%2=0 then a else sP a
def dX:PZ->Int->Int->Int->Int
 | [],_,_,_=>0
 |p::r,x,c,v=>dB p.2 (dX r x) (dK p.1 p.2 x) c v
abbrev PK(P:PZ):Prop:=∀p ∈ P,KN p.1 p.2/\2<=p.2/\p.2<=7
theorem Cc:∀{P:PZ},PK P->1<=PN P
 | [],_=>zzN _
 |p::r,h=>Nat.mul_pos (Cc λq m=>h q<|zzD _ m) (by have:=(h p<|zzF ..).2.1;exact q0d this)
theorem ki:∀{P:PZ},PK P->LJ (PN P) (jX P) (eX P)
 | [],_=>⟨λ_ _ _ _=>⟨Int.le_refl _,Int.one_pos⟩,⟨Int.le_refl _,Int.one_pos⟩,λa ha=>(by have h0:=ha.1;have h1:a<1:=ha.2;show(0:Int)=a;omega),λa ha=>(by have h0:=ha.1;have h1:a<1:=ha.2;show(0:Int)=a;omega),λ_ _ _ _ _ _=>rfl⟩
 |p::r,h=>aa (ki λq m=>h q<|zzD _ m) (c_ (h p<|zzF ..).1) (by have:=(h p<|zzF ..).2.1;exact q0d this)
def Ik(x):∀{a b:Nat},a<=b->dS x a<=dS x b:=λ{a b} h=>by
 induction h with
 |refl=>exact Int.le_refl _
 | @step k _ ih=>
  refine Int.le_trans ih ?_;have:=zyN (x/3 ^ k) (show 3≠0 by decide);exact Int.le_add_of_nonneg_right this
def jc(x)(a:Nat):0<=dS x a:=Ik x<|Nat.zero_le a
def ldK{n m:Nat}(h:KN k n)(n2:2<=n)(m1:1<=m)(hm:k=0->m=n):LD n m (jK k n) (eK k) (dK k n x):=by
 rcases h with⟨rfl,_⟩|⟨rfl,_⟩|⟨rfl,_⟩|⟨rfl,rfl⟩
 . have e:=hm rfl;subst e;exact LD.congr (q0d n2) (cF<|q0d n2) (bP (x0:=x%m) (x1:=x/m%m) (q0d n2) (q0d n2) (by omega) (Int.dvd_refl _)<|Int.dvd_refl _) (λ_ _ _ _=>rfl) λc a _ _=>by
    show(x%m*a+x/m%m*c)%m=_;rw[Int.ediv_self (by omega),Int.mul_one,Int.mul_comm<|x%m,Int.mul_comm<|x/m%m]
 . refine bF (r:=λa=>if dS x a.toNat<n-1 then dS x a.toNat else n-1) m1 ?_ (λa _=>?_) λa b ha hb hab=>?_
   . show(if(0:Int)<_-1 then(0:Int)else _-1)=0;rw[if_pos<|q2w n2]
   . have:=jc x a.toNat
     split<;>exact⟨by omega,by omega⟩
   . have:=Ik x (show a.toNat<=b.toNat by omega)
     split<;>split<;>omega
 . have g0:∀a:Int,0<=x/6 ^ a.toNat%(n-1)/\x/6 ^ a.toNat%_<n-1:=λa=>⟨zyN _ (by omega),zyH _<|q2w n2⟩;refine bA (r:=λa=>if 0<a then 1+x/6 ^ a.toNat%_ else 0) rfl (λa _=>?_) λa ha hn=>?_
   . have:=g0 a
     split<;>exact⟨by omega,by omega⟩
   . have:=g0 a;have:=ha.1;rw[if_pos<|by omega];omega
 . refine bZ ?_
   by_cases e:x%2=0
   . exact .inl λa _=>if_pos e
   . exact .inr λa _=>if_neg e
theorem eu{m:Nat}(m1:1<=m):∀{P:PZ},PK P->(∀p ∈ P,p.1=0->m=p.2)->LD (PN P) m (jX P) (eX P) (dX P x)
 | [],_,_=>⟨λ_ _ _ _=>⟨Int.le_refl _,Int.one_pos⟩,rfl,λ_ _ _ _ _ _ _ _=>rfl⟩
 |p::r,h,hm=>bK (ki λq m=>h q<|zzD _ m) (c_ (h p<|zzF ..).1) (by have:=(h p<|zzF ..).2.1;exact q0d this) (eu m1 (λq m=>h q<|zzD _ m) λq m=>hm q<|zzD _ m)<|ldK (h p<|zzF ..).1 (h p<|zzF ..).2.1 m1<|hm p<|zzF ..
noncomputable def z3(f:Int->Nat->Int->Int->Int):PZ->List Int->List Int->List Int
 |p::P,a::s,b::t=>f p.1 p.2 a b::z3 f P s t
 |_,_,_=>[]
noncomputable def z2(f:Int->Nat->Int->Int):PZ->List Int->List Int
 |p::P,a::s=>f p.1 p.2 a::z2 f P s
 |_,_=>[]
theorem pz:∀(P:PZ) (v w:Int),ld P (z3 jK P (sp P v)<|sp P w)=jX P v w
 | [],_,_=>rfl
 |p::r,v,w=>by
  show ld r _*p.2+jK p.1 p.2 _ _=_;rw[pz r];rfl
theorem pN(x c):∀(P:PZ) (v:Int),ld P (z2 (λk n a=>dK k n x c a) P<|sp P v)=dX P x c v
 | [],_=>rfl
 |p::r,v=>by
  show ld r _*p.2+dK p.1 p.2 x c _=_;rw[pN x c r];rfl
theorem FD:∀(P:PZ) (v:Int),(sp P v).length=P.length
 | [],_=>rfl
 |_::r,v=>congrArg (· + 1)<|FD r _
theorem c7:∀P:PZ,ld P (P.map λp=>eK p.1)=eX P
 | []=>rfl
 |p::r=>by
  show ld r _*p.2+eK p.1=_;rw[c7 r];rfl
theorem cA:∀P:PZ,ld P (P.map λp=>(p.2:Int)-1)+1=(PN P:Int)
 | []=>rfl
 |p::r=>by
  show ld r _*p.2+(_-1)+1=((PN r*p.2:Nat):Int);rw[zzV,<-cA r,Int.add_mul];omega
end G44
end
section
set_option exponentiation.threshold 5000
namespace G44
open PySem PySem.Spec PyProof.Rows PF
def FX(h:KN p.1 p.2)(ha:zQ p.2 a)(hb:zQ p.2 b):w_ [(true,pD p),(true,.int a),(true,.int b)]=sI (jK p.1 p.2 a b):=by
 obtain⟨k,n⟩:=p;have s0:∀{k:Int}{n:Nat},VW zk (gT 2<|yH (gN 3)<|yH P_ XI) [sT<|pD (k,n),sI a,sI b,none,none]=some (.nx [sT<|pD (k,n),sI a,sI b,sI k,sI n]):=O9 (WD.e<|za rfl) rfl
 rcases h with⟨rfl,hn⟩|⟨rfl,hn⟩|⟨rfl,hn⟩|⟨rfl,rfl⟩
 . exact xo rfl<|zo s0<|wB<|yL (eqT (za rfl) zb rfl)<|yT<|zV (zE (za rfl)<|za rfl) (za rfl)<|q0o hn
 . exact xo rfl<|zo s0<|zo (zp (eqT (za rfl) zb rfl) rfl)<|wB<|yL (eqT (za rfl) zb rfl)<|yT<|yx (zg (za rfl)<|zg (za rfl) zq) rfl rfl
 . exact xo rfl<|zo s0<|zo (zp (eqT (za rfl) zb rfl) rfl)<|zo (zp (eqT (za rfl) zb rfl) rfl)<|wB<|yL (eqT (za rfl) zb rfl)<|yT<|Jv (ZM (zu (za rfl)<|zu (za rfl) yp) (Uw rfl) rfl rfl) (WD.e<|yx (zg (UL (za (i:=2) rfl) zb rfl) zq) rfl rfl)<|pC.trans (by show _=some (R0.im<|.int<|jL a b);unfold jL;by_cases h:b=0<;>simp[h])
 . obtain⟨a0,a1⟩:=ha;obtain⟨b0,b1⟩:=hb;have a1:=a1;have b1:=b1;have LL:WE _ [sT<|pD (3,4),sI a,sI b,sI 3,sI (4:Nat)] (.lst [.int<|b/2,.int<|b%2]):=ZM (zu (xN (za (i:=2) rfl) zb (by decide)<|zC (by decide)<|by decide)<|zu (zV (za (i:=2) rfl) zb<|by decide) yp) (Uw rfl) rfl rfl;have pk:∀{i:Int},i=0\/i=1->zx (.lst [.int<|b/2,.int<|b%2]) (.int i)=some (.im<|.int<|iP b i):=λh=>by
    rcases h with rfl|rfl<;>rfl
   have ib:∀i,0<=iP b i/\iP b i<4:=λi=>by unfold iP;split<;>constructor<;>omega
   have:=ib<|a/2;exact xo rfl (zo s0<|zo (zp (eqT (za (i:=3) rfl) zb rfl) rfl)<|zo (zp (eqT (za (i:=3) rfl) zb rfl) rfl)<|zo (zp (eqT (za (i:=3) rfl) zb rfl) rfl)<|yT<|zE (y7 zb (Jv LL (WD.e<|xN (za (i:=1) rfl) zb (by decide)<|zC (by decide)<|by decide)<|pk<|by omega) (zC (by decide)<|by decide)<|zC (by omega)<|by omega)<|Jv LL (WD.e<|zV (za (i:=1) rfl) zb<|by decide)<|pk<|by omega)
theorem ug(x):∀k:Nat,((List.range k).map λi=>x/3 ^ i%3).sum=dS x k
 |0=>rfl
 |k+1=>by
  rw[List.range_succ,zyM,List.sum_append_int,ug x k];show dS x k+(x/3 ^ k%3+0)=dS x k+x/3 ^ k%3;rw[Int.add_zero]
def aj:∀i:Nat,i<7->zx (zi [1,3,9,27,81,243,729]) (.int (i:Int))=some (.im<|.int<|3 ^ i)
 |0,_=>rfl|1,_=>rfl|2,_=>rfl|3,_=>rfl|4,_=>rfl|5,_=>rfl|6,_=>rfl
 |n+7,h=>by omega
def ao:∀i:Nat,i<7->zx (zi [1,6,36,216,1296,7776,46656]) (.int (i:Int))=some (.im<|.int<|6 ^ i)
 |0,_=>rfl|1,_=>rfl|2,_=>rfl|3,_=>rfl|4,_=>rfl|5,_=>rfl|6,_=>rfl
 |n+7,h=>by omega
def pb(b)(h1:1<=b)(h2:b<=6):∀i:Nat,i<7->(0:Int)<b ^ i/\b ^ i<=1000000:=λi hi=>by
 refine⟨Int.pow_pos (by omega), ?_⟩;have e:i=0\/i=1\/i=2\/i=3\/i=4\/i=5\/i=6:=by omega
 have f:b=1\/b=2\/b=3\/b=4\/b=5\/b=6:=by omega
 rcases e with rfl|rfl|rfl|rfl|rfl|rfl|rfl<;>rcases f with rfl|rfl|rfl|rfl|rfl|rfl<;>decide
def l7:WE (yd<|dC (fC<|.int a)<|dC (fC<|.int b)<|dC (fC<|.int c)<|dC (fC<|.int d)<|dC (fC<|.int e)<|dC (fC<|.int f)<|dC (fC<|.int g) dN) as (zi [a,b,c,d,e,f,g]):=ZM (zu zb<|zu zb<|zu zb<|zu zb<|zu zb<|zu zb<|zu zb yp) (Uw rfl) rfl rfl
theorem Ff:∀l:List Int,Qw (l.map D.int)=some l
 | []=>rfl
 |x::l=>by show(Qw _).bind _=_;rw[Ff l];rfl
def S6{n:Nat}{m:Nat}(h:KN k n)(n2:2<=n)(n7:n<=7)(hc:zQ m c)(m6:m<=6)(ha:zQ n a):xy [(true,pD (k,n)),(true,.int x),(true,.int c),(true,.int a)]=sI (dK k n x c a):=by
 obtain⟨a0,a1⟩:=ha;obtain⟨c0,c1⟩:=hc;have s0:∀{k:Int}{n:Nat},VW zk (gT 2<|yH P_<|yH (gN 5) XI) [sT<|pD (k,n),sI x,sI c,sI a,none,none]=some (.nx [sT<|pD (k,n),sI x,sI c,sI a,sI k,sI n]):=O9 (WD.e<|za (i:=0) rfl) rfl;have x0:=zyN x (show(n:Int)≠0 by omega);have x1:=zyH x<|show(0:Int)<n from q0w n2 n7;have y0:=zyN (x/n) (show(n:Int)≠0 by omega);have y1:=zyH (x/n)<|show(0:Int)<n from q0w n2 n7;have nb:((n:Int)).natAbs<big:=zC (by omega) (by omega)
 rcases h with⟨rfl,hn⟩|⟨rfl,hn⟩|⟨rfl,hn⟩|⟨rfl,rfl⟩
 . exact xo rfl<|zo s0<|wB<|yL (eqT (za (i:=4) rfl) zb rfl)<|yT<|zV (zE (y7 (zV (za (i:=1) rfl) (za (i:=5) rfl)<|q0w n2 n7) (za (i:=3) rfl) (zC (by omega)<|by omega)<|zC (q2c a0)<|by omega)<|y7 (zV (xN (za (i:=1) rfl) (za (i:=5) rfl) (q0w n2 n7) nb) (za (i:=5) rfl)<|q0w n2 n7) (za (i:=2) rfl) (zC (by omega)<|by omega)<|zC (q2c c0)<|by omega) (za (i:=5) rfl)<|q0w n2 n7
 . obtain⟨b,rfl⟩:∃b:Nat,a=(b:Int):=⟨a.toNat,q1q a0⟩;have wc:=Qg (h:=λi:Nat=>D.int<|x/3 ^ i%3) (fi:=yG v_ yS) (cap:=[none,some 1]) (gg:=gN 0) (List.range b) (by
    have:=xu (as:=[sT<|pD (1,n),sI x,sI c,sI (b:Int),sI 1,sI n]) (zg (za (i:=3) (x:=.int (b:Int)) (s:=true) rfl) zq) (by omega) (by omega)
    rwa [zyI]at this) (by rw[zyU];omega) λi mi=>by
    have hi:=List.mem_range.mp mi;rw[Int.zero_add];have:=pb 3 (by decide) (by decide) i<|q2o a1 n2 n7 hi;exact⟨[sI i,sI x],rfl,WD.e<|zV (xN (za (i:=1) rfl) (Jv l7 (WD.e<|za (i:=0) (x:=.int i) rfl)<|aj i<|q2o a1 n2 n7 hi) this.1<|zC (q1Z this)<|q2i this) zb<|by decide⟩
   have e1:((List.range b).map λi:Nat=>D.int<|x/3 ^ i%3)=((List.range b).map λi=>x/3 ^ i%3).map D.int:=by rw[zyB];rfl
   rw[e1]at wc;have ws:=yx (g:=ny) (x:=.int<|dS x b) (y_ wc zq) (by
    show(Qw _).bind _=_;rw[Ff,<-ug x b];rfl) rfl
   have wm:=yx (g:=Ss) (zg (Y9 (za (i:=5) (x:=.int n) (s:=true) rfl)<|zb (x:=.int 1))<|zg ws zq) rfl rfl;exact xo rfl<|zo s0<|zo (zp (eqT (za (i:=4) rfl) zb rfl) rfl)<|wB<|yL (eqT (za (i:=4) rfl) zb rfl)<|yT wm
 . obtain⟨b,rfl⟩:∃b:Nat,a=(b:Int):=⟨a.toNat,q1q a0⟩;have q:=pb 6 (by decide) (by decide) b<|q2p a1 n2 n7;have wm:=yx (g:=HA) (zg (zb (as:=[sT<|pD (2,n),sI x,sI c,sI (b:Int),sI 2,sI n]) (x:=.int 1))<|zg (Y9 (za (i:=5) (x:=.int n) (s:=true) rfl)<|zb (x:=.int 1)) zq) (by
    show some _=_
    split
    . rfl
    . rw[show(n:Int)-1=1 by omega]) rfl
   have r0:=zyN (x/6 ^ b) (show(n:Int)-1≠0 by omega);have r1:=zyH (x/6 ^ b)<|show(0:Int)<(n:Int)-1 from q2r n2 n7;have wi:=yx (g:=G8) (x:=.int<|if(0:Int)<b then 1 else 0) (zg (zw (g:=zz .Gt) (z:=.bl<|decide ((0:Int)<b)) (za (as:=[sT<|pD (2,n),sI x,sI c,sI (b:Int),sI 2,sI n]) (i:=3) (x:=.int (b:Int)) (s:=true) rfl) (zb (x:=.int 0)) rfl rfl) zq) (by
    by_cases h:(0:Int)<b
    . rw[zyO h,if_pos h];rfl
    . rw[zyG h,if_neg h];rfl) rfl
   have wv:=y7 wi (zE (zb (x:=.int 1))<|zV (xN (za (i:=1) (x:=.int x) (s:=true) rfl) (Jv l7 (WD.e<|za (i:=3) (x:=.int (b:Int)) rfl)<|ao b<|q2p a1 n2 n7) q.1<|zC (q1Z q)<|q2i q) wm<|q2r n2 n7) (zC (by split<;>decide)<|by split<;>decide) (zC (by omega)<|by omega);have e2:(if(0:Int)<b then(1:Int)else 0)*(1+x/6 ^ b%((n:Int)-1))=dK 2 n x c (b:Int):=by
    show _=if(0:Int)<b then 1+x/6 ^ (((b:Nat):Int)).toNat%((n:Int)-1)else 0
    rw[zyI]
    split
    . rw[Int.one_mul]
    . rw[Int.zero_mul]
   rw[e2]at wv;exact xo rfl<|zo s0<|zo (zp (eqT (za (i:=4) rfl) zb rfl) rfl)<|zo (zp (eqT (za (i:=4) rfl) zb rfl) rfl)<|wB<|yL (eqT (za (i:=4) rfl) zb rfl)<|yT wv
 . have tt:WT (fT<|f2 (f2 zm yy zO) zW<|zz .Eq) [sT<|pD (3,4),sI x,sI c,sI a,sI 3,sI (4:Nat)] (x%2==0):=eqT (zV (za (i:=1) rfl) zb<|by decide) zb rfl;have pre:∀{o:Option Out}{f g:SF},zh f g [sT<|pD (3,4),sI x,sI c,sI a,sI 3,sI (4:Nat)]=o->zh f g [sT<|pD (3,4),sI x,sI c,sI a,sI 3,sI (4:Nat)]=o:=λh=>h
   by_cases e:x%2=0
   . rw[show(x%2==0)=true by simp[e]]at tt;have d:dK 3 4 x c a=a:=if_pos e;rw[d];exact xo rfl<|zo s0<|zo (zp (eqT (za (i:=4) rfl) zb rfl) rfl)<|zo (zp (eqT (za (i:=4) rfl) zb rfl) rfl)<|zo (zp (eqT (za (i:=4) rfl) zb rfl) rfl)<|wB<|yL tt<|yT<|za (i:=3) rfl
   . rw[show(x%2==0)=false by simp[e]]at tt;have d:dK 3 4 x c a=sP a:=if_neg e;rw[d];exact xo rfl (zo s0<|zo (zp (eqT (za (i:=4) rfl) zb rfl) rfl)<|zo (zp (eqT (za (i:=4) rfl) zb rfl) rfl)<|zo (zp (eqT (za (i:=4) rfl) zb rfl) rfl)<|zo (zp tt rfl)<|yT<|Y9 (zE (y7 zb (Y9 zb<|zV (za (i:=3) rfl) zb<|by decide) (zC (by decide)<|by decide)<|zC (by omega)<|by omega) zb)<|xN (za (i:=3) rfl) zb (by decide)<|zC (by decide)<|by decide)
def Bv{m:Nat}(h:KN p.1 p.2/\2<=p.2/\p.2<=7)(hc:zQ m c)(m6:m<=6)(ha:zQ p.2 a):xy [(true,pD p),(true,.int x),(true,.int c),(true,.int a)]=sI (dK p.1 p.2 x c a):=S6 h.1 h.2.1 h.2.2 hc m6 ha
def PK.tail(h:PK (p::P)):PK P:=λq m=>h q<|zzD _ m
abbrev bC:SF:=(zh (yo<|ZQ 2 (dC (f2 zm zY zO) dN) ZS)
 (zr true 1<|f2 zm zY zK))
theorem AL:∀(P:PZ) (v:Int) (acc:List Int) (e3 e4:Option O),PK P->acc.length+P.length<=900->∃v' e3' e4',forL (gT 2<|yH (gN 3)<|yH P_ XI) bC (P.map λp=>(true,pD p)) [B,sI v,some<|xO acc,e3,e4]=some (.nx [B,sI v',some<|xO<|acc++sp P v,e3',e4'])
 | [],v,acc,e3,e4,_,_=>⟨v,e3,e4,by rw[show acc++sp [] v=acc from zyE _];rfl⟩
 |p::P,v,acc,e3,e4,h,hl=>by
  have hp:=(h p<|zzF ..).2;rw[zzT]at hl;obtain⟨v',f3,f4,hf⟩:=AL P _ (acc++[v%p.2]) (sI p.1) (sI p.2) h.tail (by rw[zzJ];show acc.length+1+P.length<=900;exact q1H hl);rw[zxC]at hf;refine⟨v',f3,f4,vG rfl (zo (as1:=[B,sI v,some _,sI p.1,sI p.2]) ?_<|zJ (xN (za rfl) (za rfl) (q2j hp)<|zC (by omega)<|by omega)<|ze rfl) hf⟩;have ap:=P7 (i:=2) (as:=[B,sI v,some<|xO acc,sI p.1,sI p.2]) rfl (zV (za (i:=1) rfl) (za (i:=4) rfl)<|q2j hp) rfl (by rw[zzB];exact slt<|q1F hl);rw[<-SE]at ap;exact ap
def Df(h:PK P)(hl:P.length<=10):V_ [(true,Qq P),(true,.int v)]=some (xO<|sp P v):=by
 obtain⟨v',e3,e4,hf⟩:=AL P v [] none none h (by show 0+_<=_;omega);have it:Zq zk [sT<|Qq P,sI v,some<|xO [],none,none]=some (P.map λp=>(true,pD p),[sT<|Qq P,sI v,some<|xO [],none,none]):=by
  have:=Mv<|WD.e<|za (as:=[sT<|Qq P,sI v,some<|xO [],none,none]) (i:=0) rfl;rw[zyB]at this;exact this
 exact xo rfl<|zo (xt (vz yp<|Uw rfl)<|ze rfl)<|zo (yh it hf)<|Ud rfl (ZV _).2.1
def gX(h:WD f as true (.lst ds)):WE (Rj f oN (oS<|f1 zL HR) kh) as (.lst ds.reverse):=by
 refine⟨.nd .ls _, ?_,P4 _,congrArg D.lst<|Gp _⟩;unfold WD at h;unfold Rj;rw[h];show(if _=true then some (RV.ow<|.nd .ls<|ds.reverse.map<|Iu true)else none:Option RV).bind _=_;rw[if_pos<|by simp];show some _=_;rw[show(Iu true)=O.lf true from funext λd=>by show O.lf _ d=_;rw[zyD]]
theorem QI:∀(P:PZ) (ds:List Int),Ut true (P.map pD) (ds.map D.int)=(P.zip ds).map λq=>(true,D.tup [pD q.1,.int q.2])
 | [],_=>rfl
 |_::_,[]=>rfl
 |p::P,d::ds=>congrArg (_ :: ·)<|QI P ds
theorem Ip:∀(P:PZ) (ds:List Int),P.length=ds.length->(P.zip ds).foldr (λq v=>v*(q.1.2:Int)+q.2) 0=ld P ds
 | [],[],_=>rfl
 | [],_::_,h=>by simp at h
 |_::_,[],h=>by simp at h
 |p::P,d::ds,h=>by
  show(P.zip ds).foldr _ 0*_+d=ld P ds*p.2+d;rw[Ip P ds<|by simpa using h]
abbrev bM:SF:=jw
theorem J6:∀(l:List ((Int×Nat)×Int)) (v:Int) (e3 e4:Option O),(∀q ∈ l,q.1.2<=7)->∃e3' e4',forL (gT 2<|yH (gN 3)<|yH P_ XI) bM (l.map λq=>(true,D.tup [pD q.1,.int q.2])) [B,C,sI v,e3,e4]=some (.nx [B,C,sI<|l.foldl (λv q=>v*(q.1.2:Int)+q.2) v,e3',e4'])
 | [],v,e3,e4,_=>⟨e3,e4,rfl⟩
 |q::l,v,e3,e4,h=>by
  have hq:=h q<|zzF ..;obtain⟨f3,f4,hf⟩:=J6 l _ _ (sI q.2) λx m=>h x<|zzD _ m;exact⟨f3,f4,vG rfl (zJ (zE (Bn (za rfl) (zw (za rfl) (zb) rfl rfl)<|Nat.lt_of_le_of_lt (show((q.1.2:Int)).natAbs<=7 by omega)<|by decide)<|za rfl)<|ze rfl) hf⟩
def Bp(h:PK P)(hl:P.length=ds.length):xx [(true,Qq P),(true,zi ds)]=sI (ld P ds):=by
 obtain⟨e3,e4,hf⟩:=J6 (P.zip ds).reverse 0 none none λq m=>by
  have:=List.of_mem_zip<|List.mem_reverse.mp<|m;exact(h _ this.1).2.2
 rw[List.foldl_reverse,Ip P ds hl]at hf;have ez:(P.zip ds).reverse=P.reverse.zip ds.reverse:=List.reverse_zipWith hl;have w1:=gX (as:=[sT<|Qq P,sT<|zi ds,sI 0,none,none])<|za (i:=0) rfl;have w2:=gX (as:=[sT<|Qq P,sT<|zi ds,sI 0,none,none])<|za (i:=1) rfl;rw[<-List.map_reverse]at w1 w2;have it:VR oo [sT<|Qq P,sT<|zi ds,sI 0,none,none]=some ((P.zip ds).reverse.map λq=>(true,D.tup [pD q.1,.int q.2]),[sT<|Qq P,sT<|zi ds,sI 0,none,none]):=by
  rw[ez,<-QI];have hw:=y_ w1<|y_ w2<|zq;unfold WA at hw;unfold VR oo;rw[hw];rfl
 exact xo rfl<|zo (zJ zb<|ze rfl)<|zo (yh it hf)<|yT<|za rfl
def tN{i:Nat}(h:as[i]? = some (some<|xO l))(hl:l.length<900)(ha:WD a as true (.int k))(hb:WD b as true (.int v))(k0:0<=k)(k1:k<1000):∃l':List Int,l'.Perm (v::l)/\yo (ZQ i (dC a<|dC b dN) H9) as=some (.nx<|as.set i<|some<|xO l'):=by
 refine⟨l.take _++v::l.drop (UA k l.length),List.perm_middle.trans (by rw[List.take_append_drop]), ?_⟩;unfold yo ZQ;rw[h];have e:=zu ha<|zu hb yp;rw[e];show(Option.bind (match as[i]? with|some (some<|.nd .ls os)=>_|_=>none) _)=_;rw[h];show((H9 _ _).bind _).bind _=_;have e2:H9 (l.map BY) [.lf true<|.int k,BY v]=some ((l.take (UA k l.length)++v::l.drop (UA k l.length)).map BY,.lf true .non):=by
  unfold H9;show(if _/\(l.map BY).length<sizeLine then _ else _)=_;rw[if_pos ⟨⟨by omega,by omega⟩,by rw[zzB];exact slt<|q0s hl⟩,zzB,zyM,zyS,List.map_take,List.map_drop]
 rw[e2];rfl
def Du{n:Nat}(n8:n<=8):∃F:List Int,F.Perm (Kr n)/\RE (Qt [(true,.int x),(true,.int n)]) (zi F):=by
 obtain⟨as',hf,x',F,e3,rfl,hp⟩:=yP (g:=gN 3) (f:=(zh _
  (zr true 0<|f2 zk (f2 zF zL zt) zK)))
  (λi as=>∃(x':Int) (F:List Int) (e3:Option O),as=[sI x',sI n,some<|xO F,e3]/\F.Perm (Kr i)) (yY 0 n) 0 [sI x,sI n,some<|xO [],none] (λi z as hz hI=>by
   obtain⟨x',F,e3,rfl,hp⟩:=hI;obtain⟨rfl,hi⟩:=x_ hz;rw[zyX]at hp ⊢;rw[Int.zero_add];have fl:F.length=i:=by rw[hp.length_eq,zzB,zyU]
   have q0:=zyN x' (show(i:Int)+1≠0 by omega);have q1:=zyH x' (show 0<(i:Int)+1 from q0W fl);obtain⟨F',p',hs⟩:=tN (as:=[sI x',sI n,some<|xO F,sI i]) (i:=2) rfl (by omega) (zV (za (i:=0) rfl) (zE (za (i:=3) rfl)<|zb)<|q0W fl) (za (i:=3) rfl) q0 (by omega);refine⟨_,rfl,_,zo hs<|zJ (xN (za rfl) (zE (za rfl)<|zb) (q0W fl)<|zC (by omega)<|by omega)<|ze rfl,_,F',_,rfl, ?_⟩;show F'.Perm ((List.range _).map λ(i:Nat)=>_);rw[List.range_succ,zyM];exact p'.trans<|(hp.cons _).trans (List.perm_append_singleton _ _).symm)
  ⟨x,[],none,rfl,List.Perm.refl _⟩
 rw[xi,zyX]at hp;have hrun:=xu (as:=[sI x,sI n,some<|xO [],none]) (zg (za (i:=1) rfl) zq) (by omega) (by omega);rw[zyI]at hrun;exact⟨F,hp,zH rfl<|zc (xt (vz yp<|Uw rfl)<|ze rfl)<|zc (yh hrun hf) ⟨_,Ud rfl (ZV F).2.1,(XA F).1,(XA F).2⟩⟩
def WL(fr:DF)(as:AS)(xs:List D):Prop:=∃os,fr as=some (os,as)/\O.strs os=true/\O.toDs os=xs
def Z_:WL dN as []:=⟨[],rfl,rfl,rfl⟩
def zR(h:WE a as x)(t:WL fr as xs):WL (dC a fr) as (x::xs):=by
 obtain⟨o,h1,h2,h3⟩:=h;obtain⟨os,t1,t2,t3⟩:=t;refine⟨o::os,De h1 t1, ?_, ?_⟩
 . show(o.str&&O.strs os)=_;rw[h2,t2];rfl
 . show o.toD::O.toDs os=_;rw[h3,t3]
def Y0(h:WL fr as xs)(hl:Nat.ble xs.length 1000=true):WE (yd fr) as (.lst xs):=by
 obtain⟨os,h1,h2,h3⟩:=h;have e:os.length=xs.length:=by rw[<-h3,QA]
 exact ZM h1 (by rw[e];exact Uw hl) h2<|congrArg D.lst h3
noncomputable def bj:List PZ:=[[(0,3)],[(2,3)],[(1,4)],[(0,2),(2,2)],[(3,4)],[(2,4)],[(0,2),(1,3)],[(0,5)],[(2,2),(3,4)],[(1,2),(2,3)],[(0,4)],[(3,4)],[(1,6)],[(0,2),(3,4)],[(2,7)],[(0,6)]]
def dI(P:PZ):Bool:=P.all (λp=>((p.1==0&&p.2<=6)||p.1==1||p.1==2||(p.1==3&&p.2==4))&&2<=p.2&&p.2<=7)&&PN P<=8&&P.tail.all (λp=>p.1 != 0)&&P.length<=2&&P != []
def tu:∀P ∈ bj,dI P=true:=by decide
structure Pt(P:PZ):Prop where
 k:PK P
 n8:PN P<=8
 tl:∀p ∈ P.tail,p.1≠0
 l2:P.length<=2
 ne:P≠[]
 z6:∀p ∈ P,p.1=0->p.2<=6
def i_(h:dI P=true):Pt P:=by
 unfold dI at h;simp only[zyC,List.all_eq_true,Bool.or_eq_true,beq_iff_eq,decide_eq_true_eq,bne_iff_ne,ne_eq]at h;obtain⟨⟨⟨⟨h1,h2⟩,h3⟩,h4⟩,h5⟩:=h;refine⟨λp mp=>?_,h2,h3,h4,h5,λp mp e=>?_⟩
 . obtain⟨⟨h,a⟩,b⟩:=h1 p mp;refine⟨?_,a,b⟩
   rcases h with((h|h)|h)|h
   . exact .inl ⟨h.1,by omega⟩
   . exact .inr<|.inl ⟨h,q1I a b⟩
   . exact .inr<|.inr<|.inl ⟨h,q1I a b⟩
   . exact .inr<|.inr<|.inr ⟨h.1,h.2⟩
 . obtain⟨⟨h,a⟩,b⟩:=h1 p mp
   rcases h with((h|h)|h)|h
   . exact h.2
   . omega
   . omega
   . omega
def eP{n:Nat}:WE (yj<|dC (fC<|.int k)<|dC (fC<|.int (n:Int)) dN) as (pD (k,n)):=yu (WD.e zb)<|WD.e zb
def Ak{n:Nat}:WE (yd<|dC (yj<|dC (fC<|.int k)<|dC (fC<|.int (n:Int)) dN) dN) as (Qq [(k,n)]):=Y0 (zR eP Z_) rfl
def gM{n m:Nat}:WE (yd<|dC (yj<|dC (fC<|.int k)<|dC (fC<|.int (n:Int)) dN)<|dC (yj<|dC (fC<|.int l)<|dC (fC<|.int (m:Int)) dN) dN) as (Qq [(k,n),(l,m)]):=Y0 (zR eP<|zR eP Z_) rfl
def Ji(x):∃P:PZ,Pt P/\RE (Ql [(true,.int x)]) (Qq P):=by
 have q0:=zyN x (show(16:Int)≠0 by decide);have q1:=zyH x (show(0:Int)<16 by decide);obtain⟨P,hP,mP⟩:=nY Qq (T:=bj) q0 q1 tu;have s1:=yJ (p:=1) (as:=[sI x,none]) (Y0 (zR (Ak (k:=0) (n:=3))<|zR (Ak (k:=2) (n:=3))<|zR (Ak (k:=1) (n:=4))<|zR (gM (k:=0) (n:=2) (l:=2) (m:=2))<|zR (Ak (k:=3) (n:=4))<|zR (Ak (k:=2) (n:=4))<|zR (gM (k:=0) (n:=2) (l:=1) (m:=3))<|zR (Ak (k:=0) (n:=5)) Z_) rfl)<|ze rfl;have s2:=yJ (p:=1) (as:=[sI x,sT<|.lst<|([[(0,3)],[(2,3)],[(1,4)],[(0,2),(2,2)],[(3,4)],[(2,4)],[(0,2),(1,3)],[(0,5)]]:List PZ).map Qq]) (JI (WD.e<|za (i:=1) rfl) (Y0 (zR (gM (k:=2) (n:=2) (l:=3) (m:=4))<|zR (gM (k:=1) (n:=2) (l:=2) (m:=3))<|zR (Ak (k:=0) (n:=4))<|zR (Ak (k:=3) (n:=4))<|zR (Ak (k:=1) (n:=6))<|zR (gM (k:=0) (n:=2) (l:=3) (m:=4)) Z_) rfl)<|add_lists<|Uw rfl)<|ze rfl;have s3:=yJ (p:=1) (as:=[sI x,sT<|.lst<|([[(0,3)],[(2,3)],[(1,4)],[(0,2),(2,2)],[(3,4)],[(2,4)],[(0,2),(1,3)],[(0,5)],[(2,2),(3,4)],[(1,2),(2,3)],[(0,4)],[(3,4)],[(1,6)],[(0,2),(3,4)]]:List PZ).map Qq]) (JI (WD.e<|za (i:=1) rfl) (Y0 (zR (Ak (k:=2) (n:=7))<|zR (Ak (k:=0) (n:=6)) Z_) rfl)<|add_lists<|Uw rfl)<|ze rfl;exact⟨P,i_ mP,zH rfl<|zc s1<|zc s2<|zc s3<|zA<|WD.e<|yt (za (i:=1) rfl) (zV (za (i:=0) rfl) zb<|by decide) hP⟩
section
variable{α:Type}{fi:IF}{cap:List (Option Nat)}{gg:GF}{fe:EF}{as:AS}{it:α->Zj}
def ES(l:List α)(h1:fi as=some (l.map it,as))(hl:l.length<=1000)(H:∀q ∈ l,∃as1,gg (it q) (Yq cap as)=some as1/\WD fe as1 true (.int<|h q)):zU fi cap gg yD fe as=some (.ow<|xO<|l.map h,as):=by
 have c:∀l:List α,(∀q ∈ l,∃as1,gg (it q) (Yq cap as)=some as1/\WD fe as1 true (.int<|h q))->xB gg yD fe (Yq cap as) (l.map it)=some ((l.map h).map BY):=by
  intro l
  induction l with
  |nil=>exact λ_=>rfl
  |cons q l ih=>
   intro H;obtain⟨as1,a,b⟩:=H q<|zzF ..;exact To a b<|ih λz m=>H z<|zzD _ m
 exact Pz h1 (by rw[zzB];exact JA<|q0t hl)<|c l H
def AM(l:List α)(h1:fi as=some (l.map it,as))(hl:l.length<=1000)(H:∀q ∈ l,∃as1,gg (it q) (Yq cap as)=some as1/\WE fe as1 (h q)):∃os,zU fi cap gg yD fe as=some (.ow<|.nd .ls os,as)/\O.strs os=true/\O.toDs os=l.map h:=by
 have c:∀l:List α,(∀q ∈ l,∃as1,gg (it q) (Yq cap as)=some as1/\WE fe as1 (h q))->∃os,xB gg yD fe (Yq cap as) (l.map it)=some os/\O.strs os=true/\O.toDs os=l.map h:=by
  intro l
  induction l with
  |nil=>exact λ_=>⟨[],rfl,rfl,rfl⟩
  |cons q l ih=>
   intro H;obtain⟨as1,a,o,b1,b2,b3⟩:=H q<|zzF ..;obtain⟨os,c1,c2,c3⟩:=ih λz m=>H z<|zzD _ m;refine⟨o::os,S_ a b1 b2 c1, ?_, ?_⟩
   . show(o.str&&O.strs os)=_;rw[b2,c2];rfl
   . show o.toD::O.toDs os=_;rw[b3,c3];rfl
 obtain⟨os,c1,c2,c3⟩:=c l H;exact⟨os,Pz h1 (by rw[zzB];exact JA<|q0t hl) c1,c2,c3⟩
end
def qf{n:Nat}(h:WA fr as [(u,.int n)])(hn:n<=1000):yG fr yS as=some ((List.range n).map λi:Nat=>(true,D.int<|0+(i:Int)),as):=by
 have:=xu h (q2q hn) (by omega)
 rwa [zyI]at this
theorem any_ints(b):∀r:List Int,∃t,anyF (λy=>Xi 50 y<|.int b) (r.map D.int)=some t
 | []=>⟨_,rfl⟩
 |x::r=>by
  obtain⟨t,h⟩:=any_ints b r;refine⟨(x==b)||t, ?_⟩;show(some _).bind _=_;rw[zyL,h];rfl
theorem Sq:∀{r:List Int},b ∈ r->∃j:Nat,j<r.length/\r[j]? = some b/\B0 (λy=>Xi 50 y<|.int b) (r.map D.int)=some j
 |x::r,m=>by
  by_cases e:x=b
  . obtain⟨t,h⟩:=any_ints b r;refine⟨0,Nat.succ_pos _,by rw[e];rfl, ?_⟩;show(some _).bind _=_;rw[zyL,show(x==b)=true by simp[e]];rw[h];rfl
  . obtain⟨j,h1,h3,h2⟩:=Sq<|(zzC.mp m).resolve_left λz=>e z.symm;refine⟨j+1,Nat.succ_lt_succ h1,by simpa using h3, ?_⟩;show(some _).bind _=_;rw[zyL,show(x==b)=false by simp[e]];rw[h2];rfl
def Fl(r:List Int)(b:Int):Int:=(((B0 (λy=>Xi 50 y<|.int b)<|r.map D.int).getD 0:Nat):Int)
def Dk{n:Nat}(hl:r.length=n)(hb:b ∈ r):zQ n (Fl r b)/\Zw r (Fl r b)=b/\B0 (λy=>Xi 50 y<|.int b) (r.map D.int)=some (Fl r b).toNat:=by
 obtain⟨j,j1,j2,j3⟩:=Sq hb;have e:Fl r b=(j:Int):=by unfold Fl;rw[j3];rfl
 rw[e,zyI];refine⟨⟨by omega,by omega⟩, ?_,j3⟩;unfold Zw;rw[zyI,j2];rfl
def ay{i j:Nat}(hl:r.length<=1000)(hx:x ∈ r)(hi:as[i]? = some (sT<|zi r))(hj:as[j]? = some (sI x)):WD (Eg .lst (fV i) (aC (fV j) aN) OE) as true (.int<|Fl r x):=by
 obtain⟨a1,a2,a3⟩:=Dk rfl hx;refine sr (za hi) rfl (zg (za hj) zq) ?_ rfl;show(B0 _ _).bind _=_;rw[a3];show(if(r.map D.int).length<=1000 then some _ else none)=_;rw[if_pos (by rw[zzB];exact hl),show(((Fl r x).toNat:Nat):Int)=Fl r x by have:=a1.1;omega]
section
variable{n:Nat}{F:List Int}
def Xw(h:F.Perm (Kr n))(hx:zQ n x):zQ n (Fl F x)/\Zw F (Fl F x)=x:=
 have k:=Dk (xY h).1.1 ((xY h).2 x hx.1 hx.2)
 ⟨k.1,k.2.1⟩
def Ub(h:F.Perm (Kr n))(hv:zQ n v):zQ n (Zw F v):=(rowAt (xY h).1 hv).2
def L4(h:F.Perm (Kr n))(ha:zQ n a):Fl F (Zw F a)=a:=
 have k:=Xw h (Ub h ha)
 Do h k.1 ha k.2
end
def pin:PZ->List Int->Prop
 | [],[]=>True
 |p::P,a::s=>zQ p.2 a/\pin P s
 |_,_=>False
theorem BV:∀{P:PZ},PK P->∀v,pin P<|sp P v
 | [],_,_=>trivial
 |p::P,h,v=>⟨Uv (by have:=(h p<|zzF ..).2.1;exact q0d this),BV h.tail _⟩
theorem J8(f):∀{P:PZ}{s t:List Int},pin P s->pin P t->P.length=(z3 f P s t).length
 | [],[],[],_,_=>rfl
 |_::_,_::_,_::_,h,k=>congrArg (· + 1)<|J8 f h.2 k.2
 | [],_::_,_,h,_=>h.elim
 |_::_,[],_,h,_=>h.elim
 | [],[],_::_,_,h=>h.elim
 |_::_,_::_,[],_,h=>h.elim
theorem Ax(f):∀{P:PZ}{s:List Int},pin P s->P.length=(z2 f P s).length
 | [],[],_=>rfl
 |_::_,_::_,h=>congrArg (· + 1)<|Ax f h.2
 | [],_::_,h=>h.elim
 |_::_,[],h=>h.elim
abbrev cX:EF:=zj (aC zk<|aC zm Zx) w_
theorem p3:∀{P:PZ}{s t:List Int},PK P->pin P s->pin P t->xB mQ yD cX [none,none,none] (Xn true (P.map pD) (s.map D.int)<|t.map D.int)=some ((z3 jK P s t).map BY)
 | [],[],[],_,_,_=>rfl
 |p::P,a::s,b::t,h,ha,hb=>To rfl (Yt (zg (za rfl)<|zg (za rfl)<|zg (za rfl) zq)<|FX (h p<|zzF ..).1 ha.1 hb.1)<|p3 h.tail ha.2 hb.2
 | [],_::_,_,_,h,_=>h.elim
 |_::_,[],_,_,h,_=>h.elim
 | [],[],_::_,_,_,h=>h.elim
 |_::_,_::_,[],_,_,h=>h.elim
abbrev cJ:EF:=zj (aC zk<|aC zD<|aC zF xQ) xy
theorem qZ{m:Nat}(hc:zQ m c)(m6:m<=6):∀{P:PZ}{s:List Int},PK P->pin P s->xB (gT 2<|yH xm<|yH (gN 1) XI) yD cJ [none,none,sI x,sI c] (Ut true (P.map pD)<|s.map D.int)=some ((z2 (λk n a=>dK k n x c a) P s).map BY)
 | [],[],_,_=>rfl
 |p::P,a::s,h,ha=>To rfl (Yt (zg (za rfl)<|zg (za rfl)<|zg (za rfl)<|zg (za rfl) zq)<|Bv (h p<|zzF ..) hc m6 ha.1)<|qZ hc m6 h.tail ha.2
 | [],_::_,_,h=>h.elim
 |_::_,[],_,h=>h.elim
def rG(h:PK P)(l2:P.length<=2):WD (zj (aC zm<|aC (zU (CV<|aC zm<|aC zD Zv) [none,none,none] mQ yD cX) aN) xx) [sT<|zi<|sp P v,sT<|Qq P,sT<|zi<|sp P u] true (.int<|jX P u v):=by
 have p1:=BV h u;have p2:=BV h v;have it:CV (aC zm<|aC zD Zv) [sT<|zi<|sp P v,sT<|Qq P,sT<|zi<|sp P u]=some (Xn true (P.map pD) ((sp P u).map D.int)<|(sp P v).map D.int,[sT<|zi<|sp P v,sT<|Qq P,sT<|zi<|sp P u]):=by
  show(if(P.map pD).length=((sp P u).map D.int).length/\((sp P u).map D.int).length=((sp P v).map D.int).length then _ else _)=_;rw[if_pos<|by simp only[zzB,FD,and_self]];rfl
 have wc:=Pz (cap:=[none,none,none]) it (by rw[Gb _ _ _ _ (by simp only[zzB,FD]) (by simp only[zzB,FD]),zzB];exact JA<|by omega)<|p3 h p1 p2;have:=HP (WD.e<|za (i:=1) rfl) (TM wc)<|Bp h<|J8 jK p1 p2
 rwa [pz]at this
def iy{m:Nat}(h:PK P)(l2:P.length<=2)(hc:zQ m c)(m6:m<=6):WD (zj (aC zm<|aC (zU (VR<|aC zm Zv) [none,none,some 2,some 3] (gT 2<|yH xm<|yH (gN 1) XI) yD cJ) aN) xx) [sT<|zi<|sp P v,sT<|Qq P,sI x,sI c] true (.int<|dX P x c v):=by
 have p1:=BV h v;have it:VR (aC zm Zv) [sT<|zi<|sp P v,sT<|Qq P,sI x,sI c]=some _:=rfl;have wc:=Pz (cap:=[none,none,some 2,some 3]) it (by rw[RH,zzB];exact JA<|by omega)<|qZ hc m6 h p1;have:=HP (WD.e<|za (i:=1) rfl) (TM wc)<|Bp h<|Ax _ p1
 rwa [pN]at this
def DN{n:Nat}{S:List O->Option O->AS}{w:Nat->Option O}(hn:n<=900)(H:∀i,i<n->∀os e,os.length<900->g (it i) (S os e)=some (S os<|w i)/\f (S os<|w i)=some (.nx<|S (os++[v i])<|w i))(e0):∃e',forL g f ((List.range n).map it) (S [] e0)=some (.nx<|S ((List.range n).map v) e'):=by
 obtain⟨as',hf,e',rfl⟩:=yP (λi as=>∃e,as=S ((List.range i).map v) e) _ 0 _ (λi x as hx hI=>by
  obtain⟨e,rfl⟩:=hI;rw[zyX];have hi:i<n:=by
   have:=(zzG.mp hx).1
   rwa [zzB,zyU]at this
  rw[zzI,List.getElem?_range hi]at hx;cases hx;obtain⟨h1,h2⟩:=H i hi ((List.range i).map v) e (by rw[zzB,zyU];omega);exact⟨_,h1,_,h2,w i,by rw[List.range_succ,zyM];rfl⟩) ⟨e0,rfl⟩
 rw[zzB,zyU,zyX]at hf;exact⟨e',hf⟩
def pY{i:Nat}(h:as[i]? = some (some<|.lf s<|zi r)):xS (fV i) as=some (r.map λx=>(true,D.int x),as):=by
 refine sC (za h) ?_;show some _=_;unfold kids;rw[zyB];rfl
def kI{i:Nat}(h:as[i]? = some (some<|Oy T)):xS (fV i) as=some (T.map λr=>(false,zi r),as):=by
 unfold xS;rw[Cz h];show((match as[i]? with|some (some<|.nd .ls os)=>some _|some (some<|.nd .tp os)=>some _|_=>none:Option _).bind λl=>some _)=_;rw[h];show some _=_;unfold LO;rw[zyB]
 congr 2
 refine List.map_congr_left λr _=>?_;show(false,(xO r).toD)=_;rw[(XA r).2]
section
variable{n m:Nat}{F:List Int}{P:PZ}
def cL{i:Nat}(hF:Row n F)(hi:as[i]? = some (some<|Oy T))(hc:∀d:Zj,gN 0 d (Yq [none,some 5] as)=some [some<|.lf d.1 d.2,sT<|zi F])(hl:T.length<=900)(hr:∀r ∈ T,r.length<=900/\∀x ∈ r,zQ n x):∃os,zU (xS<|fV i) [none,some 5] xm yD JZ as=some (.ow<|.nd .ls os,as)/\O.strs os=true/\O.toDs os=(T.map λr=>r.map<|Zw F).map zi:=by
 obtain⟨os,h1,h2,h3⟩:=AM T (kI hi) (q0b hl) λr mr=>by
  refine⟨_,hc _, ?_⟩;have wi:=ES (as:=[some<|.lf false<|zi r,sT<|zi F]) (cap:=[none,some 1]) (gg:=gN 0) r (pY (i:=0) rfl) (by have:=(hr r mr).1;exact q0b this) λx mx=>⟨_,rfl,zw (za (i:=1) rfl) (za (i:=0) rfl) (rowAt hF<|(hr r mr).2 x mx).1 rfl⟩;exact TM wi
 exact⟨os,h1,h2,by rw[h3,zyB];rfl⟩
def rS(P:PZ)(F:List Int)(n a:Nat):List Int:=(List.range n).map λb:Nat=>jX P (Fl F a)<|Fl F b
def FZ(P:PZ)(F:List Int)(n:Nat):TZ:=((List.range n).map<|rS P F n).map λr=>r.map<|Zw F
def DU(P:PZ)(F:List Int)(n:Nat)(x:Int)(c:Nat):List Int:=(List.range n).map λa:Nat=>dX P x c<|Fl F a
def oI(P:PZ)(F:List Int)(n m:Nat)(x:Int):TZ:=((List.range m).map<|DU P F n x).map λr=>r.map<|Zw F
def tX(hv:zQ n v):Zw ((List.range n).map g) v=g v.toNat:=by
 unfold Zw;have:=hv.1;have:=hv.2;rw[zzI,List.getElem?_range<|by omega];rfl
def Dr{k:Nat}{g:Nat->Nat->Int}(hu:zQ k u)(hv:zQ n v):yi (((List.range k).map λa=>(List.range n).map<|g a).map λr=>r.map<|Zw F) u v=Zw F (g u.toNat v.toNat):=by
 have:=hu.1;have:=hu.2;unfold yi;rw[zzI,zzI,List.getElem?_range (show u.toNat<k by omega)];show Zw (((List.range n).map _).map _) v=_;rw[zyB,tX hv];rfl
def Cs{k:Nat}{g:Nat->Nat->Int}(hF:Row n F)(hg:∀a b,a<k->b<n->zQ n (g a b)):Tab k n (((List.range k).map λa=>(List.range n).map<|g a).map λr=>r.map<|Zw F):=by
 refine⟨by rw[zzB,zzB,zyU],λr mr=>?_⟩;obtain⟨q,mq,rfl⟩:=zxD.mp mr;obtain⟨a,ma,rfl⟩:=zxD.mp mq;refine⟨by rw[zzB,zzB,zyU],λx mx=>?_⟩;obtain⟨y,my,rfl⟩:=zxD.mp mx;obtain⟨b,mb,rfl⟩:=zxD.mp my;exact(rowAt hF<|hg a b (List.mem_range.mp ma)<|List.mem_range.mp mb).2
def OH{i:Nat}(h:i<n):zQ n (i:Int):=⟨q0a,q0h h⟩
def p9(hP:PK P)(hn:n=PN P)(hF:F.Perm (Kr n)){a b:Nat}(ha:a<n)(hb:b<n):zQ n (jX P (Fl F a)<|Fl F b):=by
 have:=(ki hP).cl;rw[<-hn]at this;exact this _ _ (Xw hF<|OH ha).1 (Xw hF<|OH hb).1
def pV(hP:PK P)(hn:n=PN P)(m1:1<=m)(hm:∀p ∈ P,p.1=0->m=p.2)(hF:F.Perm (Kr n)){c a:Nat}(hc:c<m)(ha:a<n):zQ n (dX P x c<|Fl F a):=by
 have:=(eu (x:=x) m1 hP hm).cl;rw[<-hn]at this;exact this _ _ (OH hc) (Xw hF<|OH ha).1
def IA(hP:PK P)(hn:n=PN P)(hF:F.Perm (Kr n)):Tab n n (FZ P F n)/\LJ n (yi<|FZ P F n) (Zw F<|eX P)/\∀a b,zQ n a->zQ n b->yi (FZ P F n) (Zw F a) (Zw F b)=Zw F (jX P a b):=by
 have q:∀a b,zQ n a->zQ n b->yi (FZ P F n) _ _=Zw F _:=λa b ha hb=>by
  have ia:=Ub hF ha;have ib:=Ub hF hb;refine(Dr ia ib).trans ?_;rw[show(((Zw F a).toNat:Nat):Int)=Zw F a by have:=ia.1;omega,show(((Zw F b).toNat:Nat):Int)=Zw F b by have:=ib.1;omega,L4 hF ha,L4 hF hb]
 have hL:=ki hP;rw[<-hn]at hL;exact⟨Cs (xY hF).1 λa b ha hb=>p9 hP hn hF ha hb,ab hL (λa ha=>Ub hF ha) (λa ha=>(Xw hF ha).1) (λa ha=>(Xw hF ha).2) q,q⟩
def r_{x:Int}(hP:PK P)(hn:n=PN P)(m1:1<=m)(hm:∀p ∈ P,p.1=0->m=p.2)(hF:F.Perm (Kr n)):Tab m n (oI P F n m x)/\LD n m (yi<|FZ P F n) (Zw F<|eX P) (yi<|oI P F n m x):=by
 have hL:=ki hP;have hD:=eu (x:=x) m1 hP hm;rw[<-hn]at hL hD;refine⟨Cs (xY hF).1 λc a hc ha=>pV hP hn m1 hm hF hc ha,ah (by omega) hL hD (λa ha=>Ub hF ha) (λa ha=>(Xw hF ha).1) (λa ha=>(Xw hF ha).2) (IA hP hn hF).2.2 λc a hc ha=>?_⟩;have ia:=Ub hF ha;refine(Dr hc ia).trans ?_;rw[show(((Zw F a).toNat:Nat):Int)=Zw F a by have:=ia.1;omega,show(c.toNat:Int)=c by have:=hc.1;omega,L4 hF ha]
end
abbrev cH:SF:=iK
abbrev bg:SF:=kX
abbrev cN:SF:=kQ
abbrev cU:SF:=iE
abbrev cY:SF:=j_
abbrev ba:SF:=ky
abbrev cZ:SF:=(zr false 7<|yd dN)
abbrev c5:SF:=cb
abbrev aA:SF:=(zr false 7<|zU (xS Kq) [none,some 5] xm yD JZ)
abbrev vD(P:PZ)(F:List Int)(n:Nat):D:=.lst ((List.range n).map λa:Nat=>zi<|sp P<|Fl F a)
abbrev A7(ns:List Int)(P:PZ)(n m:Nat)(F:List Int)(l:AS):AS:=sT (zi ns)::sI 0::sT (Qq P)::sI n::sI m::sT (zi F)::sT (vD P F n)::l
structure Hd(P:PZ)(n m:Nat)(F:List Int):Prop where
 p:Pt P
 nn:n=PN P
 m1:1<=m
 m6:m<=6
 z:∀p ∈ P,p.1=0->m=p.2
 f:F.Perm (Kr n)
def jz(h:as[2]? = some (sT<|Qq P)):xS zD as=some (P.map λp=>(true,pD p),as):=Wk<|WD.e<|za h
def pq(hP:Pt P)(h:as[2]? = some (sT<|Qq P))(hf:∀p:Int×Nat,WD fe [sI p.1,sI p.2] true<|.int<|f p):WD (zj (aC zD<|aC (zU (xS zD) [none,none] (gT 2<|yH xm<|yH (gN 1) XI) yD fe) aN) xx) as true (.int<|ld P<|P.map f):=
 HP (WD.e<|za h) (TM<|ES P (jz h) (by have:=hP.l2;omega) λp _=>⟨_,rfl,hf p⟩) (Bp hP.k (zzB ..).symm)
def qu(ns):∃P n m F,Hd P n m F/\∀(g:SF) (d:D),Rt (g<|A7 ns P n m F [none,none,none,none,none,none,none,none,none,none]) d->Rt (zh cH (zh bg<|zh cN<|zh cU<|zh cY<|zh ba g) [sT<|zi ns,sI 0,none,none,none,none,none,none,none,none,none,none,none,none,none,none,none]) d:=by
 obtain⟨x0,hx0,w0⟩:=V2 ns (k:=0) (by omega);obtain⟨x1,hx1,w1⟩:=V2 ns (k:=1) (by omega);obtain⟨P,hP,rP⟩:=Ji x0;have nN:=cA P;have n8:=hP.n8;have n1:=Cc hP.k;obtain⟨F,hF,rF⟩:=Du n8;have s1:cH [sT<|zi ns,sI 0,none,none,none,none,none,none,none,none,none,none,none,none,none,none,none]=some _:=yJ (wU (WD.e<|w0 _ _ rfl<|za rfl) rP)<|ze rfl;have s2:bg [sT<|zi ns,sI 0,sT<|Qq P,none,none,none,none,none,none,none,none,none,none,none,none,none,none]=some (.nx [sT<|zi ns,sI 0,sT<|Qq P,sI<|PN P,none,none,none,none,none,none,none,none,none,none,none,none,none]):=by
  have w:=zE (pq (as:=[sT<|zi ns,sI 0,sT<|Qq P,none,none,none,none,none,none,none,none,none,none,none,none,none,none]) (fe:=f2 zm zL Zt) hP rfl λp=>Y9 (za rfl) zb)<|zb (x:=.int 1);rw[nN]at w;exact zJ w<|ze rfl
 have q0:=zyN (x0/16) (show(4:Int)≠0 by decide);have q1:=zyH (x0/16) (show(0:Int)<4 by decide);obtain⟨m0,em⟩:∃k:Nat,(k:Int)=1+x0/16%4:=⟨(1+x0/16%4).toNat,by omega⟩;have s3:cN [sT<|zi ns,sI 0,sT<|Qq P,sI<|PN P,none,none,none,none,none,none,none,none,none,none,none,none,none]=some (.nx [sT<|zi ns,sI 0,sT<|Qq P,sI<|PN P,sI m0,none,none,none,none,none,none,none,none,none,none,none,none]):=by
  have w:=zE (zb (x:=.int 1)) (zV (xN (w0 [sT<|zi ns,sI 0,sT<|Qq P,sI<|PN P,none,none,none,none,none,none,none,none,none,none,none,none,none] zm rfl<|za rfl) (zb (x:=.int 16)) (by decide)<|zC (by decide)<|by decide) (zb (x:=.int 4))<|by decide);rw[<-em]at w;exact zJ w<|ze rfl
 obtain⟨m,m1,m6,mz,s4⟩:∃m:Nat,1<=m/\m<=6/\(∀p ∈ P,p.1=0->m=p.2)/\cU [sT<|zi ns,sI 0,sT<|Qq P,sI<|PN P,sI m0,none,none,none,none,none,none,none,none,none,none,none,none]=some (.nx [sT<|zi ns,sI 0,sT<|Qq P,sI<|PN P,sI m,none,none,none,none,none,none,none,none,none,none,none,none]):=by
  obtain _|⟨p,Q⟩:=P
  . exact absurd rfl hP.ne
  have wp:WD (f2 zD zW zx) [sT<|zi ns,sI 0,sT<|Qq (p::Q),sI<|PN (p::Q),sI m0,none,none,none,none,none,none,none,none,none,none,none,none] true (pD p):=yt (za rfl) (zb)<|Xd rfl;have tl:=hP.tl
  by_cases hz:p.1=0
  . have k:=hP.z6 p (zzF ..) hz;have k2:=hP.k p<|zzF ..;refine⟨p.2,by omega,k,λq mq e=>?_,yL (eqT (zw wp zb rfl rfl) zb<|by rw[hz];rfl)<|zJ (zw wp zb rfl rfl)<|ze rfl⟩
    rcases zzC.mp mq with rfl|mq
    . rfl
    . exact absurd e<|tl q mq
  . refine⟨m0,by omega,by omega,λq mq e=>?_,zp (eqT (zw wp zb rfl rfl) zb<|beq_eq_false_iff_ne.mpr hz) rfl⟩
    rcases zzC.mp mq with rfl|mq
    . exact absurd e hz
    . exact absurd e<|tl q mq
 have s5:cY [sT<|zi ns,sI 0,sT<|Qq P,sI<|PN P,sI m,none,none,none,none,none,none,none,none,none,none,none,none]=some _:=yJ (y8 (WD.e<|w1 _ _ rfl<|zE (za (x:=.int 0) rfl)<|zb) (WD.e<|za rfl) rF)<|ze rfl;have s6:ba [sT<|zi ns,sI 0,sT<|Qq P,sI<|PN P,sI m,sT<|zi F,none,none,none,none,none,none,none,none,none,none,none]=some (.nx<|A7 ns P (PN P) m F [none,none,none,none,none,none,none,none,none,none]):=by
  obtain⟨os,o1,o2,o3⟩:=AM (cap:=[none,some 2,some 5]) (gg:=gN 0) (List.range<|PN P) (qf (as:=[sT<|zi ns,sI 0,sT<|Qq P,sI<|PN P,sI m,sT<|zi F,none,none,none,none,none,none,none,none,none,none,none]) (zg (za (i:=3) rfl) zq)<|q0J n1 n8) (by rw[zyU];exact q0J n1 n8) λa ma=>by
   have ha:=List.mem_range.mp ma;rw[Int.zero_add];refine⟨_,rfl,y8 (WD.e<|za (i:=1) rfl) (WD.e<|ay (i:=2) (j:=0) (by have:=(xY hF).1.1;omega) ((xY hF).2 a (q0a)<|q0h ha) rfl rfl) ⟨_,Df hP.k (by have:=hP.l2;omega),XA _⟩⟩
  exact yJ (p:=6) ⟨_,o1,o2,congrArg D.lst o3⟩<|ze rfl
 exact⟨P,PN P,m,F,⟨hP,rfl,m1,m6,mz,hF⟩,λg d h=>zc s1<|zc s2<|zc s3<|zc s4<|zc s5<|zc s6 h⟩
abbrev ja:SF:=(zr false 9<|yd dN)
abbrev jA:SF:=iX
abbrev eG:SF:=cK
abbrev je:SF:=(zr false 15<|yd dN)
abbrev dW:SF:=d_
abbrev dU:SF:=gI
section
variable{ns F:List Int}{P:PZ}{n m:Nat}
def qH(h:Hd P n m F):∃os b,O.strs os=true/\O.toDs os=(FZ P F n).map zi/\∀(g:SF) (d:D),Rt (g<|A7 ns P n m F [sN os,b,none,none,none,none,none,none,none,none]) d->Rt (zh cZ (zh c5<|zh aA g)<|A7 ns P n m F [none,none,none,none,none,none,none,none,none,none]) d:=by
 have n8:=h.p.n8;rw[<-h.nn]at n8;have l2:=h.p.l2;have s7:cZ (A7 ns P n m F [none,none,none,none,none,none,none,none,none,none])=some _:=xt (vz yp<|Uw rfl)<|ze rfl;obtain⟨b,hb⟩:=DN (n:=n) (g:=gN 8) (f:=(yo<|ZQ 7 (dC (zU (xS wR) [none,some 2,some 8] xm yD _) dN) ZS)) (S:=λos e=>A7 ns P n m F [sN os,e,none,none,none,none,none,none,none,none]) (it:=λa=>(true,zi<|sp P<|Fl F a)) (q0l n8) (λa ha os e hl=>⟨rfl,P7 rfl (ES (List.range n) (Wk<|WD.e<|za rfl) (by rw[zyU];exact q0j n8) λb mb=>⟨_,rfl,rG h.p.k l2⟩) rfl<|slt<|q0s hl⟩) none;have s8:c5 (A7 ns P n m F [sN [],none,none,none,none,none,none,none,none,none])=some (.nx<|A7 ns P n m F [some<|Oy<|(List.range n).map<|rS P F n,b,none,none,none,none,none,none,none,none]):=by
  refine yh (CM<|za rfl) ?_;rw[zyB];refine hb.trans ?_;show _=some (Out.nx<|A7 ns P n m F [sN _,b,none,none,none,none,none,none,none,none]);rw[zyB];rfl
 have hR:=(xY h.f).1;obtain⟨os,o1,o2,o3⟩:=cL (i:=7) (as:=A7 ns P n m F [some<|Oy<|(List.range n).map<|rS P F n,b,none,none,none,none,none,none,none,none]) hR rfl (λd=>rfl) (by rw[zzB,zyU];exact q0l n8) (λr mr=>by
  obtain⟨a,ma,rfl⟩:=zxD.mp mr;have ha:=List.mem_range.mp ma;refine⟨by unfold rS;rw[zzB,zyU];exact q0l n8,λx mx=>?_⟩;obtain⟨b,mb,rfl⟩:=zxD.mp mx;exact p9 h.p.k h.nn h.f ha<|List.mem_range.mp mb)
 exact⟨os,b,o2,o3,λg d hg=>zc s7<|zc s8<|zc (xt o1<|ze rfl) hg⟩
abbrev pU(P:PZ)(n m:Nat)(F:List Int)(p:Str×TZ):Prop:=Tab m n p.2/\LD n m (yi<|FZ P F n) (Zw F<|eX P) (yi p.2)
abbrev RG(ns:List Int)(P:PZ)(n m:Nat)(F:List Int)(o7:List O)(ss:List Str)(o9:List O)(b8 b11 b12 b13 b14 b15:Option O):AS:=A7 ns P n m F [sN o7,b8,sN o9,sT<|.lst<|ss.map D.str,b11,b12,b13,b14,b15,none]
def Af(h:Hd P n m F):∃ss o9 Ds b8 b11 b12 b13 b14,ss.length=7/\ss.Nodup/\Ows Qj (pU P n m F) o9 Ds/\1<=Ds.length/\Ds.length<=4/\Ds.map (·.1)=(List.range Ds.length).map (λj=>(ss[j]?).getD ("":Str))/\∀(g:SF) (d:D),Rt (g<|RG ns P n m F o7 ss o9 b8 b11 b12 b13 b14 none) d->Rt (zh ja (zh jA<|zh eG g)<|A7 ns P n m F [sN o7,b,none,none,none,none,none,none,none,none]) d:=by
 have n8:=h.p.n8;rw[<-h.nn]at n8;have l2:=h.p.l2;have m6:=h.m6;have hR:=(xY h.f).1;obtain⟨x2,_,w2⟩:=V2 ns (k:=2) (by omega);obtain⟨x3,_,w3⟩:=V2 ns (k:=3) (by omega);obtain⟨ss,sl,sn,rs⟩:=S4 x2 (mn:=7) (by omega);have sg:∀i,i<7->ss[i]? = some ((ss[i]?).getD ("":Str)):=λi hi=>by rw[zzE<|q1N hi sl];rfl
 have s10:ja (A7 ns P n m F [sN o7,b,none,none,none,none,none,none,none,none])=some (.nx<|A7 ns P n m F [sN o7,b,sN [],none,none,none,none,none,none,none]):=xt (i:=9) (vz yp<|Uw rfl)<|ze rfl;have s11:jA (A7 ns P n m F [sN o7,b,sN [],none,none,none,none,none,none,none])=some (.nx<|RG ns P n m F o7 ss [] b none none none none none):=yJ (p:=10) (y8 (WD.e<|w2 _ _ rfl<|zE (za (i:=1) (x:=.int 0) (s:=true) rfl)<|zb (x:=.int 2)) (WD.e<|zb (x:=.int 7)) rs)<|ze rfl;have q0:=zyN x3 (show(4:Int)≠0 by decide);have q1:=zyH x3 (show(0:Int)<4 by decide);obtain⟨k,ek⟩:∃k:Nat,(k:Int)=1+x3%4:=⟨(1+x3%4).toNat,by omega⟩;obtain⟨as',hl,o9,Ds,b11,b12,b13,b14,rfl,hO,hN,hK⟩:=yP (g:=gN 11)
  (λi as=>∃(o9:List O) (Ds:DD) (b11 b12 b13 b14:Option O),as=RG ns P n m F o7 ss o9 b b11 b12 b13 b14 none/\Ows Qj (pU P n m F) o9 Ds/\Ds.map (·.1)=(List.range i).map (λj=>(ss[j]?).getD ("":Str))/\Ds.length=i) (yY 0 k) 0 (RG ns P n m F o7 ss [] b none none none none none) (λi y as hy hI=>by
   obtain⟨o9,Ds,b11,b12,b13,b14,rfl,hO,hN,hK⟩:=hI;obtain⟨rfl,hi⟩:=x_ hy;rw[zyX]at hN hK ⊢;rw[Int.zero_add];obtain⟨x,_,wx⟩:=V2 ns (k:=4+i) (by omega);have t1:zr true 12 kZ (RG ns P n m F o7 ss o9 b (sI i) b12 b13 b14 none)=some (.nx<|RG ns P n m F o7 ss o9 b (sI i) (sI x) b13 b14 none):=by
    have w:=zE (zE (za (as:=RG ns P n m F o7 ss o9 b (sI i) b12 b13 b14 none) (i:=1) (x:=.int 0) (s:=true) rfl)<|zb (x:=.int 4))<|za (i:=11) (x:=.int i) (s:=true) rfl;rw[show(0:Int)+4+(i:Int)=((4+i:Nat):Int) by omega]at w;exact zJ (i:=12) (wx _ _ rfl w)<|ze rfl
   have t2:zr false 13 (yd dN) (RG ns P n m F o7 ss o9 b (sI i) (sI x) b13 b14 none)=some (.nx<|RG ns P n m F o7 ss o9 b (sI i) (sI x) (sN []) b14 none):=xt (i:=13) (vz yp<|Uw rfl)<|ze rfl;obtain⟨e,he⟩:=DN (n:=m) (g:=gN 14) (f:=(yo<|ZQ 13 (dC (zU (xS wR) [none,some 2,some 12,some 14] xm yD _) dN) ZS)) (S:=λos e=>RG ns P n m F o7 ss o9 b (sI i) (sI x) (sN os) e none) (it:=λc:Nat=>(true,D.int<|0+(c:Int))) (w:=λc=>sI c) (q0K m6) (λc hc os e hl=>by
    rw[Int.zero_add];exact⟨rfl,P7 (os:=os) (i:=13) rfl (ES (List.range n) (Wk<|WD.e<|za (i:=6) rfl) (by rw[zyU];exact q0j n8) λa ma=>⟨_,rfl,iy h.p.k l2 (OH hc) m6⟩) rfl<|slt<|q0s hl⟩) b14
   have t3:yC (yG (aC zY aN) yS) (gN 14) jU (RG ns P n m F o7 ss o9 b (sI i) (sI x) (sN []) b14 none)=some (.nx<|RG ns P n m F o7 ss o9 b (sI i) (sI x) (some<|Oy<|(List.range m).map<|DU P F n x) e none):=by
    refine yh (qf (zg (za (i:=4) rfl) zq)<|q0M m6)<|he.trans ?_;show _=some (Out.nx<|RG ns P n m F o7 ss o9 b (sI i) (sI x) (sN _) e none);rw[zyB];rfl
   obtain⟨os,o1,o2,o3⟩:=cL (n:=n) (F:=F) (i:=13) (as:=RG ns P n m F o7 ss o9 b (sI i) (sI x) (some<|Oy<|(List.range m).map<|DU P F n x) e none) hR rfl (λd=>rfl) (by rw[zzB,zyU];exact q0K m6) (λr mr=>by
    obtain⟨c,mc,rfl⟩:=zxD.mp mr;have hc:=List.mem_range.mp mc;refine⟨by unfold DU;rw[zzB,zyU];exact q0l n8,λy my=>?_⟩;obtain⟨a,ma,rfl⟩:=zxD.mp my;exact pV h.p.k h.nn h.m1 h.z h.f hc<|List.mem_range.mp ma)
   have wt:WE _ (RG ns P n m F o7 ss o9 b (sI i) (sI x) (some<|Oy<|(List.range m).map<|DU P F n x) e none) (Qj ((ss[i]?).getD ("":Str),oI P F n m x)):=yu (WD.e<|zw (za (i:=10) (s:=true) rfl) (za (i:=11) (x:=.int i) (s:=true) rfl) (Xd<|sg i<|by omega) rfl) ⟨_,o1,o2,congrArg D.lst o3⟩;obtain⟨os',p1,p2⟩:=J_ (i:=9) (os:=o9) (l:=Ds) rfl hO (by omega) wt<|r_ h.p.k h.nn h.m1 h.z h.f;exact⟨_,rfl,_,zo t1<|zo t2<|zo t3 p2,os',_,_,_,_,_,rfl,p1,by rw[zyM,hN,List.range_succ,zyM];rfl,by rw[zzJ,hK];rfl⟩)
  ⟨[],[],none,none,none,none,rfl,Ows.nil,rfl,rfl⟩
 rw[xi,zyX]at hN hK;have hr:=xu (as:=RG ns P n m F o7 ss [] b none none none none none) (zg (zE (zb (x:=.int 1))<|zV (w3 _ _ rfl<|zE (za (i:=1) (x:=.int 0) (s:=true) rfl)<|zb (x:=.int 3)) (zb (x:=.int 4))<|by decide) zq) (by omega) (by omega);rw[<-ek,zyI]at hr;exact⟨ss,o9,Ds,b,b11,b12,b13,b14,sl,sn,hO,by omega,by omega,by rw[hK];exact hN,λg d hg=>zc s10<|zc s11<|zc (yh hr hl) hg⟩
end
section
variable{ns F:List Int}{P:PZ}{n m:Nat}
def aq:∀i:Nat,i<8->∃k:Int,0<k/\k<1000/\zx (zi [1,2,4,8,16,32,64,128]) (.int (i:Int))=some (.im<|.int k)
 |0,_=>⟨1,by decide,by decide,rfl⟩
 |1,_=>⟨2,by decide,by decide,rfl⟩
 |2,_=>⟨4,by decide,by decide,rfl⟩
 |3,_=>⟨8,by decide,by decide,rfl⟩
 |4,_=>⟨16,by decide,by decide,rfl⟩
 |5,_=>⟨32,by decide,by decide,rfl⟩
 |6,_=>⟨64,by decide,by decide,rfl⟩
 |7,_=>⟨128,by decide,by decide,rfl⟩
 |i+8,h=>absurd h (by omega)
def l8:WE (yd<|dC (fC<|.int a)<|dC (fC<|.int b)<|dC (fC<|.int c)<|dC (fC<|.int d)<|dC (fC<|.int e)<|dC (fC<|.int f)<|dC (fC<|.int g)<|dC (fC<|.int h) dN) as (zi [a,b,c,d,e,f,g,h]):=ZM (zu zb<|zu zb<|zu zb<|zu zb<|zu zb<|zu zb<|zu zb<|zu zb yp) (Uw rfl) rfl rfl
def Ih(l:List Nat)(h1:fi as=some (l.map it,as))(hl:l.length<=1000000)(H:∀q ∈ l,∃as1 t,gg (it q) (Yq cap as)=some as1/\WT tt as1 t/\WE fe as1 (.int q)):∃r:List Int,WE (zU fi cap gg tt fe) as (zi r):=by
 have:∃p:Nat->Bool,∀q ∈ l,∃as1,gg (it q) (Yq cap as)=some as1/\WT tt as1 (p q)/\WE fe as1 (.int q):=by
  refine⟨λq=>((gg (it q)<|Yq cap as).bind tt).elim false (·.1),λq mq=>?_⟩;obtain⟨as1,t,h1,h2,h3⟩:=H q mq;refine⟨as1,h1, ?_,h3⟩;show WT tt as1 (((gg _ _).bind tt).elim false _);rw[h1];unfold WT at h2 ⊢;show _=some ((tt as1).elim false _,as1);rw[h2];rfl
 obtain⟨p,hp⟩:=this;have w:=Of l h1 hl λq mq=>by
  obtain⟨as1,h1,h2,h3⟩:=hp q mq;exact⟨as1,h1,h2,λ_=>h3⟩
 refine⟨(l.filter p).map λq:Nat=>q, ?_⟩;show WE _ _ (D.lst _);rw[zyB];exact w
def AN{b8 b11 b12 b13 b14:Option O}(h:Hd P n m F)(sl:ss.length=7):∃o15 S c11 c12,Ows Tj (λ_=>True) o15 S/\1<=S.length/\S.length<=3/\S.map (·.1)=(List.range S.length).map (λj=>(ss[4+j]?).getD ("":Str))/\∀(g:SF) (d:D),Rt (g<|RG ns P n m F o7 ss o9 b8 c11 c12 b13 b14<|sN o15) d->Rt (zh je (zh dW g)<|RG ns P n m F o7 ss o9 b8 b11 b12 b13 b14 none) d:=by
 have n8:=h.p.n8;rw[<-h.nn]at n8;obtain⟨x3,_,w3⟩:=V2 ns (k:=8) (by omega);have sg:∀i,i<7->ss[i]? = some ((ss[i]?).getD ("":Str)):=λi hi=>by rw[zzE<|q1N hi sl];rfl
 have s13:je (RG ns P n m F o7 ss o9 b8 b11 b12 b13 b14 none)=some (.nx<|RG ns P n m F o7 ss o9 b8 b11 b12 b13 b14<|sN []):=xt (i:=15) (vz yp<|Uw rfl)<|ze rfl;have q0:=zyN x3 (show(3:Int)≠0 by decide);have q1:=zyH x3 (show(0:Int)<3 by decide);obtain⟨k,ek⟩:∃k:Nat,(k:Int)=1+x3%3:=⟨(1+x3%3).toNat,by omega⟩;obtain⟨as',hl,o15,S,c11,c12,rfl,hO,hN,hK⟩:=yP (g:=gN 11)
  (λi as=>∃(o15:List O) (S:SS) (b11 b12:Option O),as=RG ns P n m F o7 ss o9 b8 b11 b12 b13 b14 (sN o15)/\Ows Tj (λ_=>True) o15 S/\S.map (·.1)=(List.range i).map (λj=>(ss[4+j]?).getD ("":Str))/\S.length=i) (yY 0 k) 0 (RG ns P n m F o7 ss o9 b8 b11 b12 b13 b14<|sN []) (λi y as hy hI=>by
   obtain⟨o15,S,b11,b12,rfl,hO,hN,hK⟩:=hI;obtain⟨rfl,hi⟩:=x_ hy;rw[zyX]at hN hK ⊢;rw[Int.zero_add];obtain⟨x,_,wx⟩:=V2 ns (k:=9+i) (by omega);have t1:zr true 12 jl (RG ns P n m F o7 ss o9 b8 (sI i) b12 b13 b14<|sN o15)=some (.nx<|RG ns P n m F o7 ss o9 b8 (sI i) (sI<|x/7) b13 b14<|sN o15):=by
    have w:=zE (zE (za (as:=RG ns P n m F o7 ss o9 b8 (sI i) b12 b13 b14<|sN o15) (i:=1) rfl)<|zb (x:=.int 9))<|za (i:=11) rfl;rw[show(0:Int)+9+(i:Int)=((9+i:Nat):Int) by omega]at w;exact zJ (i:=12) (xN (wx _ _ rfl w) (zb) (by decide)<|zC (by decide)<|by decide)<|ze rfl
   obtain⟨r,wr⟩:=Ih (as:=RG ns P n m F o7 ss o9 b8 (sI i) (sI<|x/7) b13 b14<|sN o15) (cap:=[none,some 12]) (gg:=gN 0) (tt:=(fT<|f2 (f2 _ yy zO) zL<|zz .Eq)) (List.range n) (qf (zg (za (i:=3) rfl) zq)<|q0j n8) (by rw[zyU];exact q1X n8) λq mq=>by
    have hq:=List.mem_range.mp mq;rw[Int.zero_add];obtain⟨z,z0,z1,ez⟩:=aq q (by omega);exact⟨[sI q,sI<|x/7],_,rfl,eqT (zV (xN (za (i:=1) rfl) (Jv l8 (WD.e<|za (i:=0) rfl) ez) z0<|zC (by omega)<|by omega) zb<|by decide) zb rfl,WD.e<|za (i:=0) rfl⟩
   have wn:WD (f2 (fV 10) (f2 Xk GP zt) zx) (RG ns P n m F o7 ss o9 b8 (sI i) (sI<|x/7) b13 b14<|sN o15) true (.str<|(ss[4+i]?).getD ("":Str)):=by
    have w:=zE (zb (x:=.int 4))<|za (as:=RG ns P n m F o7 ss o9 b8 (sI i) (sI<|x/7) b13 b14<|sN o15) (i:=11) rfl;rw[show(4:Int)+(i:Int)=((4+i:Nat):Int) by omega]at w;exact zw (za (i:=10) rfl) w (Xd<|sg (4+i)<|by omega) rfl
   obtain⟨os',p1,p2⟩:=J_ (i:=15) (os:=o15) (l:=S) (x:=((ss[4+i]?).getD ("":Str),r)) rfl hO (by omega) (yu (WD.e wn) wr) True.intro;exact⟨_,rfl,_,zo t1 p2,os',_,_,_,rfl,p1,by rw[zyM,hN,List.range_succ,zyM];rfl,by rw[zzJ,hK];rfl⟩)
  ⟨[],[],b11,b12,rfl,Ows.nil,rfl,rfl⟩
 rw[xi,zyX]at hN hK;have hr:=xu (as:=RG ns P n m F o7 ss o9 b8 b11 b12 b13 b14<|sN []) (zg (zE (zb (x:=.int 1))<|zV (w3 _ _ rfl<|zE (za (i:=1) (x:=.int 0) (s:=true) rfl)<|zb (x:=.int 8)) (zb (x:=.int 3))<|by decide) zq) (by omega) (by omega);rw[<-ek,zyI]at hr;exact⟨o15,S,c11,c12,hO,by omega,by omega,by rw[hK];exact hN,λg d hg=>zc s13<|zc (yh hr hl) hg⟩
def Dv{ss:List Str}(nd:ss.Nodup){i j:Nat}(hi:i<ss.length)(hj:j<ss.length)(e:ss[i]=ss[j]):i=j:=by
 have p:=List.pairwise_iff_getElem.mp nd
 rcases Nat.lt_trichotomy i j with h|h|h
 . exact absurd e<|p i j hi hj h
 . exact h
 . exact absurd e.symm<|p j i hj hi h
def BJ{ss:List Str}{k a:Nat}(nd:ss.Nodup)(hk:a+k<=ss.length):((List.range k).map λj=>(ss[a+j]?).getD ("":Str)).Nodup:=by
 refine List.pairwise_map.mpr<|(List.nodup_range).imp_of_mem λ{i j} mi mj hne he=>hne ?_;have hi:=List.mem_range.mp mi;have hj:=List.mem_range.mp mj;rw[zzE (show a+i<ss.length from q0B hk hi),zzE (show a+j<ss.length from q0B hk hj)]at he;have:=Dv nd (show a+i<ss.length from q0B hk hi) (show a+j<ss.length from q0B hk hj) he;omega
structure Cx.Gd(c:Cx):Prop where
 ok:c.Ok
 sl:c.S.length<=4
 sn:(c.S.map (·.1)).Nodup
 dd:1<=c.Ds.length
def Ot(ns:List Int):∃c:Cx,c.Gd/\RE (ZA [(true,zi ns),(true,.int 0)]) c.g:=by
 obtain⟨P,n,m,F,h,g1⟩:=qu ns;obtain⟨o7,b,j1,j2,g2⟩:=qH h;obtain⟨ss,o9,Ds,b8,b11,b12,b13,b14,sl,sn,hD,d1,d4,dn,g3⟩:=Af h;obtain⟨o15,S,c11,c12,hS,s1,s3,sm,g4⟩:=AN h sl;obtain⟨tJ,lJ,qJ⟩:=IA h.p.k h.nn h.f;have hR:=(xY h.f).1;have e0:=(ki h.p.k).ce;rw[<-h.nn]at e0;have n8:=h.p.n8;have n1:=Cc h.p.k;rw[<-h.nn]at n8 n1;let Z:=RG ns P n m F o7 ss o9 b8 c11 c12 b13 b14<|sN o15;have s15:dU Z=some (.nx<|A7 ns P n m F [sN o7,b8,sN o9,sT<|.lst<|ss.map D.str,c11,c12,b13,b14,sN o15,sI<|Zw F<|eX P]):=by
  have w:=pq (as:=Z) h.p rfl λp=>by
   have w:=yx (as:=[sI p.1,sI p.2]) (g:=G8) (zg (UL (za (i:=0) rfl) (zb (x:=.int 3)) rfl) zq) rfl rfl
   rwa [show(if(p.1==3)=true then(1:Int)else 0)=eK p.1 by unfold eK;by_cases h:p.1=3<;>simp[h]]at w
  rw[c7]at w;exact zJ (zw (za rfl) w (rowAt hR e0).1 rfl)<|ze rfl
 have wr:jr (A7 ns P n m F [sN o7,b8,sN o9,sT<|.lst<|ss.map D.str,c11,c12,b13,b14,sN o15,sI<|Zw F<|eX P])=some (_,_):=
  vJ (za rfl) (vJ (za rfl)<|ME rfl<|vJ (za rfl)<|ME rfl<|ME rfl rfl)
 have hfin:=IC wr<|Uw rfl;have hf7:(O.nd .ls o7).frz = .lf true (xD<|FZ P F n):=by
  show O.lf (O.strs o7) (.lst<|O.toDs o7)=_;rw[j1,j2]
 rw[hf7,hD.frz,hS.frz]at hfin;have rt:=K8 hfin rfl;have nd1:(Ds.map (·.1)).Nodup:=by
  rw[dn];have:=BJ (k:=Ds.length) (a:=0) sn (by omega);simp only[zyX]at this;exact this
 have nd2:(S.map (·.1)).Nodup:=by
  rw[sm];exact BJ sn (by omega)
 exact⟨⟨n,m,FZ P F n,Zw F<|eX P,Ds,S⟩,⟨⟨⟨n1,n8,h.m1,h.m6,tJ,(rowAt hR e0).2.1,(rowAt hR e0).2.2,by show Ds.length<=6;omega,λp mp=>(hD.al p mp).1,nd1⟩,⟨lJ,λp mp=>(hD.al p mp).2⟩⟩,by show S.length<=4;omega,nd2,d1⟩,zH rfl<|g1 _ _<|g2 _ _<|g3 _ _<|g4 _ _<|zc s15 ⟨_,rt,rfl,rfl⟩⟩
end
abbrev bU:SF:=(zr true 1 eW)
abbrev c6:SF:=jW
abbrev cG:SF:=(zr true 3<|f2 zF zL zt)
abbrev cf:SF:=(zr true 4<|f2 zY zL zt)
abbrev d9:SF:=j0
abbrev az:SF:=ix
abbrev bJ:SF:=iz
abbrev bE:SF:=(zr false 11<|yd dN)
abbrev bO:SF:=cg
abbrev dY:SF:=(zr false 14<|yd dN)
abbrev eY:SF:=cx
def rY{a n:Nat}(h:a+n<=ds.length):Tn (zi ds) (some (a:Int)) (some ((a+n:Nat):Int))=some (.fl<|((ds.drop a).take n).map D.int):=by
 show some _=_
 congr 2
 unfold PF.cutD;rw[HT.Wz,HT.Wz,zzB,Nat.min_eq_left h,Nat.min_eq_left (show a<=ds.length by omega),<-List.map_drop,<-List.map_take,Nat.add_sub_cancel_left]
def qt{ds:List Int}{a n N:Nat}(h:a+n<=ds.length)(hd:∀x ∈ ds,zQ N x)(e:n=N):Row N ((ds.drop a).take n):=by
 refine⟨by rw[zzS,List.length_drop];omega,λx m=>hd x<|List.mem_of_mem_drop<|List.mem_of_mem_take m⟩
def dq{a n:Nat}{lo hi}(h:a+n<=ds.length)(hf:WD f as true (zi ds))(h1:WD fl as true (.int lo))(h2:WD fh as true (.int hi))(e1:lo=(a:Int))(e2:hi=((a+n:Nat):Int)):WE (Rj f (oS fl) (oS fh) Tn) as (zi<|(ds.drop a).take n):=by
 subst e1 e2;exact IH (WD.e hf) (O5 h1) (O5 h2)<|rY h
def u_(h : -(2 ^ 63)<=k/\k<2 ^ 63/\xs.length*k.toNat<=sizeLine):Y4 .Mult (.lst xs) (.int k)=some (.fl (List.replicate k.toNat xs).flatten):=if_pos h
def Dw{k:Nat}(ha:WD a as true (.int x))(hb:WD b as true (.int (k:Int)))(hk:k<=900):WE (f2 (yd<|dC a dN) b zT) as (zi<|List.replicate k x):=by
 refine JI (ZM (zu ha yp) (Uw rfl) rfl rfl) (WD.e hb) ?_;show Y4 .Mult (.lst [D.int x]) _=_;rw[u_ ⟨by omega,by omega,by rw[zyI];exact JA (by show 1*k<=_;omega)⟩,zyI,List.flatten_replicate_singleton,List.map_replicate]
abbrev ar:EF:=Rj zm (oS<|f2 zD zk zT) (oS<|f2 (f2 zD zk zT) zD zt) Tn
def qW{j n k:Nat}(n8:n<=8)(k8:k<=8)(hc:∀b:Int,gN 0 (true,.int b) (Yq cap as)=some [sI b,sT<|zi ds,sI n])(hr:as[j]? = some (sI k))(hl:ds.length=n*k)(hd:∀x ∈ ds,zQ n x):∃T:TZ,Tab k n T/\WE (zU (yG (aC (fV j) aN) yS) cap xm yD ar) as (xD T):=by
 obtain⟨T,t1,t2,t3⟩:=lY zi (zg (za hr) zq) (q0j k8) λb b0 b1=>by
  have ha:n*b.toNat+n<=n*k:=by rw[<-Nat.mul_succ];exact Nat.mul_le_mul_left n (by omega)
  have eb:(b.toNat:Int)=b:=q1p b0
  have w:WD (f2 zD zk zT) [sI b,sT<|zi ds,sI n] true _:=y7 (za rfl) (za rfl) (zC (by omega)<|by omega) (zC (by omega)<|by omega);refine⟨_,_,hc b,dq (a:=n*b.toNat) (by omega) (za (i:=1) rfl) w (zE w<|za (i:=2) rfl) (by rw[zzV,eb]) (by rw[Int.natCast_add,zzV,eb]),qt (by omega) hd rfl⟩
 exact⟨T,⟨t1,t2⟩,t3⟩
def Ay:∃r:List Int,r.length<=12/\Tn (zi ns) none (some 12)=some (.fl<|r.map D.int):=by
 refine⟨ns.take<|min 12 ns.length,by rw[zzS];omega, ?_⟩;show some (R0.fl<|PF.cutD _ none<|some ((12:Nat):Int))=_
 congr 2
 unfold PF.cutD;rw[HT.Wz,HT.NH,zzB,List.drop_zero,Nat.sub_zero,<-List.map_take]
def Hj(h:WE f as (zi r)):WD (fP (aC f aN) xC) as true (.int r.length):=by
 have:=O3 (g:=xC) h rfl
 rwa [zzB]at this
def AU(h:as[0]? = some (sT<|zi ns)):∃cs:List Int,cs.length=12/\WE eW as (zi cs):=by
 obtain⟨r,hr,e⟩:=Ay;have ws:WE (Rj zk oN _ Tn) as (zi r):=T5 (za h) rfl (O5 zb) e;have w1:=TM<|ES (cap:=[none]) (gg:=gN 0) r (Wk ws) (by omega) λx _=>⟨_,rfl,za (i:=0) rfl⟩;rw[List.map_id']at w1;have w2:WD gJ as true (.int ((12-r.length:Nat):Int)):=by
  have:=Y9 (zb (x:=.int 12))<|Hj ws
  rwa [show 12-r.length=((12-r.length:Nat):Int) by omega]at this
 refine⟨r++List.replicate (12-r.length) 0,by rw[zzJ,List.length_replicate];omega, ?_⟩;refine JI w1 (Dw zb w2<|by omega) ?_;rw[zyM];exact if_pos (by rw[zzB,zzB,List.length_replicate];exact JA<|by omega)
section
variable{ns cs:List Int}{o z:Int}{n m k s:Nat}
abbrev B8(ns cs:List Int)(o:Int)(n m k s:Nat)(z:Int)(l:AS):AS:=sT (zi ns)::sT (zi cs)::sI o::sI n::sI m::sI k::sI s::sI z::l
abbrev B5(ns cs:List Int)(o:Int)(n m k s:Nat)(z:Int)(ss:List Str)(b9:Option O)(J:TZ)(o11:List O)(b12 b13 b14 b15:Option O):AS:=B8 ns cs o n m k s z [sT<|.lst<|ss.map D.str,b9,sT<|xD J,sN o11,b12,b13,b14,b15]
structure Bd(cs:List Int)(n m k s:Nat):Prop where
 c:cs.length=12
 n1:1<=n
 n8:n<=8
 m1:1<=m
 m6:m<=6
 k6:k<=6
 s4:s<=4
def iR(ns):∃cs o n m k s z ss b9 J,Bd cs n m k s/\ss.length=10/\ss.Nodup/\Tab n n J/\0<=z/\∀(g:SF) (d:D),Rt (g<|B5 ns cs o n m k s z ss b9 J [] none none none none) d->Rt (zh bU (zh c6<|zh cG<|zh cf<|zh d9<|zh az<|zh bJ<|zh bE g) [sT<|zi ns,none,none,none,none,none,none,none,none,none,none,none,none,none,none,none]) d:=by
 obtain⟨cs,hc,wc⟩:=AU (as:=[sT<|zi ns,none,none,none,none,none,none,none,none,none,none,none,none,none,none,none]) rfl;have s1:=yJ (p:=1) wc<|ze rfl;obtain⟨c,w0⟩:=ZN (as:=[sT<|zi ns,sT<|zi cs,none,none,none,none,none,none,none,none,none,none,none,none,none,none]) (za (i:=1) rfl) (zb (x:=.int 0)) (by omega) (by omega);have wd:WE _ [sT<|zi ns,sT<|zi cs,none,none,none,none,none,none,none,none,none,none,none,none,none,none] (zi [c%2,c/2%8,c/2/8%6,c/2/8/6%7,c/2/8/6/7%5,c/2/8/6/7/5%8]):=OI (sz:=[2,8,6,7,5,8]) (by decide) (by decide) (WD.e w0)<|ZM (zu zb<|zu zb<|zu zb<|zu zb<|zu zb<|zu zb yp) (Uw rfl) rfl rfl;have bd:∀(x y:Int),0<y->∃r:Nat,(r:Int)=x%y/\(r:Int)<y:=λx y hy=>by
  have:=zyN x (show y≠0 from q1C hy);have:=zyH x hy;exact⟨(x%y).toNat,by omega,by omega⟩
 obtain⟨n',en,n8⟩:=bd (c/2) 8 (by decide);obtain⟨m',em,m8⟩:=bd (c/2/8) 6 (by decide);obtain⟨k,ek,k8⟩:=bd (c/2/8/6) 7 (by decide);obtain⟨s,es,s8⟩:=bd (c/2/8/6/7) 5 (by decide);obtain⟨z,ez,z8⟩:=bd (c/2/8/6/7/5) 8 (by decide);rw[<-en,<-em,<-ek,<-es,<-ez]at wd;generalize c%2=o at wd;have s2:c6 [sT<|zi ns,sT<|zi cs,none,none,none,none,none,none,none,none,none,none,none,none,none,none]=some _:=O9 wd rfl;have s3:cG [sT<|zi ns,sT<|zi cs,sI o,sI n',sI m',sI k,sI s,sI z,none,none,none,none,none,none,none,none]=some _:=zJ (zE (za (i:=3) rfl)<|zb)<|ze rfl;have s4:cf [sT<|zi ns,sT<|zi cs,sI o,sI ((n'+1:Nat):Int),sI m',sI k,sI s,sI z,none,none,none,none,none,none,none,none]=some _:=zJ (i:=4) (zE (za (i:=4) rfl)<|zb)<|ze rfl;have n9:n'+1<=8:=by omega
 have nn:=Nat.mul_le_mul n9 n9;obtain⟨x,_,wx⟩:=V2 ns (k:=12) (by omega);obtain⟨ss,sl,sn,rs⟩:=S4 x (mn:=10) (by omega);have s5:d9 (B8 ns cs o (n'+1) (m'+1) k s z [none,none,none,none,none,none,none,none])=some _:=yJ (p:=8) (y8 (WD.e<|wx _ _ rfl<|zb) (WD.e<|zb) rs)<|ze rfl;obtain⟨c1,w1⟩:=ZN (as:=B8 ns cs o (n'+1) (m'+1) k s z [sT<|.lst<|ss.map D.str,none,none,none,none,none,none,none]) (za (i:=1) rfl) (zb (x:=.int 1)) (by omega) (by omega);have wm:=y7 (za (as:=B8 ns cs o (n'+1) (m'+1) k s z [sT<|.lst<|ss.map D.str,none,none,none,none,none,none,none]) (i:=3) rfl) (za (i:=3) rfl) (zC (by omega)<|by omega) (zC (by omega)<|by omega);rw[<-zzV]at wm;have s6:=yJ (p:=9) (OI (λy my=>by rw[List.eq_of_mem_replicate my];omega) (by rw[List.length_replicate];exact q1S nn) (WD.e w1)<|Dw (za (i:=3) rfl) wm<|q1S nn)<|ze rfl;obtain⟨J,tJ,wJ⟩:=qW (as:=B8 ns cs o (n'+1) (m'+1) k s z [sT<|.lst<|ss.map D.str,sT<|zi<|dg c1 _,none,none,none,none,none,none]) (j:=3) (cap:=[none,some 9,some 3]) n9 n9 (λb=>rfl) rfl (by rw[NV,List.length_replicate])<|Ia (by omega) _ _;have s7:=yJ (p:=10) wJ<|ze rfl;exact⟨cs,o,n'+1,m'+1,k,s,z,ss,_,J,⟨hc,by omega,n9,by omega,by omega,by omega,by omega⟩,sl,sn,tJ,by omega,λg d h=>zc s1<|zc s2<|zc s3<|zc s4<|zc s5<|zc s6<|zc s7<|zc (xt (vz yp<|Uw rfl)<|ze rfl) h⟩
end
section
variable{ns cs:List Int}{o z:Int}{n m k s:Nat}{ss:List Str}{b9:Option O}{J:TZ}
def nP(h:Bd cs n m k s)(sl:ss.length=10):∃o11 Ds b12 b13,Ows Qj (λp=>Tab m n p.2) o11 Ds/\Ds.length=k/\Ds.map (·.1)=(List.range k).map (λj=>(ss[j]?).getD ("":Str))/\bO (B5 ns cs o n m k s z ss b9 J [] none none none none)=some (.nx<|B5 ns cs o n m k s z ss b9 J o11 b12 b13 none none):=by
 have n1:=h.n1;have n8:=h.n8;have m6:=h.m6;have k6:=h.k6;have hc:=h.c;have nm:=Nat.mul_le_mul n8 m6;have sg:∀i,i<10->ss[i]? = some ((ss[i]?).getD ("":Str)):=λi hi=>by rw[zzE<|q1Q hi sl];rfl
 obtain⟨as',hl,o11,Ds,b12,b13,rfl,hO,hN,hK⟩:=yP (g:=gN 12)
  (λi as=>∃(o11:List O) (Ds:DD) (b12 b13:Option O),as=B5 ns cs o n m k s z ss b9 J o11 b12 b13 none none/\Ows Qj (λp=>Tab m n p.2) o11 Ds/\Ds.map (·.1)=(List.range i).map (λj=>(ss[j]?).getD ("":Str))/\Ds.length=i) (yY 0 k) 0 _ (λi y as hy hI=>by
   obtain⟨o11,Ds,b12,b13,rfl,hO,hN,hK⟩:=hI;obtain⟨rfl,hi⟩:=x_ hy;rw[zyX]at hN hK ⊢;rw[Int.zero_add];obtain⟨c,wc⟩:=ZN (as:=B5 ns cs o n m k s z ss b9 J o11 (sI i) b13 none none) (za (i:=1) rfl) (zE (zb (x:=.int 2))<|za (i:=12) (s:=true) rfl) (by omega) (by omega);have wm:=y7 (za (as:=B5 ns cs o n m k s z ss b9 J o11 (sI i) b13 none none) (i:=3) rfl) (za (i:=4) rfl) (zC (q0X n1 n8)<|q1b n1 n8) (zC (by omega)<|by omega);rw[<-zzV]at wm;have t1:=yJ (p:=13) (OI (λy my=>by rw[List.eq_of_mem_replicate my];omega) (by rw[List.length_replicate];exact q1J nm) (WD.e wc)<|Dw (za (i:=3) rfl) wm<|q1J nm)<|ze rfl;obtain⟨T,tT,wT⟩:=qW (as:=B5 ns cs o n m k s z ss b9 J o11 (sI i) (sT<|zi<|dg c _) none none) (j:=4) (cap:=[none,some 13,some 3]) n8 (by omega) (λb=>rfl) rfl (by rw[NV,List.length_replicate])<|Ia n1 _ _;obtain⟨os',p1,p2⟩:=J_ (i:=11) (x:=((ss[i]?).getD "",T)) rfl hO (by omega) (yu (WD.e<|zw (za (i:=8) rfl) (za (i:=12) rfl) (Xd<|sg i<|by omega) rfl) wT) tT;exact⟨_,rfl,_,zo t1 p2,os',_,_,_,rfl,p1,by rw[zyM,hN,List.range_succ,zyM];rfl,by rw[zzJ,hK];rfl⟩)
  ⟨[],[],none,none,rfl,Ows.nil,rfl,rfl⟩
 rw[xi,zyX]at hN hK;have hr:=xu (as:=B5 ns cs o n m k s z ss b9 J [] none none none none) (zg (za (i:=5) rfl) zq) (by omega) (by omega);rw[zyI]at hr;exact⟨o11,Ds,b12,b13,hO,hK,hN,yh hr hl⟩
def lQ(h:Bd cs n m k s)(sl:ss.length=10):∃o14 S b12' b15,Ows Tj (λ_=>True) o14 S/\S.length=s/\S.map (·.1)=(List.range s).map (λj=>(ss[9-j]?).getD ("":Str))/\eY (B5 ns cs o n m k s z ss b9 J o11 b12 b13 (sN []) none)=some (.nx<|B5 ns cs o n m k s z ss b9 J o11 b12' b13 (sN o14) b15):=by
 have n1:=h.n1;have n8:=h.n8;have s4:=h.s4;have hc:=h.c;have sg:∀i,i<10->ss[i]? = some ((ss[i]?).getD ("":Str)):=λi hi=>by rw[zzE<|q1Q hi sl];rfl
 obtain⟨as',hl,o14,S,b12',b15,rfl,hO,hN,hK⟩:=yP (g:=gN 12)
  (λi as=>∃(o14:List O) (S:SS) (b12 b15:Option O),as=B5 ns cs o n m k s z ss b9 J o11 b12 b13 (sN o14) b15/\Ows Tj (λ_=>True) o14 S/\S.map (·.1)=(List.range i).map (λj=>(ss[9-j]?).getD ("":Str))/\S.length=i) (yY 0 s) 0 _ (λi y as hy hI=>by
   obtain⟨o14,S,b12,b15,rfl,hO,hN,hK⟩:=hI;obtain⟨rfl,hi⟩:=x_ hy;rw[zyX]at hN hK ⊢;rw[Int.zero_add];obtain⟨c,wc⟩:=ZN (as:=B5 ns cs o n m k s z ss b9 J o11 (sI i) b13 (sN o14) b15) (za (i:=1) rfl) (zE (zb (x:=.int 8))<|za (i:=12) rfl) (by omega) (by omega);have t1:=yJ (p:=15) (OI (λy my=>by rw[List.eq_of_mem_replicate my];omega) (by rw[List.length_replicate];exact q2k n1 n8) (WD.e wc)<|Dw (zb (x:=.int 2)) (za (i:=3) rfl)<|q2k n1 n8)<|ze rfl;obtain⟨r,wr⟩:=Ih (as:=B5 ns cs o n m k s z ss b9 J o11 (sI i) b13 (sN o14)<|sT<|zi<|dg c<|List.replicate n 2) (cap:=[none,some 15]) (gg:=gN 0) (tt:=(fT<|f2 (f2 zm zk zx) zL<|zz .Eq)) (List.range n) (qf (zg (za (i:=3) rfl) zq)<|q0J n1 n8) (by rw[zyU];omega) λq mq=>by
    have hq:=List.mem_range.mp mq;rw[Int.zero_add];obtain⟨v,wv⟩:=ZN (as:=[sI q,sT<|zi<|dg c<|List.replicate n 2]) (za (i:=1) rfl) (za (i:=0) rfl) (q0a) (by rw[NV,List.length_replicate];exact q0h hq);exact⟨_,_,rfl,eqT wv zb rfl,WD.e<|za (i:=0) rfl⟩
   have wn:WD (f2 (fV 8) (f2 (fC<|.int 9) (fV 12) Zt) zx) (B5 ns cs o n m k s z ss b9 J o11 (sI i) b13 (sN o14)<|sT<|zi<|dg c<|List.replicate n 2) true (.str<|(ss[9-i]?).getD ("":Str)):=by
    have w:=Y9 (as:=B5 ns cs o n m k s z ss b9 J o11 (sI i) b13 (sN o14)<|sT<|zi<|dg c<|List.replicate n 2) (zb (x:=.int 9))<|za (i:=12) rfl;rw[show(9:Int)-i=((9-i:Nat):Int) by omega]at w;exact zw (za rfl) w (Xd<|sg (9-i)<|by omega) rfl
   obtain⟨os',p1,p2⟩:=J_ (i:=14) (x:=((ss[9-i]?).getD ("":Str),r)) rfl hO (by omega) (yu (WD.e wn) wr) True.intro;exact⟨_,rfl,_,zo t1 p2,os',_,_,_,rfl,p1,by rw[zyM,hN,List.range_succ,zyM];rfl,by rw[zzJ,hK];rfl⟩)
  ⟨[],[],b12,none,rfl,Ows.nil,rfl,rfl⟩
 rw[xi,zyX]at hN hK;have hr:=xu (as:=B5 ns cs o n m k s z ss b9 J o11 b12 b13 (sN []) none) (zg (za (i:=6) rfl) zq) (by omega) (by omega);rw[zyI]at hr;exact⟨o14,S,b12',b15,hO,hK,hN,yh hr hl⟩
def rZ{ss:List Str}{k a:Nat}(nd:ss.Nodup)(ha:a<ss.length)(hk:k<=a):((List.range k).map λj=>(ss[a-j]?).getD ("":Str)).Nodup:=by
 refine List.pairwise_map.mpr<|(List.nodup_range).imp_of_mem λ{i j} mi mj hne he=>hne ?_;have hi:=List.mem_range.mp mi;have hj:=List.mem_range.mp mj;rw[zzE (show a-i<ss.length from q0g ha),zzE (show a-j<ss.length from q0g ha)]at he;have:=Dv nd (show a-i<ss.length from q0g ha) (show a-j<ss.length from q0g ha) he;omega
def BW(ns:List Int):∃c:Cx,Alg c.n c.m c.J c.e c.Ds/\c.S.length<=4/\(c.S.map (·.1)).Nodup/\RE (vh [(true,zi ns)]) c.g:=by
 obtain⟨cs,o,n,m,k,s,z,ss,b9,J,h,sl,sn,tJ,z0,g1⟩:=iR ns;obtain⟨o11,Ds,b12,b13,hD,dl,dn,e9⟩:=nP h sl;obtain⟨o14,S,c12,b15,hS,slen,sm,e11⟩:=lQ h sl;have n1:=h.n1;have k6:=h.k6;have s4:=h.s4;have e10:dY (B5 ns cs o n m k s z ss b9 J o11 b12 b13 none none)=some _:=xt (vz yp<|Uw rfl)<|ze rfl;have hz:=Uv (x:=z) h.n1;have wr:ij (B5 ns cs o n m k s z ss b9 J o11 c12 b13 (sN o14) b15)=some (_,_):=
  vJ (za rfl) (vJ (za rfl)<|vJ (za rfl)<|vJ (zV (za rfl) (za rfl)<|q0o n1)<|ME rfl<|ME rfl rfl)
 have hfin:=IC wr<|Uw rfl;rw[hD.frz,hS.frz]at hfin;have rt:=K8 hfin rfl;have nd1:(Ds.map (·.1)).Nodup:=by
  rw[dn];have:=BJ (k:=k) (a:=0) sn (by omega);simp only[zyX]at this;exact this
 have nd2:(S.map (·.1)).Nodup:=by
  rw[sm];exact rZ sn (by omega) (by omega)
 exact⟨⟨n,m,J,z%n,Ds,S⟩,⟨h.n1,h.n8,h.m1,h.m6,tJ,hz.1,hz.2,by show Ds.length<=6;omega,hD.al,nd1⟩,by show S.length<=4;omega,nd2,zH rfl<|g1 _ _<|zc e9<|zc e10<|zc e11 ⟨_,rt,rfl,rfl⟩⟩
end
theorem Dp(k:Nat):∀r s:List Int,qT (Xi<|k+1) (r.map D.int) (s.map D.int)=some (r==s)
 | [],[]=>rfl
 | [],_::_=>rfl
 |_::_,[]=>rfl
 |a::r,b::s=>by
  show(some _).bind _=_;rw[Dp k r s];rfl
def oh(r s):Xi 60 (zi r) (zi s)=some (r==s):=Dp 58 r s
def C7:∀xs:List D,Xi 60 (.lst xs) (.lst [])=some xs.isEmpty
 | []=>rfl
 |_::_=>rfl
def Rf(r:Option Out)(I:AS->Prop):Prop:=(∃as,r=some (.nx as)/\I as)\/r=some (.rt<|.lf true<|.bl false)
theorem Rf.loop(I:Nat->AS->Prop):∀(xs:List Zj) (k:Nat) (as:AS),(∀i x as,xs[i]? = some x->I (k+i) as->∃as1,g x as=some as1/\Rf (f as1) (I<|k+i+1))->I k as->Rf (forL g f xs as) (I<|k+xs.length)
 | [],k,as,_,h=>.inl ⟨as,rfl,h⟩
 |x::xs,k,as,H,h=>by
  obtain⟨as1,h1,h2⟩:=H 0 x as rfl h
  rcases h2 with⟨as2,h2,h3⟩|h2
  . have:=Rf.loop I xs (k+1) as2 (λi y as hy hI=>by
     have:=H (i+1) y as hy (by rw[show k+(i+1)=k+1+i from q0e];exact hI)
     rwa [show k+(i+1)+1=k+1+i+1 by omega]at this) h3
    rw[show k+1+xs.length=k+(x::xs).length by rw[zzT];exact q0p]at this;have e:forL g f (x::xs) as=forL g f xs as2:=by
     show(g x as).bind _=_;rw[h1];show(f as1).bind _=_;rw[h2];rfl
    rwa [e]
  . right;show(g x as).bind _=_;rw[h1];show(f as1).bind _=_;rw[h2];rfl
def Rf.seq(h:f as=some (.nx as1))(k:Rf (g as1) I):Rf (zh f g as) I:=by
 rcases k with⟨a,b,c⟩|k
 . exact .inl ⟨a,zo h b,c⟩
 . exact .inr<|zo h k
def Rf.no(h:WT c as t)(k:t=false->I as):Rf (y6 c (zy<|fC<|.bl false) yX as) I:=by
 cases t with
 |false=>exact .inl ⟨as,zp h rfl,k rfl⟩
 |true=>exact .inr (yL h rfl)
def Rf.bind{I K}(h:Rf (f as) I)(k:∀as1,I as1->Rf (g as1) K):Rf (zh f g as) K:=by
 rcases h with⟨a,b,c⟩|h
 . exact(k a c).seq b
 . exact .inr<|wB h
def fG(ha:WD a as s (.int x))(hb:WD b as t (.int y)):WT (fT<|f2 a b<|zz .NotEq) as (!(x==y)):=yf (IE ha hb rfl) rfl
def oK{x y:Int}(h:(!(x==y))=false):x=y:=by
 rw[Bool.not_eq_false']at h;exact beq_iff_eq.mp h
section
variable{n m:Nat}{J T:TZ}{a b:Int}
abbrev D9(m:Nat)(J T:TZ)(a b:Int)(l:AS):AS:=sI m::sT (xD J)::sT (xD T)::sI a::sI b::l
abbrev Aj(m:Nat)(J T:TZ)(a b i k:Int):Prop:=yi T ((i+k)%m) (yi J a b)=yi J (yi T i a) (yi T k b)
def rX(hJ:Tab n n J)(hT:Tab m n T)(m1:1<=m)(m6:m<=6)(ha:zQ n a)(hb:zQ n b):∃t,RE (Ri [(true,.int m),(true,xD J),(true,xD T),(true,.int a),(true,.int b)]) (.bl t)/\(t=true->∀i k,zQ m i->zQ m k->Aj m J T a b i k):=by
 have hr:=λl=>by
  have:=xu (as:=D9 m J T a b l) (zg (za (i:=0) rfl) zq) (by omega) (by omega)
  rwa [zyI]at this
 have key:=Rf.loop (g:=gN 5) (λi as=>∃x y z w,as=D9 m J T a b [x,y,z,w]/\∀i':Nat,i'<i->∀k,zQ m k->Aj m J T a b i' k) (yY 0 m) 0 (D9 m J T a b [none,none,none,none]) (λi y as hy hI=>by
  obtain⟨x,y,z,w,rfl,hI⟩:=hI;obtain⟨rfl,hi⟩:=x_ hy;rw[zyX]at hI ⊢;rw[Int.zero_add];refine⟨D9 m J T a b [sI i,y,z,w],rfl, ?_⟩;have inn:=Rf.loop (g:=gN 6) (f:=(zh (zr true 7 _)<|zh (zr true 8 _) _)) (λk as=>∃y z w,as=D9 m J T a b [sI i,y,z,w]/\∀k':Nat,k'<k->Aj m J T a b i k') (yY 0 m) 0 (D9 m J T a b [sI i,y,z,w]) (λk y as hy hK=>by
   obtain⟨y,z,w,rfl,hK⟩:=hK;obtain⟨rfl,hk⟩:=x_ hy;rw[zyX]at hK ⊢;rw[Int.zero_add];refine⟨D9 m J T a b [sI i,sI k,z,w],rfl, ?_⟩;have w1:=(V4 (as:=D9 m J T a b [sI i,sI k,z,w]) hT (Uv<|by omega) (Rm hJ ha hb) (za (i:=2) rfl) (zV (zE (za (i:=5) rfl)<|za (i:=6) rfl) (za (i:=0) rfl)<|by omega)<|vO hJ ha hb (za (i:=1) rfl) (za (i:=3) rfl)<|za (i:=4) rfl).1;have z1:=V4 (as:=D9 m J T a b [sI i,sI k,sI<|yi T (((i:Int)+k)%m)<|yi J a b,w]) hT (OH hi) ha (za (i:=2) rfl) (za (i:=5) rfl)<|za (i:=3) rfl;have z2:=V4 (as:=D9 m J T a b [sI i,sI k,sI<|yi T (((i:Int)+k)%m)<|yi J a b,w]) hT (OH hk) hb (za (i:=2) rfl) (za (i:=6) rfl)<|za (i:=4) rfl;refine(Rf.no (fG (za (i:=7) rfl)<|za (i:=8) rfl) λh=>⟨_,_,_,rfl,λk' hk'=>?_⟩).seq (zJ (vO hJ z1.2 z2.2 (za (i:=1) rfl) z1.1 z2.1)<|ze rfl) |>.seq (zJ w1<|ze rfl)
   rcases Nat.lt_or_eq_of_le (Nat.le_of_lt_succ hk')with h1|rfl
   . exact hK k' h1
   . exact oK h) ⟨_,_,_,rfl,λk' hk'=>absurd hk'<|Nat.not_lt_zero _⟩
  rw[xi,zyX]at inn;have fin:∀{r},forL (gN 6) _ (yY 0 m) (D9 m J T a b [sI i,y,z,w])=r->cw (D9 m J T a b [sI i,y,z,w])=r:=λh=>yh (hr _) h
  rcases inn with⟨as2,h1,y',z',w',rfl,h2⟩|h1
  . refine .inl ⟨_,fin h1,_,_,_,_,rfl,λi' hi' k hk=>?_⟩
    rcases Nat.lt_or_eq_of_le (Nat.le_of_lt_succ hi')with h3|rfl
    . exact hI i' h3 k hk
    . have:=h2 k.toNat (by have:=hk.1;have:=hk.2;omega)
      rwa [show((k.toNat:Nat):Int)=k by have:=hk.1;omega]at this
  . exact .inr<|fin h1) ⟨_,_,_,_,rfl,λk' hk'=>absurd hk'<|Nat.not_lt_zero _⟩
 rw[xi,zyX]at key
 rcases key with⟨as2,h1,x',y',z',w',rfl,h2⟩|h1
 . refine⟨true,zH rfl<|zc (yh (hr _) h1)<|zA<|WD.e zb,λ_ i k hi hk=>?_⟩;have:=h2 i.toNat (by have:=hi.1;have:=hi.2;omega) k hk
   rwa [show((i.toNat:Nat):Int)=i by have:=hi.1;omega]at this
 . exact⟨false,zH rfl<|yk ⟨_,yh (hr _) h1,rfl,rfl⟩,λh=>nomatch h⟩
end
def lh(ha:WE a as x)(hb:WE b as y)(hc:WE c as z)(hd:WE d as u)(he:WE e as v)(hg:RE (g [(true,x),(true,y),(true,z),(true,u),(true,v)]) o):WE (zj (aC a<|aC b<|aC c<|aC d<|aC e aN) g) as o:=by
 obtain⟨r,h1,h2,rfl⟩:=hg;exact⟨r,Zh (y_ ha<|y_ hb<|y_ hc<|y_ hd<|y_ he zq) (by show g [(zB x||true,x),_,_,_,_]=_;simp only[zyD];exact h1),h2,rfl⟩
def ef(ha:WD a as true (.int x))(hb:WD b as true (.int y))(h0:0<y)(h1:y<1000):WD (fP (aC a<|aC b aN) tU) as true (.tup [.int<|x/y,.int<|x%y]):=
 SH (zg ha<|zg hb zq) (by show(if 0<y/\y<1073741824 then _ else _)=_;rw[if_pos ⟨h0,by omega⟩]) rfl
def qb{n:Nat}{f:Int->Int}(hl:r.length=n)(hv:zQ n v):Zw (r.map f) v=f (Zw r v):=by
 unfold Zw;have:=hv.1;have:=hv.2;rw[zzI,zzE (show v.toNat<r.length by omega)];rfl
abbrev G7(c:Cx)(l:AS):AS:=sT c.g::sI c.n::sI c.m::sT (xD c.J)::sI c.e::sT (.lst<|c.Ds.map Qj)::sT (.lst<|c.S.map Tj)::l
structure pFac(c:Cx)(a b:Int):Prop where
 u:yi c.J c.e a=a
 v:yi c.J a c.e=a
 s:∀v,zQ c.n v->yi c.J (yi c.J a b) v=yi c.J a (yi c.J b v)
 d:∀q ∈ c.Ds,∀i k,zQ c.m i->zQ c.m k->Aj c.m c.J q.2 a b i k
section
variable{c:Cx}
def sF(A:Alg c.n c.m c.J c.e c.Ds){p:Nat}(hp:p<c.n*c.n){x8 x9 x10 x11:Option O}:Rf (cS<|G7 c [sI p,x8,x9,x10,x11,none]) (λas=>(∃x7 x8 x9 x10 x11,as=G7 c [x7,x8,x9,x10,x11,none])/\pFac c ((p:Int)/c.n) ((p:Int)%c.n)):=by
 have n1:=A.n1;have n8:=A.n8;have hb:zQ c.n ((p:Int)%c.n):=Uv n1;have ha:zQ c.n ((p:Int)/c.n):=⟨Int.ediv_nonneg (q0a) (by omega),by
  rw[<-Int.natCast_ediv];have:=Nat.div_lt_of_lt_mul<|Nat.mul_comm .. ▸ hp;omega⟩
 have he:zQ c.n c.e:=⟨A.e0,A.en⟩;have s1:kL (G7 c [sI p,x8,x9,x10,x11,none])=some _:=O9 (WD.e<|ef (za rfl) (za rfl) (by omega)<|by omega) rfl;generalize (p:Int)/c.n=a,(p:Int)%c.n=b at ha hb s1 ⊢;have hab:=Rm A.j ha hb;have wJ:∀l,WD zF (G7 c l) true (xD c.J):=λl=>za rfl;refine Rf.seq s1<|Rf.bind (I:=λas=>as=G7 c [sI p,sI a,sI b,x10,x11,none]/\yi c.J c.e a=a/\yi c.J a c.e=a) (Rf.no (t:=!(yi c.J c.e a==a) || !(yi c.J a c.e==a)) (uk (fG (vO A.j he ha (wJ _) (za rfl)<|za rfl)<|za rfl) (λh=>by rw[h,Bool.false_or];exact fG (vO A.j ha he (wJ _) (za rfl)<|za rfl)<|za rfl) λh=>by rw[h];rfl) λh=>by
  rw[Bool.or_eq_false_iff]at h;exact⟨rfl,oK h.1,oK h.2⟩) ?_
 rintro _ ⟨rfl,u1,u2⟩
 obtain⟨i1,r1⟩:=wK A.j hab;obtain⟨i2,r2⟩:=wK A.j hb;refine Rf.bind (I:=λas=>as=G7 c [sI p,sI a,sI b,x10,x11,none]/\∀v,zQ c.n v->yi c.J (yi c.J a b) v=yi c.J a (yi c.J b v)) (Rf.no (yf (Oe (WD.e<|yt (wJ _) (vO A.j ha hb (wJ _) (za rfl)<|za rfl) i1) (TM<|ES (KS c.J b) (Wk<|WD.e<|yt (wJ _) (za rfl) i2) (by rw[r2.1];exact q0J n1 n8) λv mv=>⟨_,rfl,vO A.j ha (r2.2 v mv) (za rfl) (za rfl)<|za rfl⟩)<|oh _ _) rfl) λh=>⟨rfl,λv hv=>?_⟩) ?_
 . rw[Bool.not_eq_false']at h;have e:=beq_iff_eq.mp h;show Zw (KS c.J _) v=yi c.J a (Zw _ v);rw[e,qb r2.1 hv]
 rintro _ ⟨rfl,u3⟩
 have key:=Rf.loop (g:=(gT 2<|yH (gN 10)<|yH (gN 11) XI)) (λi as=>∃y z,as=G7 c [sI p,sI a,sI b,y,z,none]/\∀j q,j<i->c.Ds[j]? = some q->∀i k,zQ c.m i->zQ c.m k->Aj c.m c.J q.2 a b i k) ((c.Ds.map Qj).map λd=>(true,d)) 0 (G7 c [sI p,sI a,sI b,x10,x11,none]) (λi y as hy hI=>by
  obtain⟨y,z,rfl,hI⟩:=hI;rw[zyB,zzI]at hy;obtain⟨q,hq,rfl⟩:=zzX.mp hy;rw[zyX]at hI ⊢;refine⟨G7 c [sI p,sI a,sI b,sT<|.str q.1,sT<|xD q.2,none],rfl, ?_⟩;obtain⟨t,w,ht⟩:=rX A.j (A.ds q<|zyA hq) A.m1 A.m6 ha hb;refine Rf.no (W8<|tI<|lh (WD.e<|za (i:=2) rfl) (WD.e<|wJ _) (WD.e<|za (i:=11) rfl) (WD.e<|za (i:=8) rfl) (WD.e<|za (i:=9) rfl) w) λh=>⟨_,_,rfl,λj r hj hr=>?_⟩
  rcases Nat.lt_or_eq_of_le (Nat.le_of_lt_succ hj)with h1|rfl
  . exact hI j r h1 hr
  . rw[hq]at hr;cases hr;exact ht<|(Bool.not_eq_false' ..).mp h) ⟨_,_,rfl,λj _ hj=>absurd hj<|Nat.not_lt_zero _⟩
 rw[zyX,zzB,zzB]at key
 rcases key with⟨as2,h1,y,z,rfl,h2⟩|h1
 . refine .inl ⟨_,yh (CM<|za rfl) h1,⟨_,_,_,_,_,rfl⟩,u1,u2,u3,λq mq=>?_⟩;obtain⟨j,hj,e⟩:=List.getElem_of_mem mq;exact h2 j q hj (by rw[zzE hj,e])
 . exact .inr<|yh (CM<|za rfl) h1
end
section
variable{c:Cx}
def qd(A:Alg c.n c.m c.J c.e c.Ds):∃t,RE (XH [(true,c.g)]) (.bl t)/\(t=true->LawA c.n c.m c.J c.e c.Ds/\1<=c.Ds.length):=by
 have n1:=A.n1;have n8:=A.n8;have nn:=Nat.mul_le_mul n8 n8;have s1:sQ [sT c.g,none,none,none,none,none,none,none,none,none,none,none,none]=some _:=O9 (WD.e<|za rfl) rfl;have wm:=y7 (za (as:=G7 c [none,none,none,none,none,none]) (i:=1) rfl) (za (i:=1) rfl) (zC (q0X n1 n8)<|q1b n1 n8)<|zC (q0X n1 n8)<|q1b n1 n8;rw[<-zzV]at wm;have hr:=xu (zg wm zq) (by omega) (by omega);rw[zyI]at hr;have key:=Rf.loop (g:=gN 7) (λi as=>(∃x7 x8 x9 x10 x11,as=G7 c [x7,x8,x9,x10,x11,none])/\∀p:Nat,p<i->pFac c ((p:Int)/c.n) ((p:Int)%c.n)) (yY 0<|c.n*c.n) 0 (G7 c [none,none,none,none,none,none]) (λi y as hy hI=>by
  obtain⟨⟨x7,x8,x9,x10,x11,rfl⟩,hI⟩:=hI;obtain⟨rfl,hi⟩:=x_ hy;rw[zyX]at hI ⊢;rw[Int.zero_add];refine⟨_,rfl, ?_⟩
  rcases sF A hi with⟨as,h1,h2,h3⟩|h1
  . refine .inl ⟨as,h1,h2,λp hp=>?_⟩
    rcases Nat.lt_or_eq_of_le (Nat.le_of_lt_succ hp)with h4|rfl
    . exact hI p h4
    . exact h3
  . exact .inr h1) ⟨⟨_,_,_,_,_,rfl⟩,λj hj=>absurd hj<|Nat.not_lt_zero _⟩
 rw[xi,zyX]at key
 rcases key with⟨as2,h1,⟨x7,x8,x9,x10,x11,rfl⟩,h2⟩|h1
 . have pf:∀a b,zQ c.n a->zQ c.n b->pFac c a b:=λa b ha hb=>by
    have:=ha.1;have:=ha.2;have:=hb.1;have:=hb.2;have e1:(b.toNat+c.n*a.toNat)/c.n=a.toNat:=by rw[Nat.add_mul_div_left _ _ n1,Nat.div_eq_of_lt (by omega),zyX]
    have e2:(b.toNat+c.n*a.toNat)%c.n=b.toNat:=by rw[Nat.add_mul_mod_self_left,Nat.mod_eq_of_lt<|by omega]
    have:=h2 (b.toNat+c.n*a.toNat) (by
     have:c.n*a.toNat+c.n<=c.n*c.n:=by rw[<-Nat.mul_succ];exact Nat.mul_le_mul_left _ (by omega)
     omega)
    rwa [<-Int.natCast_ediv,<-Int.natCast_emod,e1,e2,zyY (by omega),zyY<|by omega]at this
   have he:zQ c.n c.e:=⟨A.e0,A.en⟩;have z0:zQ c.m 0:=⟨by omega,by have:=A.m1;exact q0o this⟩;have wf:=Of (as:=G7 c [x7,x8,x9,x10,x11,none]) (cap:=[none,none,some 4]) (gg:=gT 2<|yH xm<|yH (gN 1) XI) c.Ds (Wk<|WD.e<|za (i:=5) rfl) (by have:=A.dl;exact q1W this) λq mq=>⟨_,rfl,fG (V4 (A.ds q mq) z0 he (za (i:=1) rfl) zb<|za (i:=2) rfl).1<|za (i:=2) rfl,λ_=>WD.e<|za (i:=0) rfl⟩;have s3:=yJ (p:=12) wf<|ze rfl;have wn:∀{as:AS},WE (yd dN) as (.lst []):=λ{as}=>Y0 Z_ rfl;generalize hF:(c.Ds.filter λq:Str×TZ=>!(yi q.2 0 c.e==c.e))=fl at s3;refine⟨(fl.map λq:Str×TZ=>D.str q.1).isEmpty&&(!(c.Ds.map Qj).isEmpty && !(c.S.map Tj).isEmpty),zH rfl (zc s1<|zc (yh hr h1)<|zc s3<|zA<|WD.e<|T4 (DM (WD.e<|za rfl) wn<|C7 _) (λh=>by rw[h,Bool.true_and];exact T4 (Oe (WD.e<|za rfl) wn<|C7 _) (λh=>by rw[h,Bool.true_and];exact Oe (WD.e<|za rfl) wn<|C7 _) λh=>by rw[h];rfl) λh=>by rw[h];rfl),λht=>?_⟩;have hE:fl=[]:=by
    rw[zyC,List.isEmpty_iff,List.map_eq_nil_iff]at ht;exact ht.1
   have hE2:1<=c.Ds.length:=by
    rw[zyC,zyC]at ht;have h:=ht.2.1;cases z:c.Ds with
    |nil=>rw[z]at h;exact nomatch h
    |cons a b=>exact Nat.succ_le_succ (Nat.zero_le _)
   refine⟨?_,hE2⟩;refine⟨⟨λa b ha hb=>Rm A.j ha hb,he,λa ha=>(pf a a ha ha).u,λa ha=>(pf a a ha ha).v,λa b v ha hb hv=>(pf a b ha hb).s v hv⟩,λq mq=>⟨λk a hk ha=>(rowAt (wK (A.ds q mq) hk).2 ha).2, ?_,λa i b k ha hi hb hk=>(pf a b ha hb).d q mq i k hi hk⟩⟩
   by_cases hx:yi q.2 0 c.e=c.e
   . exact hx
   . have:q ∈ fl:=hF ▸ List.mem_filter.mpr ⟨mq,by rw[beq_eq_false_iff_ne.mpr hx];rfl⟩;rw[hE]at this;exact absurd this zxB
 . exact⟨false,zH rfl<|zc s1<|yk ⟨_,yh hr h1,rfl,rfl⟩,λh=>nomatch h⟩
end
def lN(ns):∃c:Cx,c.Gd/\RE (Ug [(true,zi ns)]) c.g:=by
 obtain⟨c0,g0,r0⟩:=Ot ns;have e0:∀l,Rt (zy (zj (aC zk _) ZA) (sT _::l)) c0.g:=λl=>zA<|y8 (WD.e<|za rfl) (WD.e zb) r0;obtain⟨t,ht⟩:∃t,WT (SB _<|fT<|f2 (f2 _ yy zO) zL _) [sT _,none] t:=by
  have wl:WT (fT<|f2 (fP Zv xC) zW<|zz .Gt) [sT<|zi ns,none] (decide _):=yf (zw (Hj<|WD.e<|za rfl) zb rfl rfl) rfl
  by_cases h:(0:Int)<ns.length
  . obtain⟨v,wv⟩:=ZN (as:=[sT _,none]) (za (i:=0) rfl) (zb (x:=.int 0)) (by omega) (by omega);exact⟨_,uG wl (λ_=>eqT (zV wv zb<|by decide) zb rfl) (λz=>by rw[zyO h]at z;exact nomatch z)⟩
  . exact⟨false,uG wl (λz=>by rw[zyG h]at z;exact nomatch z) λ_=>rfl⟩
 cases t with
 |false=>exact⟨c0,g0,zH rfl<|zc (zp ht rfl)<|e0 _⟩
 |true=>
  obtain⟨c,A,s4,sn,rc⟩:=BW ns;obtain⟨t,rg,hg⟩:=qd A;have s1:zr true 1 (zj Zv vh) [sT<|zi ns,none]=some _:=yJ (wU (WD.e<|za rfl) rc)<|ze rfl;have w:=tI<|wU (WD.e<|za (as:=[sT<|zi ns,sT c.g]) (i:=1) rfl) rg;cases t with
  |true=>exact⟨c,⟨⟨A,(hg rfl).1⟩,s4,sn,(hg rfl).2⟩,zH rfl<|yk<|yK ht<|zc s1<|yK w<|zA<|WD.e<|za rfl⟩
  |false=>exact⟨c0,g0,zH rfl<|zc (yL ht<|zo s1<|zp w rfl)<|e0 _⟩
def kg(h:WL fr as xs)(hl:Nat.ble xs.length 1000=true):WE (yj fr) as (.tup xs):=by
 obtain⟨os,h1,h2,h3⟩:=h;have e:os.length=xs.length:=by rw[<-h3,QA]
 exact t_ h1 (by rw[e];exact Uw hl) h2<|congrArg D.tup h3
def Al{α:Type}{it h}(l:List α)(h1:fi as=some (l.map it,as))(hl:l.length<=1000)(H:∀q ∈ l,∃as1,gg (it q) (Yq cap as)=some as1/\WE fe as1 (h q)):WE (zU fi cap gg yD fe) as (.lst<|l.map h):=by
 obtain⟨os,o1,o2,o3⟩:=AM l h1 hl H;exact⟨_,o1,o2,congrArg D.lst o3⟩
def iI{as}{i k n:Nat}{T:TZ}(k9:k<=900)(hT:Tab k n T)(h:as[i]? = some (sT<|xD T)):WE (zU (xS<|fV i) [none] xm yD<|fP Zv lstP) as (xD T):=
 Al T (Wk<|WD.e<|za h) (by rw[hT.1];exact q0b k9) λr _=>⟨_,rfl,Oo<|za rfl⟩
def rz{c:Cx}(h:c.Gd):RE (Rz [(true,c.g)]) c.g:=by
 have A:=h.ok.A;have n8:=A.n8;have m6:=A.m6;have dl:=A.dl;have s4:=h.sl;have s1:sQ [sT c.g,none,none,none,none,none,none]=some (.nx<|G7 c []):=O9 (WD.e<|za rfl) rfl;have s2:iN (G7 c [])=some (.nx<|G7 c []):=yJ (Al c.Ds (Wk<|WD.e<|za rfl) (q0M dl) λq mq=>⟨_,rfl,yu (WD.e<|za rfl)<|iI (q0K m6) (A.ds q mq) rfl⟩)<|ze rfl;exact zH rfl<|zc s1<|zc s2<|zA<|kg (zR (WD.e<|za rfl)<|zR (WD.e<|za rfl)<|zR (iI (q0l n8) A.j rfl)<|zR (WD.e<|za rfl)<|zR (WD.e<|za rfl)<|zR (Al c.S (Wk<|WD.e<|za rfl) (by omega) λq mq=>⟨_,rfl,yu (WD.e<|za rfl)<|Oo<|za rfl⟩) Z_) rfl
def IQ:vb [(true,.int v),(true,.int w)]=sT (.bl<|v==w):=rfl
def CP(ha:WD a as s (.int i))(hb:WD b as t (.int j))(hc:WD c as u (.int k))(h1:i<=j)(h2:j<=k):WD (BN a b c (zz .LtE)<|zz .LtE) as true (.bl true):=by
 unfold WD at *;unfold BN;rw[ha];simp only[zyL];rw[hb];simp only[zyL];simp only[RV.frz,O.frz,RV.view,O.toD,O.str,zyL,zz,JS,pF,CN,sY,h1,h2,decide_true,hc];rfl
def LK:Rh [(s,.int x)]=sT (.bl true):=rfl
def Ep(h0:0<=x)(h1:x<=k):vE [(true,.int x),(true,.int 0),(true,.int k)]=sT (.bl true):=
 xo rfl (yT<|T4 (Yt (zg (za rfl) zq) LK) (λ_=>CP (za rfl) (za rfl) (za rfl) h0 h1) (λz=>nomatch z))
def rW(hl:r.length<=1000):RE (Zz [(s,zi r),(t,zi r)]) (.bl true):=by
 have i1:WT (fT<|Q0 zk "list") [some<|.lf s<|zi r,some<|.lf t<|zi r] true:=rfl;have n2:WT (fT<|f2 zk zm _) [some<|.lf s<|zi r,some<|.lf t<|zi r] _:=yf (IE (za rfl) (za rfl)<|oh r r) rfl;rw[beq_self_eq_true]at n2;have wf:=Of (as:=[some<|.lf s<|zi r,some<|.lf t<|zi r]) (h:=λx:Int=>D.int x) (p:=λ_:Int=>false) (cap:=[none]) (gg:=gN 0) (tt:=Br (fT<|Q0 zk "bool")<|YY<|fT<|Q0 zk "int") (fe:=fV 0) r (pY (i:=0) rfl) (q0t hl) λx _=>⟨_,rfl,rfl,λz=>nomatch z⟩;rw[List.filter_eq_nil_iff.mpr λ_ _=>zyV,List.map_nil]at wf;exact zH rfl<|zc (zp (uk (W8 i1) (λ_=>n2) (λz=>nomatch z)) rfl)<|zA<|WD.e<|DM wf (Y0 Z_ rfl)<|C7 _
def sG{n:Nat}(n1:1<=n)(n8:n<=8):∃r:List Int,r.length<=59/\(∀v ∈ r,zQ n v)/\RE (TH [(true,.int x),(true,.int n),(true,.int 11)]) (zi r):=by
 have q0:=zyN x (show 12≠0 by decide);have q1:=zyH x (show 0<12 by decide);have r0:=zyN (x/512) (show 40≠0 by decide);have r1:=zyH (x/512) (show 0<40 by decide);have s1:zr true 3 (f2 zk (f2 zD zL zt) zO) [sI x,sI n,sI 11,none]=some _:=zJ (zV (za rfl) (zE (za (x:=.int 11) rfl) zb)<|by decide)<|ze rfl;obtain⟨k,k9,s2⟩:∃k:Nat,k<=59/\(y6 _ (zr true 3 _) yX) [sI x,sI n,sI 11,sI<|x%12]=some (.nx [sI x,sI n,sI 11,sI k]):=by
  have wt:WT _ [sI x,sI n,sI 11,sI<|x%12] (x/64%8==1):=eqT (zV (xN (za (i:=0) rfl) zb (by decide)<|zC (by decide)<|by decide) zb<|by decide) zb rfl;cases hc:x/64%8==1 with
  |true=>
   rw[hc]at wt;obtain⟨k,ek⟩:∃k:Nat,k=20+x/512%40:=⟨(20+x/512%40).toNat,by omega⟩;refine⟨k,by omega,yL wt ?_⟩;rw[ek];exact zJ (zE zb<|zV (xN (za (i:=0) rfl) zb (by decide)<|zC (by decide)<|by decide) zb<|by decide) (ze rfl)
  |false=>
   rw[hc]at wt;refine⟨(x%12).toNat,by omega,zp wt ?_⟩;rw[zyY q0];rfl
 exact⟨_,by rw[NV,List.length_replicate];exact k9,Ia n1 k _,zH rfl<|zc s1<|zc s2<|zA<|OI (λy my=>by rw[List.eq_of_mem_replicate my];omega) (by rw[List.length_replicate];exact q1M k9) (WD.e<|xN (za rfl) zb (by decide)<|zC (by decide)<|by decide)<|Dw (za rfl) (za rfl)<|q1M k9⟩
noncomputable abbrev Pv:List Str:=["way","trees"]
abbrev vI(c:Cx)(ts:List D):O:=.nd (.ob "Makes" Pv) [.lf true c.w,.nd .ls<|ts.map<|O.lf true]
abbrev Gc(c:Cx)(ts:List D):D:=.ob "Makes" Pv [c.w,.lst ts]
section
variable{c:Cx}{ts:List D}{as:AS}{i:Nat}
theorem uL:∀ts:List D,(ts.map<|O.lf true).all O.isLf=true
 | []=>rfl
 |_::r=>uL r
def K6:LS (some<|some<|vI c ts)=some (Gc c ts):=by
 show(if true=true/\(ts.map _).all O.isLf=true/\O.strs _=true then some _ else none)=_;rw[if_pos ⟨rfl,uL ts,P4 ts⟩,Gp]
def Bl:(vI c ts).str=true:=by
 show(true&&(O.strs _&&true))=_;rw[P4];rfl
def HG(h:as[i]? = some (some<|vI c ts))(hm:m ∉ Pv)(ht:HL tbl "Makes"=some g)(ha:WE a as x)(hg:g [(true,Gc c ts),(true,x)]=some o)(ho:p6 Pv o=true):YS i tbl m (aC a aN) as=some (.ow o,as):=by
 have hr:=y_ ha zq;unfold WA at hr;unfold YS;rw[h,K6];show(if m ∈ Pv then none else some "Makes":Option Str).bind _=_;rw[if_neg hm];show(HL tbl "Makes").bind _=_;rw[ht];rw[hr];show(LS as[i]?).bind _=_;rw[h,K6,zyL];rw[YF];show(g [_,(zB x||true,x)]).bind _=_;rw[zyD,hg];show(if p6 Pv o=true then some _ else none)=_;rw[if_pos ho]
def NJ(h:as[i]? = some (some<|vI c ts))(hm:m ∉ Pv)(hr:fr as=some (rs,as))(ha:Mb i as rs=some xs)(hg:g xs (vI c ts)=some (.int v,vI c ts')):Vj i "Makes" m g fr as=some (.ow<|.lf true<|.int v,as.set i<|some<|vI c ts'):=by
 unfold Vj;rw[h];show(if m ∈ Pv then none else some "Makes":Option Str).bind _=_;rw[if_neg hm,zyL,if_pos rfl,hr];show(Mb i as rs).bind _=_;rw[ha];rw[h];show(g xs _).bind _=_;rw[hg];show(if zB _=true/\(vI c ts').str=true then _ else _)=_;rw[if_pos ⟨rfl,Bl⟩]
def B9(h:f as=some (.nx as1))(k:g as1=x):L6 f g as=x:=by
 unfold L6;rw[h];exact k
def sd:yO "Makes" [(true,c.w)]=some (vI c []):=by
 have h:Zp (YM 2 (ku "Makes"::[(true,c.w)].map uZ))=some [some _,sT c.w]:=yE (yQ (i:=0) (WD.e<|za rfl) rfl (by decide +kernel) (by decide +kernel)<|by decide) (by
  unfold Da;rw[vz yp<|Uw rfl];exact if_pos (e:=none) (c:=("Makes":Str) ∈ xk/\("trees":Str) ∉ (["way"]:List Str)/\1<1000) ⟨by decide +kernel,by decide +kernel,by decide⟩)
 unfold yO nu;rw[if_pos (by rfl),h];rfl
def IK(hl:ts.length<900):yM [(true,d)] (vI c ts)=some (.int ts.length,vI c<|ts++[d]):=by
 have s1:iZ 0 1 xk "trees" [some<|vI c ts,sT d]=some (.nx [some<|vI c<|ts++[d],sT d]):=by
  show(if _ ∈ xk/\("trees":Str)="trees"/\("way":Str)≠"trees"/\(ts.map _).length<sizeLine then some _ else none)=_;rw[if_pos ⟨by decide +kernel,rfl,by decide +kernel,by rw[zzB];exact slt<|q0s hl⟩];show _=some (Out.nx [some<|.nd _ _,sT d]);rw[zyM];rfl
 have w:WD (ig 0 xk "trees") [some<|vI c<|ts++[d],sT d] true (.int ((ts.length+1:Nat):Int)):=by
  show(if("Makes":Str) ∈ xk/\("trees":Str)="trees"/\("way":Str)≠"trees" then some _ else none)=_;rw[if_pos ⟨by decide +kernel,rfl,by decide +kernel⟩,zzB,zzJ];rfl
 have w2:=Y9 w<|zb (x:=.int 1);rw[show((ts.length+1:Nat):Int)-1=ts.length by omega]at w2;have hv:Yv [some _,sT d]=some _:=B9 s1 (by
  unfold FL;unfold WD at w2;rw[w2];rfl)
 unfold yM tE;rw[if_pos<|by rfl];show(Yv [some _,sT d]).bind _=_;rw[hv];show(if(vI c _).str=true/\zB _=true then _ else _)=_;rw[if_pos ⟨Bl,rfl⟩]
def ON(h:WD (fV i) as true (Gc c ts)):WD (f1 (fV i)<|zP yz "way") as true c.w:=by
 have:=Tb (n:="way") h (by decide +kernel:("Makes":Str) ∈ yz) rfl;rw[zyD]at this;exact this
def DV(h:WD (fV i) as true (Gc c ts)):WD (f1 (fV i)<|zP xk "trees") as true (.lst ts):=by
 have:=Tb (n:="trees") h (by decide +kernel:("Makes":Str) ∈ xk) rfl;rw[zyD]at this;exact this
def DC(hv:zQ c.n v):RE (ZY [(true,c.w),(true,.int v)]) (.bl true):=by
 have w:WD (f1 zk<|zP xU "size") [sT c.w,sI v] true (.int c.n):=by
  have:=Tb (n:="size") (za (as:=[sT c.w,sI v]) (i:=0) rfl) (by decide +kernel:("Ways":Str) ∈ xU) rfl;rw[zyD]at this;exact this
 exact zH rfl (zA<|ya (WD.e<|za rfl) (WD.e zb) (WD.e<|Y9 w<|zb)<|RE.of<|Ep hv.1<|by have:=hv.2;omega)
def Jo(hv:zQ c.n v):xa [(true,Gc c ts),(true,.int v)]=sT .non:=by
 have h:wL (Zr 2 [(true,Gc c ts),(true,.int v)])=some _:=zp (W8<|tI<|Mm (ON<|za rfl) (by decide +kernel) rfl (WD.e<|za rfl)<|DC hv) rfl;unfold xa xJ;rw[if_pos (by rfl),h];rfl
def Nr{k:Nat}(hk:ts[k]? = some d):RE (Z9 [(true,Gc c ts),(true,.int k)]) d:=by
 have kl:=(zzG.mp hk).1;have wl:WD (fP (aC (f1 zk _) aN) xC) [sT<|Gc c ts,sI k] true _:=O3 (WD.e<|DV<|za rfl) rfl;have w:=tI (ya (WD.e<|za (i:=1) rfl) (WD.e<|zb) (WD.e<|Y9 wl<|zb (x:=.int 1))<|RE.of<|Ep (q0a)<|by omega);refine zH rfl<|zc (zp (W8 w) rfl)<|zA<|WD.e<|Jv (WD.e<|DV<|za rfl) (WD.e<|za rfl) ?_;have:=Xd (f:=λd:D=>d) hk
 rwa [List.map_id']at this
end
section
variable{c:Cx}{ts:List D}{as:AS}{i:Nat}{r:List Int}
def gf(h:as[i]? = some (some<|.lf s<|zi r)):Zq (fV i) as=some (r.map λx=>(true,D.int x),as):=by
 rw[A_ h];unfold kids;rw[zyB];rfl
def qg(h:k<=300):vW [(true,.int k)]=sT .non:=by
 have h:Wr (Zr 1 [(true,.int k)])=some _:=zp (yf (zw (za rfl) zb rfl rfl) (by show some (decide _)=_;rw[zyG<|by omega])) rfl;unfold vW xJ;rw[if_pos (by rfl),h];rfl
def A3(h:c.Ok)(hl:r.length<=300)(hv:c.In r)(tl:ts.length<900):∃d,OT c d r/\wC [(s,zi r)] (vI c ts)=some (.int ts.length,vI c<|ts++[d]):=by
 obtain⟨d,⟨o,t1,t2,t3⟩,hd⟩:=mf h (by omega) hv s;have s1:y6 (YY<|fT<|Q0 zm "list") Ab yX [some<|vI c ts,some<|.lf s<|zi r,none]=some _:=zp (W8 (k:=true) rfl) rfl;obtain⟨as',h2,e,rfl⟩:=yP (g:=gN 2) (f:=yo<|YS 0 YZ "check_value" Zx) (λ_ as=>∃e,as=[some<|vI c ts,some<|.lf s<|zi r,e]) (r.map λx=>(true,D.int x)) 0 [some<|vI c ts,some<|.lf s<|zi r,none] (λj x as hx hI=>by
  obtain⟨e,rfl⟩:=hI;rw[zzI]at hx;obtain⟨v,hv',rfl⟩:=zzX.mp hx;refine⟨_,rfl,[some<|vI c ts,some<|.lf s<|zi r,sI v], ?_,_,rfl⟩;unfold yo;rw[HG rfl (by decide +kernel) rfl (WD.e<|za rfl) (Jo<|hv v<|zyA hv') rfl];rfl) ⟨_,rfl⟩
 have s2:=yh (gf (i:=1) rfl) h2;have wl:WD (fP xQ xC) [some<|vI c ts,some<|.lf s<|zi r,e] true (.int r.length):=by
  have:=yx (as:=[some<|vI c ts,some<|.lf s<|zi r,e]) (g:=xC) (zg (za (i:=1) rfl) zq) rfl rfl
  rwa [zzB]at this
 have s3:yo (zj (aC (fP xQ xC) aN) vW) [some<|vI c ts,some<|.lf s<|zi r,e]=some (.nx [some<|vI c ts,some<|.lf s<|zi r,e]):=by
  unfold yo;have:=nI (WD.e wl) (qg<|by omega);unfold WD at this;rw[this];rfl
 have wy:WD (Cu 0 yz "way") [some<|vI c ts,some<|.lf s<|zi r,e] true c.w:=if_pos (c:=("Makes":Str) ∈ yz/\("way":Str)="way") (e:=none) ⟨by decide +kernel,rfl⟩;have wt:=Zh (zg wy<|zg (za (i:=1) rfl) zq) t1;have hk:=NJ (i:=0) (c:=c) (m:="keep") rfl (by decide +kernel) (y_ ⟨o,wt,t2,t3⟩ zq) (by
  show some [(zB d||true,d)]=_;rw[zyD])<|IK tl
 refine⟨d,hd, ?_⟩;have hc:YD [some<|vI c ts,some<|.lf s<|zi r,none]=some _:=B9 s1 (B9 s2<|B9 s3<|by
  unfold FL;rw[hk];rfl)
 unfold wC tE;rw[if_pos<|by rfl];show(YD [some<|vI c ts,some<|.lf s<|zi r,none]).bind _=_;rw[hc];show(if(vI c<|ts++[d]).str=true/\zB _=true then _ else _)=_;rw[if_pos ⟨Bl,rfl⟩]
def E3{k:Nat}(h:c.Ok)(hk:ts[k]? = some d)(hd:OT c d r)(hl:r.length<=900):vM [(true,Gc c ts),(true,.int k)]=some (xO r):=by
 obtain⟨o,t1,t2,t3⟩:=Nr hk;have wt:WE (xM Y2 "tree_at" zk xQ) [sT _,sI k] d:=Mm (za rfl) (by decide +kernel) rfl (WD.e<|za rfl) ⟨o,t1,t2,t3⟩;refine xo rfl<|K8 (Zh (zg (ON<|za rfl)<|y_ wt zq) ?_) (XA r).1;show Wj [_,(zB d||true,d)]=_;rw[zyD];exact gC h hd<|q0b hl
end
section
variable{n m:Nat}{J:TZ}{e:Int}{Ds:DD}{S:SS}
def JD:RE (YJ [(true,Uo n m J e Ds S)]) (.int e):=zH rfl<|zA<|WD.e<|Oc rfl (by decide +kernel) rfl
def Oi(nd:(Ds.map (·.1)).Nodup)(hp:p ∈ Ds):RE (YK [(true,Uo n m J e Ds S),(true,.str p.1)]) (Zl p.2):=by
 have ww:WD (f1 zk<|zP X9 "waits") [sT<|Uo n m J e Ds S,sT<|.str p.1] true _:=Oc rfl (by decide +kernel) rfl;refine zH rfl<|zA<|UF (WD.e ww) (WD.e<|za rfl) ?_;show Dc _=_;rw[Q_ hp nd];rfl
def tB(nd:(Ds.map (·.1)).Nodup)(hp:p ∈ Ds):RE (YV [(true,Uo n m J e Ds S),(true,.str p.1)]) (.bl true):=by
 have ww:WD (f1 zk<|zP X9 "waits") [sT<|Uo n m J e Ds S,sT<|.str p.1] true _:=Oc rfl (by decide +kernel) rfl;have i1:WD (Q0 zm "str") [sT<|Uo n m J e Ds S,sT<|.str p.1] true _:=rfl;refine zH rfl<|zA<|WD.e<|T4 i1 (λ_=>zw (za rfl) ww ?_ rfl) (λz=>nomatch z);show((some (PM _ _).isSome).bind λb=>some _)=_;rw[Q_ hp nd];rfl
section
variable{p:Str×List Int}(nd:(S.map (·.1)).Nodup)(hp:p ∈ S)
include nd hp
def sign_is:RE (Y1 [(true,Uo n m J e Ds S),(true,.str p.1)]) (.bl true):=by
 have ww:WD (f1 zk<|zP Zo "holders") [sT<|Uo n m J e Ds S,sT<|.str p.1] true _:=Oc rfl (by decide +kernel) rfl;have i1:WD (Q0 zm "str") [sT<|Uo n m J e Ds S,sT<|.str p.1] true _:=rfl;refine zH rfl<|zA<|WD.e<|T4 i1 (λ_=>zw (za rfl) ww ?_ rfl) (λz=>nomatch z);show((some (PM _ _).isSome).bind λb=>some _)=_;rw[Q_ hp nd];rfl
def ng(ht:anyF (λy=>Xi 50 y<|.int v) (p.2.map D.int)=some t):RE (ZZ [(true,Uo n m J e Ds S),(true,.str p.1),(true,.int v)]) (.bl t):=by
 have ww:WD (f1 zk<|zP Zo "holders") [sT<|Uo n m J e Ds S,sT<|.str p.1,sI v] true _:=Oc rfl (by decide +kernel) rfl;have wv:=yt (g:=zx) ww (za (i:=1) rfl) (by
  show Dc _=_;rw[Q_ hp nd];rfl)
 refine zH rfl<|zA<|WD.e<|zw (za rfl) wv ?_ rfl;show(anyF _ _).bind _=_;rw[ht];rfl
end
end
def gH(h:WD f as true (.int k)):oS f as=some (some k,as):=by
 unfold oS;unfold WD at h;rw[h];rfl
def cc{i j:Nat}(hi:i<as.length)(hj:j<as.length):gT 2 (yH (gN i)<|yH (gN j) XI) (true,.tup [a,b]) as=some ((as.set i<|sT a).set j<|sT b):=by
 show yH _ _ (kids true [a,b]) as=_;rw[QQ];show(gN i _ as).bind _=_;unfold gN;rw[if_pos hi];show((if j<(as.set i _).length then _ else _:Option AS)).bind _=_;rw[if_pos<|by rw[zzU];exact hj];rfl
def jG{i j:Nat}(h:WE f as (.tup [a,b]))(hi:i<as.length)(hj:j<as.length):VW f (gT 2<|yH (gN i)<|yH (gN j) XI) as=some (.nx<|(as.set i<|sT a).set j<|sT b):=by
 obtain⟨o,h,h1,h2⟩:=h;exact OX h (by rw[h1,h2];exact cc hi hj)
def qV{i k:Nat}(ha:WD a as s (zi r))(hb:WD b as true (.int i))(hd:WD d as true (.int k))(h1:i<=k)(h2:k<=r.length):WE (Rj a (oS b) (oS d) Tn) as (zi<|(r.take k).drop i):=by
 refine T5 ha (gH hb) (gH hd) ?_;show some _=_;unfold PF.cutD;rw[HT.Wz,HT.Wz,zzB,Nat.min_eq_left h2,Nat.min_eq_left<|zzO h1 h2,List.drop_take,<-List.map_drop,<-List.map_take]
section
variable{c:Cx}{x y d:D}{r s R:List Int}{p q:Nat}{ts:List D}{as:AS}
def o4(h:c.Ok)(hT:c.W T)(k:OT c d R):∃d',RE (Zs [(true,c.w),(true,d),(true,Zl T)]) d'/\OT c d' (c.ap (some T) R):=by
 rcases k with⟨rfl,rfl⟩|⟨p,k⟩
 . exact⟨.non,zH rfl<|yk<|yK (yf (zw (za rfl) zb rfl rfl) rfl)<|zA<|WD.e zb,.n⟩
 . obtain⟨d',a,b⟩:=BO h hT k;exact⟨d',a,b.o⟩
def D3(h:c.Ok)(k:OT c d R):∃d',RE (wA [(true,c.w),(true,d)]) d'/\OT c d' R.reverse:=by
 rcases k with⟨rfl,rfl⟩|⟨p,k⟩
 . exact⟨.non,zH rfl<|yk<|yK (yf (zw (za rfl) zb rfl rfl) rfl)<|zA<|WD.e zb,.n⟩
 . obtain⟨d',a,b⟩:=T_ h k;exact⟨d',a,b.o⟩
def TK.one(k:TK c d R 0):R.length=1:=by
 generalize e:0=p at k;cases k with
 |lf=>rfl
 |nd=>omega
theorem FJ(h:c.Ok):∀(n:Nat) {d:D}{R:List Int}{p:Nat}(i:Nat),TK c d R p->p<n->R.length<=1000->i<=R.length->∃a b,RE (yA n [(true,c.w),(true,d),(true,.int i)]) (.tup [a,b])/\OT c a (R.take i)/\OT c b (R.drop i)
 |0,_,_,_,_,_,h,_,_=>absurd h (Nat.not_lt_zero _)
 |n+1,d,R,p,i,k,hp,hl,hi=>by
  have v1:∀a b e,WD zm [sT c.w,sT d,sI i,a,b,e] true d:=λ_ _ _=>za rfl;have v2:∀a b e,WD zD [sT c.w,sT d,sI i,a,b,e] true (.int i):=λ_ _ _=>za rfl;have wy:∀a b e,WE zk [sT c.w,sT d,sI i,a,b,e] c.w:=λ_ _ _=>WD.e<|za rfl;have eqN:∀{f g:EF}{as:AS}{a b:Nat},WD f as true (.int a)->WD g as true (.int b)->WT (fT<|f2 f g<|zz .Eq) as (decide (a=b)):=λ{f g as a b} h1 h2=>yf (UL h1 h2 (by
   show some _=_
   by_cases z:a=b
   . subst z;rw[zyO rfl,beq_self_eq_true]
   . rw[zyG z,beq_eq_false_iff_ne.mpr<|by omega])) rfl
  have t1:=eqN (v2 none none none)<|zb (x:=.int 0);have t2:=eqN (v2 none none none)<|k.size<|v1 none none none
  by_cases e0:i=0
  . rw[zyO e0]at t1;subst e0;exact⟨.non,d,zH rfl<|yk<|yK t1<|zA<|yu (WD.e zb)<|WD.e<|v1 _ _ _,.n,k.o⟩
  rw[zyG e0]at t1
  by_cases e1:i=R.length
  . rw[zyO e1]at t2;refine⟨d,.non,zH rfl<|zc (zp t1 rfl)<|yk<|yK t2<|zA<|yu (WD.e<|v1 _ _ _)<|WD.e zb, ?_, ?_⟩
    . rw[e1,List.take_length];exact k.o
    . rw[e1,List.drop_length];exact .n
  rw[zyG e1]at t2;have p0:p≠0:=λz=>by subst z;have:=k.one;omega
  obtain⟨x,y,r,s,u,v,k0,k1,k2,_,_,rfl,rfl⟩:=Y7 h k p0;rw[zzJ]at hl hi e1;have s3:=yJ (p:=3) (y8 (wy none none none) (WD.e<|v1 _ _ _) k0)<|ze rfl;have u0:∀b e,WD (f2 zF zW zx) [sT c.w,sT d,sI i,sT<|.tup [x,y],b,e] true x:=λ_ _=>Zk rfl rfl;have u1:∀b e,WD (f2 zF zL zx) [sT c.w,sT d,sI i,sT<|.tup [x,y],b,e] true y:=λ_ _=>Zk rfl rfl;have s4:=zJ (i:=4) (st:=true) (k1.size<|u0 none none)<|ze rfl;have v4:∀e,WD zY [sT c.w,sT d,sI i,sT<|.tup [x,y],sI r.length,e] true (.int r.length):=λ_=>za rfl;have t5:=yf (um (v2 (sT<|.tup [x,y]) (sI r.length) none)<|v4 none) rfl
  by_cases g:i<r.length
  . rw[zyO<|q0h g]at t5;obtain⟨a,b,a1,a2,a3⟩:=FJ h n i k1 (by omega) (q1D hl)<|q0D g;obtain⟨f,f1,f2⟩:=Cq h a3 k2.o (by rw[List.length_drop];omega) (by omega);have s5:=yJ (p:=5) (ya (wy _ _ _) (WD.e<|u0 (sI r.length) none) (WD.e<|v2 _ _ _) a1)<|ze rfl;refine⟨a,f,zH rfl<|zc (zp t1 rfl)<|zc (zp t2 rfl)<|zc s3<|zc s4<|yk<|yK t5<|zc s5<|zA<|yu (WD.e<|Zk rfl rfl)<|ya (wy _ _ _) (WD.e<|Zk rfl rfl) (WD.e<|u1 _ _) f1, ?_, ?_⟩
    . rw[List.take_append_of_le_length<|q0D g];exact a2
    . rw[List.drop_append_of_le_length<|q0D g];exact f2
  . rw[zyG<|by omega]at t5;obtain⟨a,b,a1,a2,a3⟩:=FJ h n (i-r.length) k2 (by omega) (by omega) (by omega);obtain⟨f,f1,f2⟩:=Cq h k1.o a2 (q1D hl) (by rw[zzS];omega);have ws:=Y9 (v2 (sT<|.tup [x,y]) (sI r.length) none)<|v4 none;rw[show i-r.length=((i-r.length:Nat):Int) by omega]at ws;have s5:=yJ (p:=5) (ya (wy _ _ _) (WD.e<|u1 _ _) (WD.e ws) a1)<|ze rfl;refine⟨f,b,zH rfl<|zc (zp t1 rfl)<|zc (zp t2 rfl)<|zc s3<|zc s4<|zc (zp t5 rfl)<|zc s5<|zA<|yu (ya (wy _ _ _) (WD.e<|u0 _ _) (WD.e<|Zk rfl rfl) f1)<|WD.e<|Zk rfl rfl, ?_, ?_⟩
    . rw[List.take_append,List.take_of_length_le<|q0L g];exact f2
    . rw[List.drop_append,List.drop_of_length_le<|q0L g,List.nil_append];exact a3
def uN(h:c.Ok)(k:OT c d R)(i:Nat)(hl:R.length<=1000)(hi:i<=R.length):∃a b,RE (yA 20 [(true,c.w),(true,d),(true,.int i)]) (.tup [a,b])/\OT c a (R.take i)/\OT c b (R.drop i):=by
 rcases k with⟨rfl,rfl⟩|⟨p,k⟩
 . cases Nat.le_zero.mp hi;exact⟨.non,.non,zH rfl<|yk<|yK (yf (UL (za rfl) zb rfl) rfl)<|zA<|yu (WD.e zb)<|WD.e<|za rfl,.n,.n⟩
 . exact FJ h 20 i k (k.lt hl) hl hi
theorem AY(k:Nat):∀r:List Int,(r.map D.int).all (nc Pv<|k+1)=true
 | []=>rfl
 |_::r=>AY k r
theorem uE(k:Nat):∀T:TZ,(T.map K0).all (nc Pv<|k+2)=true
 | []=>rfl
 |r::T=>by
  show(((r.map D.int).all _)&&(T.map K0).all _)=_;rw[AY,uE k T];rfl
theorem TK.nc(k:TK c d R p):∀j,p+4<=j->nc Pv j d=true:=by
 induction k with
 |lf v t _=>
  intro j hj;obtain⟨j,rfl⟩:∃i,j=i+2:=⟨j-2,by omega⟩;rfl
 | @nd w t x y r s p q R a b _ _ hw e i1 i2=>
  intro j hj;obtain⟨j,rfl⟩:∃i,j=i+4:=⟨j-4,by omega⟩;have h1:=i1 (j+3) (by omega);have h2:=i2 (j+3) (by omega);have h3:PF.nc Pv (j+3) (N5 w)=true:=by
   cases w with
   |none=>rfl
   |some T=>exact uE j T
  show(decide _&&(true&&(true&&(PF.nc Pv _ _&&(true&&(PF.nc Pv _ x&&(PF.nc Pv _ y&&_)))))))=_;rw[h1,h2,h3];rfl
theorem OT.nc(k:OT c d R)(hl:R.length<=1000){j:Nat}(hj:24<=j):nc Pv j d=true:=by
 rcases k with⟨rfl,_⟩|⟨p,k⟩
 . obtain⟨j,rfl⟩:∃i,j=i+1:=⟨j-1,by omega⟩;rfl
 . exact k.nc j (by have:=k.lt hl;omega)
def tw{x a b}(h0:a<=x)(h1:x<=b):vE [(true,.int x),(true,.int a),(true,.int b)]=sT (.bl true):=
 xo rfl (yT<|T4 (Yt (zg (za rfl) zq) LK) (λ_=>CP (za rfl) (za rfl) (za rfl) h0 h1) (λz=>nomatch z))
def D7{x a b}(h0:a<=x)(h1:x<=b):yZ [(true,.int x),(true,.int a),(true,.int b)]=sT .non:=by
 have h:XR (Zr 3 [(true,.int x),(true,.int a),(true,.int b)])=some _:=zp (W8<|tI<|WD.e<|ud (WD.e<|za rfl) (WD.e<|za rfl) (WD.e<|za rfl)<|tw h0 h1) rfl;unfold yZ xJ;rw[if_pos (by rfl),h];rfl
def OG{x a b}(wf:WE f as (.int x))(wg:WE g as (.int a))(wh:WE h as (.int b))(h0:a<=x)(h1:x<=b):yo (zj (aC f<|aC g<|aC h aN) yZ) as=some (.nx as):=by
 have:=ud wf wg wh<|D7 h0 h1;unfold WD at this;unfold yo;rw[this];rfl
def Si(h:c.Ok){k:Nat}(hk:ts[k]? = some d)(hd:OT c d R)(hl:R.length<=900){i j:Nat}(h1:i<=j)(h2:j<=R.length):∃x y z,wO [(true,Gc c ts),(true,.int k),(true,.int i),(true,.int j)]=sT (.tup [x,y,z])/\OT c x (R.take i)/\OT c y ((R.take j).drop i)/\OT c z (R.drop j):=by
 obtain⟨a,z,a1,a2,a3⟩:=uN h hd j (q0b hl) h2;obtain⟨x,y,b1,b2,b3⟩:=uN h a2 i (by rw[zzS];omega) (by rw[zzS];omega);have wt:WE (xM Y2 "tree_at" zk xQ) [sT<|Gc c ts,sI k,sI i,sI j,none,none,none] d:=Mm (za rfl) (by decide +kernel) rfl (WD.e<|za rfl)<|Nr hk;have s4:=yJ (p:=4) wt<|ze rfl;have ws:WE (zj (aC zY aN) X4) [sT<|Gc c ts,sI k,sI i,sI j,sT d,none,none] (.int R.length):=wU (WD.e<|za rfl)<|rn hd;have s5:=OG (WD.e<|za (i:=2) rfl) (WD.e<|zb (x:=.int 0)) ws (q0a) (by omega);have s6:=OG (WD.e<|za (i:=3) rfl) (WD.e<|za (i:=2) rfl) ws (q1a h1)<|q1a h2;have s7:=yJ (p:=5) (as:=[sT<|Gc c ts,sI k,sI i,sI j,sT d,none,none]) (ya (WD.e<|ON<|za (i:=0) rfl) (WD.e<|za (i:=4) rfl) (WD.e<|za (i:=3) rfl) a1)<|ze rfl;have s8:=yJ (p:=6) (as:=[sT<|Gc c ts,sI k,sI i,sI j,sT d,sT<|.tup [a,z],none]) (ya (WD.e<|ON<|za (i:=0) rfl) (WD.e<|Zk (j:=5) (i:=0) rfl rfl) (WD.e<|za (i:=2) rfl) b1)<|ze rfl;rw[List.take_take,Nat.min_eq_left h1]at b2;exact⟨x,y,z,xo rfl<|zo s4<|zo s5<|zo s6<|zo s7<|zo s8<|yT<|oP (zu (Zk rfl rfl)<|zu (Zk rfl rfl)<|zu (Zk rfl rfl) yp) (Uw rfl) rfl,b2,b3,a3⟩
def t8(h:WE f as x):WD (oC f) as true x:=by
 obtain⟨o,h1,h2,h3⟩:=h;unfold WD oC;rw[h1];show some (RV.ow<|.lf o.str o.toD,as)=_;rw[h2,h3]
def uR(h:c.Ok)(ha:OT c u a)(hb:OT c v b)(he:OT c w e)(hl:a.length+b.length+e.length<=900):∃d,yq [(true,Gc c ts),(true,u),(true,v),(true,w)]=sT d/\OT c d (a++b++e):=by
 obtain⟨d1,p1,p2⟩:=Cq h ha hb (by omega) (by omega);obtain⟨d,q1,q2⟩:=Cq h p2 he (by rw[zzJ];omega) (by omega);exact⟨d,xo rfl<|yT<|t8<|ya (WD.e<|ON<|za rfl) (ya (WD.e<|ON<|za rfl) (WD.e<|za rfl) (WD.e<|za rfl) p1) (WD.e<|za rfl) q1,q2⟩
end
section
variable{c:Cx}{ts:List D}{as:AS}{i:Nat}{d:D}{R:List Int}{k:Nat}
def SI(h:as[i]? = some (some<|vI c ts))(hm:m ∉ Pv)(ht:HL tbl "Makes"=some g)(b:WA fr as xs)(hg:g ((true,Gc c ts)::xs.map λx=>(zB x.2||x.1,x.2))=some o)(ho:p6 Pv o=true):YS i tbl m fr as=some (.ow o,as):=by
 unfold WA at b;unfold YS;rw[h,K6];show(if m ∈ Pv then none else some "Makes":Option Str).bind _=_;rw[if_neg hm];show(HL tbl "Makes").bind _=_;rw[ht];rw[b];show(LS as[i]?).bind _=_;rw[h,K6,zyL];rw[YF];show(g _).bind _=_;rw[hg];show(if p6 Pv o=true then some _ else none)=_;rw[if_pos ho]
def gy(h:as[0]? = some (some<|vI c ts)):WD (Cu 0 yz "way") as true c.w:=by
 unfold WD Cu;rw[h];exact if_pos (e:=none) ⟨by decide +kernel,rfl⟩
def pO(h:as[0]? = some (some<|vI c ts))(hr:WA fr as [(true,d)])(tl:ts.length<900):FL (Vj 0 "Makes" "keep" yM fr) as=some (.int ts.length,as.set 0<|some<|vI c<|ts++[d]):=by
 have hk:=NJ (m:="keep") (g:=yM) h (by decide +kernel) hr (by
  show some [(zB d||true,d)]=_;rw[zyD])<|IK tl
 unfold FL;rw[hk];rfl
def cD{n m:Nat}(hn:xs.length+1=m)(hc:f (YM n (vI c ts::xs.map uZ))=some (.int v,some (vI c ts')::l)):tE n m f xs (vI c ts)=some (.int v,vI c ts'):=by
 unfold tE;rw[if_pos hn];rw[hc];show(if(vI c ts').str=true/\zB _=true then _ else _)=_;rw[if_pos ⟨Bl,rfl⟩]
def HD(ha:OT c x a)(hb:OT c y b)(he:OT c z e)(l1:a.length<=1000)(l2:b.length<=1000)(l3:e.length<=1000):p6 Pv (.lf true<|.tup [x,y,z])=true:=by
 show(PF.nc Pv 59 x&&(PF.nc Pv 59 y&&(PF.nc Pv 59 z&&true)))=_;rw[ha.nc l1 (by omega),hb.nc l2 (by omega),he.nc l3<|by omega];rfl
section
variable(h:c.Ok)(hk:ts[k]? = some d)(hd:OT c d R)(hl:R.length<=900){i j:Nat}(h1:i<=j)(h2:j<=R.length)(tl:ts.length<900)
include h hk hd hl h1 h2 tl
def Dy(hp:p ∈ c.Ds):∃d',OT c d' (R.take i++c.ap (some p.2) ((R.take j).drop i)++R.drop j)/\vY [(true,.int k),(true,.int i),(true,.int j),(true,.str p.1)] (vI c ts)=some (.int ts.length,vI c<|ts++[d']):=by
 obtain⟨x,y,z,t1,ox,oy,oz⟩:=Si h hk hd hl h1 h2;obtain⟨y',r1,oy'⟩:=o4 h ⟨h.A.ds p hp,h.L.ld p hp⟩ oy;have lx:(R.take i).length<=900:=by rw[zzS];exact q1f hl
 have ly:((R.take j).drop i).length<=900:=by rw[List.length_drop,zzS];exact q0Y hl h2
 have lz:(R.drop j).length<=900:=by rw[List.length_drop];exact q1n hl h2
 obtain⟨d',g1,od⟩:=uR h ox oy' oz (by rw[W3,List.length_drop,zzS,zzS,List.length_drop];exact q0P hl h2 h1);have w1:WD tY [some<|vI c ts,sI k,sI i,sI j,sT<|.str p.1,none,none] true (.tup [x,y,z]):=SI rfl (by decide +kernel) rfl (zg (za rfl)<|zg (za rfl)<|zg (za rfl) zq) t1<|HD ox oy oz (q0b lx) (q0b ly)<|q0b lz;have s1:=zJ (st:=true) (i:=5) w1<|ze rfl;have wy:∀e,WD (Cu 0 yz "way") [some<|vI c ts,sI k,sI i,sI j,sT<|.str p.1,sT<|.tup [x,y,z],e] true c.w:=λe=>gy rfl;have wd:WE (xM RA "is_deed" (Cu 0 yz "way")<|aC zY aN) [some<|vI c ts,sI k,sI i,sI j,sT<|.str p.1,sT<|.tup [x,y,z],none] (.bl true):=Mm (wy none) (by decide +kernel) rfl (WD.e<|za rfl)<|tB h.A.nd hp;have ww:WE (xM Rw "wait_of" (Cu 0 yz "way")<|aC zY aN) [some<|vI c ts,sI k,sI i,sI j,sT<|.str p.1,sT<|.tup [x,y,z],none] (Zl p.2):=Mm (wy none) (by decide +kernel) rfl (WD.e<|za rfl)<|Oi h.A.nd hp;have s3:=yJ (p:=6) (ya (WD.e<|wy none) (WD.e<|Zk (j:=5) (i:=1) rfl rfl) ww r1)<|ze rfl;have w4:WD jD [some<|vI c ts,sI k,sI i,sI j,sT<|.str p.1,sT<|.tup [x,y,z],sT y'] true d':=SI rfl (by decide +kernel) rfl (zg (Zk rfl rfl)<|zg (za rfl)<|zg (Zk rfl rfl) zq) (by
  show yq [_,(zB x||true,x),(zB y'||true,y'),(zB z||true,z)]=_;rw[zyD,zyD,zyD];exact g1) (od.nc (by rw[zzJ,zzJ,W3,List.length_drop,zzS,zzS,List.length_drop];exact q0R hl h2 h1)<|by omega)
 exact⟨d',od,cD rfl<|B9 s1<|B9 (zp (W8<|tI wd) rfl)<|B9 s3<|pO rfl (zg w4 zq) tl⟩
def HY:∃d',OT c d' (R.take i++((R.take j).drop i).reverse++R.drop j)/\we [(true,.int k),(true,.int i),(true,.int j)] (vI c ts)=some (.int ts.length,vI c<|ts++[d']):=by
 obtain⟨x,y,z,t1,ox,oy,oz⟩:=Si h hk hd hl h1 h2;obtain⟨y',r1,oy'⟩:=D3 h oy;have lx:(R.take i).length<=900:=by rw[zzS];exact q1f hl
 have ly:((R.take j).drop i).length<=900:=by rw[List.length_drop,zzS];exact q0Y hl h2
 have lz:(R.drop j).length<=900:=by rw[List.length_drop];exact q1n hl h2
 obtain⟨d',g1,od⟩:=uR h ox oy' oz (by rw[List.length_reverse,List.length_drop,zzS,zzS,List.length_drop];exact q0P hl h2 h1);have w1:WD tY [some _,sI k,sI i,sI j,none] true _:=SI rfl (by decide +kernel) rfl (zg (za rfl)<|zg (za rfl)<|zg (za rfl) zq) t1<|HD ox oy oz (q0b lx) (q0b ly)<|q0b lz;have s1:=zJ (st:=true) (i:=4) w1<|ze rfl;have wt:=y8 (WD.e<|gy (as:=[some<|vI c ts,sI k,sI i,sI j,sT<|.tup [x,y,z]]) rfl) (WD.e<|Zk (j:=4) (i:=1) rfl rfl) r1;have w4:WD (YS 0 xV "three_together" (aC (f2 zY zW zx)<|aC _<|aC (f2 zY yy zx) aN)) [some _,sI k,sI i,sI j,sT _] true d':=SI rfl (by decide +kernel) rfl (zg (Zk rfl rfl)<|y_ wt<|zg (Zk rfl rfl) zq) (by
  show yq [_,(zB x||true,x),(zB y'||true,y'),(zB z||true,z)]=_;rw[zyD,zyD,zyD];exact g1) (od.nc (by rw[zzJ,zzJ,List.length_reverse,List.length_drop,zzS,zzS,List.length_drop];exact q0R hl h2 h1)<|by omega)
 exact⟨d',od,cD rfl<|B9 s1<|pO rfl (zg w4 zq) tl⟩
end
end
def ff(V:Int->Bool)(J:TZ):Int->List Int->Nat->Option Nat
 |_,[],_=>none
 |v,x::l,k=>if V (yi J v x)=true then some k else ff V J (yi J v x) l<|k+1
def kDd:Option Nat->D
 |none=>.non
 |some k=>.int k
abbrev hV(vs:List Int)(x:Int):Bool:=(anyF (λy=>Xi 50 y<|.int x)<|vs.map D.int).getD false
def q5(vs)(x):anyF (λy=>Xi 50 y<|.int x) (vs.map D.int)=some (hV vs x):=by
 obtain⟨t,h⟩:=any_ints x vs;unfold hV;rw[h];rfl
theorem A8{st:Int->Option O->AS}{n i0:Nat}{row:List Int}(hG:∀(k:Int) v e,G (true,.int k) (st v e)=some (st v<|sI k))
 (hB:∀(k:Nat) v x,row[k]? = some x->zQ n v->(k=i0->v=e0)->B (st v<|sI k)=if V (yi J v x)=true then some (.rt<|.lf true<|.int k)else some<|.nx<|st (yi J v x)<|sI k) (hJ:Tab n n J) (hr:∀x ∈ row,zQ n x):
 ∀(l:List Int) (i:Nat) (v:Int) (e:Option O),row.drop i=l->zQ n v->i0<=i->(i=i0->v=e0)->∃v' e',forL G B (yY i l.length) (st v e)=match ff V J v l i with|some k=>some (.rt<|.lf true<|.int k)|none=>some<|.nx<|st v' e'
 | [],i,v,e,_,_,_,_=>⟨v,e,rfl⟩
 |x::l,i,v,e,hd,hv,h0,h1=>by
  have hx:row[i]? = some x:=by
   have:=congrArg (·[0]?) hd;rw[List.getElem?_drop]at this;exact this
  have hx':=hr x<|zyA hx;have b:=hB i v x hx hv h1;show ∃v' e',forL G B (yY i<|l.length+1) _=match(if V _=true then some i else ff V J _ l _)with|some k=>some _|none=>some<|.nx _
  rw[TL];cases hV:V _ with
  |true=>
   rw[hV,if_pos rfl]at b;rw[if_pos rfl];exact⟨v,e,S0 (hG _ _ _) b⟩
  |false=>
   rw[hV,if_neg zyV]at b;rw[if_neg zyV];obtain⟨v',e',q⟩:=A8 hG hB hJ hr l (i+1) _ (sI i) (by rw[<-List.drop_drop,hd];rfl) (Rm hJ hv hx') (by omega) (λz=>by omega);exact⟨v',e',vG (hG _ _ _) b q⟩
section
variable{c:Cx}{ts:List D}{d:D}{R:List Int}{k:Nat}
def oi{i j k:Nat}(h:as[i]? = some (sT<|zi r))(h2:as[j]? = some (sI k))(hx:r[k]? = some x):WD (f2 (fV i) (fV j) zx) as true (.int x):=zw (za h) (za h2) (Xd hx) rfl
def I0(g:c.Gd)(hk:ts[k]? = some d)(hd:OT c d R)(hl:R.length<=900){i:Nat}(hi:i<=R.length){p:Str×List Int}(hp:p ∈ c.S):XM [(true,Gc c ts),(true,.int k),(true,.int i),(true,.str p.1)]=sT (kDd<|ff (hV p.2) c.J c.e (R.drop i) i):=by
 have h:=g.ok;have wl:WE (xM X0 "listed" zk xQ) [sT<|Gc c ts,sI k,sI i,sT<|.str p.1,none,none,none] (zi R):=Mm (za rfl) (by decide +kernel) rfl (WD.e<|za rfl) ⟨_,E3 h hk hd hl,XA R⟩;have s4:=yJ (p:=4) wl<|ze rfl;have wn:∀a b,WD (fP (aC zY aN) xC) [sT<|Gc c ts,sI k,sI i,sT<|.str p.1,sT<|zi R,a,b] true (.int R.length):=λa b=>Hj<|WD.e<|za rfl;have s5:=OG (WD.e<|za (i:=2) rfl) (WD.e<|zb (x:=.int 0)) (WD.e<|wn none none) (q0a)<|q1a hi;have wy:∀a b,WD (f1 zk<|zP yz "way") [sT<|Gc c ts,sI k,sI i,sT<|.str p.1,sT<|zi R,a,b] true c.w:=λa b=>ON<|za rfl;have w6:WE (xM Rg "is_sign" _ v_) [sT<|Gc c ts,sI k,sI i,sT<|.str p.1,sT<|zi R,none,none] (.bl true):=Mm (wy _ _) (by decide +kernel) rfl (WD.e<|za rfl)<|sign_is g.sn hp;have w7:WE (xM Rn "nothing" _ aN) [sT<|Gc c ts,sI k,sI i,sT<|.str p.1,sT<|zi R,none,none] (.int c.e):=j8 (wy _ _) (by decide +kernel) rfl JD;have s7:=yJ (p:=5) w7<|ze rfl;obtain⟨v',e',q⟩:=A8 (G:=gN 6) (B:=zh _<|y6 _ (zy wR) yX) (V:=hV p.2)
  (st:=λv e=>[sT<|Gc c ts,sI k,sI i,sT<|.str p.1,sT<|zi R,sI v,e]) (λ_ _ _=>rfl) (λj v x hx hv _=>by
   have wj:WE (xM WY "join" _<|aC yB<|aC (f2 zY wR zx) aN) [sT<|Gc c ts,sI k,sI i,sT<|.str p.1,sT<|zi R,sI v,sI j] (.int<|yi c.J v x):=Se (wy _ _) (by decide +kernel) rfl (WD.e<|za rfl) (WD.e<|oi rfl rfl hx)<|Cj h.A.j hv<|hd.in h x<|zyA hx;have sj:=yJ (p:=5) wj<|ze rfl;have wh:WE (xM Qe "has_sign" _<|aC zF lg) [sT<|Gc c ts,sI k,sI i,sT<|.str p.1,sT<|zi R,sI<|yi c.J v x,sI j] (.bl<|hV p.2<|yi c.J v x):=Se (wy _ _) (by decide +kernel) rfl (WD.e<|za rfl) (WD.e<|za rfl)<|ng g.sn hp<|q5 _ _;refine zo sj ?_;cases z:hV p.2 (yi c.J v x)with
   |true=>rw[z]at wh;exact yL (tI wh) (yT<|za rfl)
   |false=>rw[z]at wh;exact zp (tI wh) rfl) h.A.j (hd.in h) (R.drop i) i c.e none rfl ⟨h.A.e0,h.A.en⟩ (zzN _) (λ_=>rfl)
 have hr:=Hn (zg (za (as:=[sT<|Gc c ts,sI k,sI i,sT<|.str p.1,sT<|zi R,sI c.e,none]) (i:=2) rfl)<|zg (wn _ _) zq) (q0a) (by omega) (q2m hl)<|q2v hl;rw[show((R.length:Int)-i).toNat=(R.drop i).length by rw[List.length_drop];exact q0Q hi]at hr;refine xo rfl<|zo s4<|zo s5<|zo (zp (W8<|tI w6) rfl)<|zo s7 ?_;cases z:ff (hV p.2) c.J c.e (R.drop i) i with
 |some k=>rw[z]at q;exact wB (yh hr q)
 |none=>rw[z]at q;exact zo (yh hr q)<|yT zb
def JG(g:c.Gd)(hr:c.In R)(hl:R.length<=900){i:Nat}(hi:i<=R.length){vs:List Int}:QB [(true,c.g),(true,zi R),(true,.int i),(true,zi vs)]=sT (kDd<|ff (hV vs) c.J c.e (R.drop i) i):=by
 have h:=g.ok;have s4:=zJ (st:=true) (i:=4) (zw (g:=zx) (za (as:=[sT c.g,sT<|zi R,sI i,sT<|zi vs,none,none]) (i:=0) rfl) (zb (x:=.int 3)) rfl rfl)<|ze rfl;obtain⟨v',e',q⟩:=A8 (G:=gN 5) (B:=zh _<|y6 (fT<|f2 zY zF<|zz .In) (zy yB) yX) (V:=hV vs)
  (st:=λv e=>[sT c.g,sT<|zi R,sI i,sT<|zi vs,sI v,e]) (λ_ _ _=>rfl) (λj v x hx hv he=>by
   have hx':=hr x<|zyA hx;have wx:WD (f2 zm yB zx) [sT c.g,sT<|zi R,sI i,sT<|zi vs,sI v,sI j] true (.int x):=oi rfl rfl hx;have wt:WD (f2 (f2 (f2 zk yy zx) zY zx) (f2 zm yB zx) zx) [sT c.g,sT<|zi R,sI i,sT<|zi vs,sI v,sI j] true (.int<|yi c.J v x):=zw (yt (yt (za rfl) (zb) rfl) (za (i:=4) rfl) (wK h.A.j hv).1) wx (rowAt (wK h.A.j hv).2 hx').1 rfl;have wi:=yx (g:=G8) (zg (UL (za (as:=[sT c.g,sT<|zi R,sI i,sT<|zi vs,sI v,sI j]) (i:=5) rfl) (za (i:=2) rfl) rfl) zq) rfl rfl;have wp:=fI rfl<|UF (Y0 (zR (WD.e wt)<|zR (WD.e wx) Z_) rfl) (WD.e wi) pC;have e1:(if((j:Int)==i)=true then x else yi c.J v x)=yi c.J v x:=by
    by_cases z:(j:Int)=i
    . rw[if_pos (by rw[z];exact beq_self_eq_true _),he (by omega),h.L.lj.ul x hx']
    . rw[if_neg<|by rw[beq_eq_false_iff_ne.mpr z];exact zyV]
   rw[e1]at wp;have sj:=zJ (st:=true) (i:=4) wp<|ze rfl;have wh:=yf (zw (g:=zz .In) (za (as:=[sT c.g,sT<|zi R,sI i,sT<|zi vs,sI<|yi c.J v x,sI j]) (i:=4) rfl) (za (i:=3) rfl) (by
    show(anyF _ _).bind _=_;rw[q5];rfl) rfl) rfl
   refine zo sj ?_;cases z:hV vs (yi c.J v x)with
   |true=>rw[z]at wh;exact yL wh (yT<|za (i:=5) rfl)
   |false=>rw[z]at wh;exact zp wh rfl) h.A.j hr (R.drop i) i c.e none rfl ⟨h.A.e0,h.A.en⟩ (zzN _) (λ_=>rfl)
 have hr:=Hn (zg (za (as:=[sT c.g,sT<|zi R,sI i,sT<|zi vs,sI c.e,none]) (i:=2) rfl)<|zg (Hj<|WD.e<|za (i:=1) rfl) zq) (q0a) (by omega) (q2m hl)<|q2v hl;rw[show((R.length:Int)-i).toNat=(R.drop i).length by rw[List.length_drop];exact q0Q hi]at hr;refine xo rfl<|zo s4 ?_;cases z:ff (hV vs) c.J c.e (R.drop i) i with
 |some k=>rw[z]at q;exact wB (yh hr q)
 |none=>rw[z]at q;exact zo (yh hr q)<|yT zb
def uY(z):WV [(true,kDd z),(true,kDd z)]=sT (.bl true):=by
 cases z with
 |none=>rfl
 |some k=>
  refine xo rfl<|zo (zp rfl rfl)<|yT<|Yt (zg (za rfl)<|zg (za rfl) zq) ?_;show vb [(true,.int k),(true,.int k)]=_;rw[IQ,beq_self_eq_true]
end
def iO{k:Nat}(ha:WD a as s (zi r))(hb:WD b as true (.int k))(hk:k<=r.length):WE (Rj a oN (oS b) Tn) as (zi<|r.take k):=by
 have c1:=uP (xs:=(r.take k).map D.int) (ys:=(r.drop k).map D.int);rw[<-zyM,List.take_append_drop,zzB,zzS,Nat.min_eq_left hk]at c1;exact T5 ha rfl (gH hb) c1
def D4{k:Nat}(ha:WD a as s (zi r))(hb:WD b as true (.int k))(hk:k<=r.length):WE (Rj a (oS b) oN Tn) as (zi<|r.drop k):=by
 have c1:=SY (xs:=(r.take k).map D.int) (ys:=(r.drop k).map D.int);rw[<-zyM,List.take_append_drop,zzB,zzS,Nat.min_eq_left hk]at c1;exact T5 ha (gH hb) rfl c1
def B2(ha:WE a as (zi r))(hb:WE b as (zi s))(hl:r.length+s.length<=1000):WE (f2 a b zt) as (zi<|r++s):=by
 have:=JI ha hb (add_lists<|by rw[zzB,zzB];exact JA<|by omega);rw[<-zyM]at this;exact this
def bR(hd:zB d=true)(h:RE r d):r=sT d:=by
 obtain⟨o,h,h1,h2⟩:=h;cases o with
 |lf s x=>subst h2;rw[show s=true from h1]at h;exact h
 |nd k os=>subst h2;cases k<;>cases hd
abbrev eF(rs:TZ):List O:=(rs.map zi).map<|O.lf true
theorem pX:∀r:List Int,p6 Pv (xO r)=true
 | []=>rfl
 |_::r=>pX r
def nZ{i:Nat}{k:Nat}(h:as[i]? = some (sN<|eF rs))(hb:WD b as true (.int k))(hr:rs[k]? = some r):WD (f2 (fV i) b zx) as true (zi r):=
 dm h (uL _) (P4 _) hb (by rw[Gp];exact Xd hr)
section
variable{c:Cx}{R:List Int}
def uO(h:c.Ok)(hp:p ∈ c.Ds)(hr:c.In R)(hl:R.length<=1000):RE (RB [(true,c.g),(true,.str p.1),(true,zi R)]) (zi<|c.ap (some p.2) R):=by
 have W:c.W p.2:=⟨h.A.ds p hp,h.L.ld p hp⟩;have m1:=h.A.m1;have w0:WE (fP (aC (f2 zk Xk zx) aN) Nb) [sT c.g,sT<|.str p.1,sT<|zi R,none] _:=mK h.A.nd<|WD.e<|yt (za rfl) (zb) rfl;have s3:=yJ (p:=3) (UF (g:=zx) w0 (WD.e<|za (i:=1) rfl) (by
  show Dc _=_;rw[Q_ hp h.A.nd];rfl))<|ze rfl
 have ib:=Wk (as:=[sT c.g,sT<|.str p.1,sT<|zi R,sT<|xD p.2])<|WD.e<|za (i:=2) rfl;have wm:=Qg (cap:=[none,some 3,some 0]) (gg:=gN 0) R ib (q0t hl) λv mv=>⟨_,rfl,WD.e<|zw (yt (za (i:=1) rfl) (zV (zb) (zw (g:=zx) (za (i:=2) rfl) (zb (x:=.int 1)) rfl rfl)<|q0o m1) (wK W.t h.m1).1) (za (i:=0) rfl) (rowAt (wK W.t h.m1).2<|hr v mv).1 rfl⟩;refine zH rfl<|zc s3<|zA ?_;show WE _ _ (.lst<|(R.map _).map D.int);rw[zyB];exact wm
end
def bG{i j k:Nat}(hi:i<as.length)(hj:j<as.length)(hk:k<as.length):gT 3 (yH (gN i)<|yH (gN j)<|yH (gN k) XI) (true,.lst [a,b,d]) as=some (((as.set i<|sT a).set j<|sT b).set k<|sT d):=by
 show yH _ _ (kids true [a,b,d]) as=_;rw[QQ];show(gN i _ as).bind _=_;unfold gN;rw[if_pos hi];show((if j<(as.set i _).length then _ else _:Option AS)).bind _=_;rw[if_pos<|by rw[zzU];exact hj];show((if k<((as.set i _).set j _).length then _ else _:Option AS)).bind _=_;rw[if_pos<|by rw[zzU,zzU];exact hk];rfl
def Ez(x)(n:Nat)(hn:n<=1000):∃i j:Nat,i<=j/\j<=n/\RE (Yo [(true,.int x),(true,.int n)]) (.tup [.int i,.int j]):=by
 have wd:=OI (as:=[sI x,sI n,none,none,none]) (sz:=[27720,27720,5]) (by decide) (by decide) (WD.e<|za (i:=0) rfl)<|Y0 (zR (WD.e zb)<|zR (WD.e zb)<|zR (WD.e zb) Z_) rfl;obtain⟨o,d1,d2,d3⟩:=wd;have s1:=OX d1 (by rw[d2,d3];exact bG (i:=2) (j:=3) (k:=4) (ze rfl) (ze rfl)<|ze rfl);generalize x%27720=a at s1;generalize x/27720%27720=b at s1;generalize x/27720/27720%5=k at s1;have hm:∀y:Int,∃q:Nat,y%(n+1)=q/\q<=n:=λy=>by
  have h0:=zyN y (show(n:Int)+1≠0 by omega);have h1:=zyH y<|show(0:Int)<n+1 from q0Z hn;exact⟨(y%(n+1)).toNat,by omega,by omega⟩
 obtain⟨p,ep,pn⟩:=hm a;obtain⟨q,eq,qn⟩:=hm b;have s2:=zJ (st:=true) (i:=2) (zV (za (as:=[sI x,sI n,sI a,sI b,sI k]) (i:=2) rfl) (zE (za (i:=1) rfl)<|zb (x:=.int 1))<|q0Z hn)<|ze rfl;rw[ep]at s2;have s3:=zJ (st:=true) (i:=3) (zV (za (as:=[sI x,sI n,sI p,sI b,sI k]) (i:=3) rfl) (zE (za (i:=1) rfl)<|zb (x:=.int 1))<|q0Z hn)<|ze rfl;rw[eq]at s3;have e4:∀z,WT (fT<|f2 zY (fC<|.int z)<|zz .Eq) [sI x,sI n,sI p,sI q,sI k] (k==z):=λz=>eqT (za (i:=4) rfl) zb rfl;have v1:WD zm [sI x,sI n,sI p,sI q,sI k] true (.int n):=za (i:=1) rfl;have v2:WD zD [sI x,sI n,sI p,sI q,sI k] true (.int p):=za (i:=2) rfl;have v3:WD zF [sI x,sI n,sI p,sI q,sI k] true (.int q):=za (i:=3) rfl;have t0:=e4 0;cases z0:k==0 with
 |true=>
  rw[z0]at t0;exact⟨0,n,by omega,q1e,zH rfl<|zc s1<|zc s2<|zc s3<|yk<|yK t0<|zA<|yu (WD.e zb)<|WD.e v1⟩
 |false=>
  rw[z0]at t0;have t1:=e4 1;cases z1:k==1 with
  |true=>
   rw[z1]at t1;have w:=yx (g:=Ss) (zg (zE v2<|zb)<|zg v1 zq) (by
    show some _=_;rw[show(if(n:Int)<(p:Int)+1 then(n:Int)else(p:Int)+1)=((min (p+1) n:Nat):Int) by split<;>omega]) rfl
   exact⟨p,min (p+1) n,by omega,by omega,zH rfl<|zc s1<|zc s2<|zc s3<|zc (zp t0 rfl)<|yk<|yK t1<|zA<|yu (WD.e v2)<|WD.e w⟩
  |false=>
   rw[z1]at t1;have w:=yx (g:=Ss) (zg v2<|zg v3 zq) (by
    show some _=_;rw[show(if(q:Int)<p then(q:Int)else p)=((min p q:Nat):Int) by split<;>omega]) rfl
   have w':=yx (g:=HA) (zg v2<|zg v3 zq) (by
    show some _=_;rw[show(if(q:Int) > p then(q:Int)else p)=((max p q:Nat):Int) by split<;>omega]) rfl
   exact⟨min p q,max p q,by omega,by omega,zH rfl<|zc s1<|zc s2<|zc s3<|zc (zp t0 rfl)<|zc (zp t1 rfl)<|zA<|yu (WD.e w)<|WD.e w'⟩
abbrev dO:SF:=kS
abbrev b7:SF:=(yC (Zq<|fV 9) (gN 13) dO)
abbrev bX:SF:=(yC (Zq<|f2 zm FP zx) (gT 2<|yH (gN 11)<|yH (gN 12) XI) b7)
abbrev MU(ns:List Int)(c:Cx)(ts:List D)(r:List Int)(x:Int)(i j:Int)(nm:Str)(rs:TZ)(l:AS):AS:=sT (zi ns)::sT c.g::some (vI c ts)::sT (zi r)::sI x::sI i::sI j::sT (.str nm)::sN (eF rs)::l
def An{i:Nat}(h:as[i]? = some (some<|vI c ts))(hm:m ∉ Pv)(hr:WA fr as xs)(ha:Mb i as (xs.map λx=>.ow<|.lf x.1 x.2)=some xs)(hg:g xs (vI c ts)=some (.int v,vI c ts')):yo (Vj i "Makes" m g fr) as=some (.nx<|as.set i<|some<|vI c ts'):=by
 unfold yo;rw[NJ h hm hr ha hg];rfl
def jf{i:Nat}(h:as[i]? = some (some<|vI c ts))(hm:m ∉ Pv)(ht:HL tbl "Makes"=some g)(b:WA fr as xs)(hg:g ((true,Gc c ts)::xs.map λx=>(zB x.2||x.1,x.2))=sT x)(ho:nc Pv 60 x=true):WD (YS i tbl m fr) as true x:=SI h hm ht b hg ho
def gE(z):nc Pv 60 (kDd z)=true:=by cases z<;>rfl
section
variable{c:Cx}{ns:List Int}
structure T3(c:Cx)(ts:List D)(rs:TZ)(n:Nat):Prop where
 ot:∀k:Nat,k<3->∃d r,ts[k]? = some d/\rs[k]? = some r/\OT c d r/\r.length=n
def sL(g:c.Gd){n:Nat}(t:T3 c ts rs n)(hn:n<=60){k q:Nat}(hk:k<3)(hq:q<=n)(hp:p ∈ c.S):dO (MU ns c ts r x i j nm rs [y9,sI k,sT<|.str p.1,sT<|zi p.2,sI q])=some (.nx<|MU ns c ts r x i j nm rs [y9,sI k,sT<|.str p.1,sT<|zi p.2,sI q]):=by
 obtain⟨d,R,h1,h2,h3,h4⟩:=t.ot k hk;have w1:WD iq (MU ns c ts r x i j nm rs [y9,sI k,sT<|.str p.1,sT<|zi p.2,sI q]) true _:=jf (ts:=ts) rfl (by decide +kernel) rfl (zg (za rfl)<|zg (za rfl)<|zg (za rfl) zq) (I0 g h1 h3 (q2h h4 hn) (q2f h4 hq) hp)<|gE _;have w2:WD _ (MU ns c ts r x i j nm rs [y9,sI k,sT<|.str p.1,sT<|zi p.2,sI q]) true _:=Yt (zg (za (i:=1) (x:=c.g) rfl)<|zg (nZ (i:=8) (rs:=rs) rfl (za (i:=10) rfl) h2)<|zg (za (i:=13) rfl)<|zg (za (i:=12) rfl) zq)<|JG g (h3.in g.ok) (q2h h4 hn)<|q2f h4 hq;have w3:=Yt (zg w1<|zg w2 zq) (by
  show WV [(zB _||true,kDd _),(zB _||true,kDd _)]=_;rw[zyD];exact uY _)
 exact zp (W8<|yf w3 rfl) rfl
def n4(h:as[1]? = some (sT c.g)):Zq (f2 zm FP zx) as=some ((c.S.map Tj).map λd=>(true,d),as):=Mv<|WD.e<|yt (za h) (zb) rfl
def Ai(g:c.Gd){n:Nat}(t:T3 c ts rs n)(hn:n<=60){ps:List Nat}(hps:∀q ∈ ps,q<=n)(hy:y=[none,none,none,none]):∃a b d e,(yC (Zq mR) (gN 10) bX) (MU ns c ts r x i j nm rs (sT (.lst (ps.map λq:Nat=>D.int q))::y))=some (.nx<|MU ns c ts r x i j nm rs [sT<|.lst (ps.map λq:Nat=>D.int q),a,b,d,e]):=by
 subst hy;have i1:∀y,Zq mR (MU ns c ts r x i j nm rs y)=some _:=λy=>Mv<|Y0 (zR (WD.e zb)<|zR (WD.e zb)<|zR (WD.e zb)<|zR (WD.e zb) Z_) rfl;obtain⟨as',h1,a,b,d,e,rfl⟩:=yP (g:=gN 10) (λ_ as=>∃a b d e,as=MU ns c ts r x i j nm rs [sT<|.lst (ps.map λq:Nat=>D.int q),a,b,d,e]) ([D.int 2,.int 1,.int 0,.int 2].map λd=>_) 0 _ (λm v as hv hI=>by
  obtain⟨a,b,d,e,rfl⟩:=hI;obtain⟨k,k3,rfl⟩:∃k:Nat,k<3/\v=(true,.int k):=by
   have:=zyA hv;have e:v=(true,.int (2:Nat))\/v=(true,.int (1:Nat))\/v=(true,.int (0:Nat))\/v=(true,.int (2:Nat)):=by simpa using this
   rcases e with h|h|h|h
   . exact⟨2,by omega,h⟩
   . exact⟨1,by omega,h⟩
   . exact⟨0,by omega,h⟩
   . exact⟨2,by omega,h⟩
  obtain⟨as',h2,b',d',e',rfl⟩:=yP (g:=(gT 2<|yH (gN 11)<|yH (gN 12) XI)) (λ_ as=>∃b d e,as=MU ns c ts r x i j nm rs [sT<|.lst (ps.map λq:Nat=>D.int q),sI k,b,d,e]) ((c.S.map Tj).map λd=>(true,d)) 0 _ (λm v as hv hI=>by
   obtain⟨b,d,e,rfl⟩:=hI;rw[zzI,zzI,Option.map_map]at hv;obtain⟨p,hp,rfl⟩:=zzX.mp hv;have mp:=zyA hp;obtain⟨as',h3,e',rfl⟩:=yP (g:=gN 13) (f:=dO) (λ_ as=>∃e,as=MU ns c ts r x i j nm rs [sT<|.lst (ps.map λq:Nat=>D.int q),sI k,sT<|.str p.1,sT<|zi p.2,e]) ((ps.map λq:Nat=>D.int q).map λd=>(true,d)) 0 _ (λm v as hv hI=>by
    obtain⟨e,rfl⟩:=hI;rw[zzI,zzI,Option.map_map]at hv;obtain⟨q,hq,rfl⟩:=zzX.mp hv;exact⟨_,rfl,_,sL g t hn k3 (hps q<|zyA hq) mp,_,rfl⟩) ⟨_,rfl⟩
   exact⟨_,cc (ze rfl)<|ze rfl,_,yh (Mv<|WD.e<|za (i:=9) rfl) h3,_,_,_,rfl⟩) ⟨_,_,_,rfl⟩
  exact⟨_,rfl,_,yh (n4 rfl) h2,_,_,_,_,rfl⟩) ⟨_,_,_,_,rfl⟩
 exact⟨a,b,d,e,yh (i1 _) h1⟩
end
def ip(x)(k:Nat)(hk:0<k):∃w:Nat,x%(k:Int)=w/\w<k:=by
 have h0:=zyN x<|show(k:Int)≠0 from q1u hk;have h1:=zyH x<|show(0:Int)<k from q0c hk;exact⟨(x%k).toNat,by omega,by omega⟩
section
variable{c:Cx}
def jH{k:Nat}(ha:WD a as true c.g)(hb:WD b as true (.int k))(hp:c.Ds[k]? = some p):WD (f2 (f2 a Xk zx) b zx) as true (Qj p):=yt (yt ha zb rfl) hb<|Xd hp
def j6(ha:WD a as true c.g):WD (fP (aC (f2 a Xk zx) aN) xC) as true (.int (c.Ds.length:Nat)):=by
 have:=yx (g:=xC) (zg (yt (g:=zx) ha (zb (x:=.int 4)) rfl) zq) rfl rfl;rw[zzB]at this;exact this
end
def js(n:Nat)(h:n<=1000):fQ [.int n]=some (.fl ((List.range n).map λq:Nat=>D.int q)):=by
 show(if _<=_/\_<=100000 then _ else _)=_;rw[if_pos ⟨q2q h,by omega⟩,zyI]
def gh(h:WE f as (zi r)):WE (Rj f oN (oS<|f1 zL HR) kh) as (zi r.reverse):=by
 refine IH h rfl (gH<|mL zb) ?_;show(if(none:Option Int)=none/\some (-1:Int)=some (-1)then some _ else none)=_;rw[if_pos ⟨rfl,rfl⟩,List.map_reverse]
def Ae(ns:List Int)(hns:ns.length<=63):Ed [(true,.lst<|ns.map .int)]=sT (.bl true):=by
 obtain⟨c,g,ra⟩:=lN ns;have h:=g.ok;have iw:=qR (S:=c.S) g.ok.A g.ok.L g.sl g.sn;have wm:∀as:AS,as[1]? = some (sT c.g)->zj jE (yO "Makes") as=some (.ow<|vI c [],as):=λas h=>Zh (y_ (wU (wU (WD.e<|za h)<|rz g) iw) zq) (by
  show yO "Makes" [(zB c.w||true,c.w)]=_;rw[zyD];exact sd)
 have s1:(zr true 1<|zj Zv Ug) [sT<|zi ns,none,none,none,none,none,none,none,none,none,none,none,none,none]=some (.nx [sT<|zi ns,sT c.g,none,none,none,none,none,none,none,none,none,none,none,none]):=yJ (p:=1) (wU (WD.e<|za (i:=0) rfl) ra)<|ze rfl;have s2:=xt (i:=2) (wm [sT<|zi ns,sT c.g,none,none,none,none,none,none,none,none,none,none,none,none] rfl)<|ze rfl;obtain⟨x3,_,w3⟩:=V2 ns (k:=13) (by decide);obtain⟨r,r1,r2,rr⟩:=sG (x:=x3) g.ok.A.n1 g.ok.A.n8;have s3:=yJ (p:=3) (ya (WD.e<|w3 [sT<|zi ns,sT c.g,some<|vI c [],none,none,none,none,none,none,none,none,none,none,none] _ rfl<|zb (x:=.int 13)) (WD.e<|zw (g:=zx) (z:=.int c.n) (za (i:=1) (x:=c.g) (s:=true) rfl) (zb (x:=.int 0)) rfl rfl) (WD.e<|zb (x:=.int 11)) rr)<|ze rfl;obtain⟨x,_,w4⟩:=V2 ns (k:=14) (by decide);have s4:=zJ (st:=true) (i:=4) (w4 [sT<|zi ns,sT c.g,some<|vI c [],sT<|zi r,none,none,none,none,none,none,none,none,none,none] _ rfl<|zb (x:=.int 14))<|ze rfl;obtain⟨i1,j1,a1,a2,pl⟩:=Ez (x/7) r.length (by omega);have pW:∀as:AS,as[3]? = some (sT<|zi r)->as[4]? = some (sI x)->WE k_ as (.tup [.int i1,.int j1]):=λas h3 h4=>y8 (WD.e<|xN (za h4) zb (by decide)<|zC (by decide)<|by decide) (WD.e<|Hj<|WD.e<|za h3) pl;have s5:=jG (i:=5) (j:=6) (pW [sT<|zi ns,sT c.g,some<|vI c [],sT<|zi r,sI x,none,none,none,none,none,none,none,none,none] rfl rfl) (ze rfl)<|ze rfl;obtain⟨k,ek,kl⟩:=ip x c.Ds.length g.dd;have hpk:=zzE kl;generalize c.Ds[k]=p at hpk;have hp:=zyA hpk;have wk:=zV (za (as:=[sT<|zi ns,sT c.g,some<|vI c [],sT<|zi r,sI x,sI i1,sI j1,none,none,none,none,none,none,none]) (i:=4) (x:=.int x) (s:=true) rfl) (j6 (c:=c)<|za (i:=1) rfl) (by have:=g.dd;exact q0o this);rw[ek]at wk;have s6:=zJ (st:=true) (i:=7) (yt (g:=zx) (z:=.str p.1) (jH (c:=c) (za (i:=1) rfl) wk hpk) (zb (x:=.int 0)) rfl)<|ze rfl;have l1:(r.take i1++c.ap (some p.2) ((r.take j1).drop i1)++r.drop j1).length=r.length:=by
  rw[zzJ,zzJ,W3,List.length_drop,zzS,zzS,List.length_drop];omega
 have e7:WE gW [sT<|zi ns,sT c.g,some<|vI c [],sT<|zi r,sI x,sI i1,sI j1,sT<|.str p.1,none,none,none,none,none,none] (zi<|r.take i1++c.ap (some p.2) ((r.take j1).drop i1)++r.drop j1):=by
  have v3:WD zF [sT<|zi ns,sT c.g,some<|vI c [],sT<|zi r,sI x,sI i1,sI j1,sT<|.str p.1,none,none,none,none,none,none] true (zi r):=za (i:=3) rfl;refine B2 (B2 (iO v3 (za (i:=5) rfl)<|by omega) (ya (WD.e<|za (i:=1) rfl) (WD.e<|za (i:=7) rfl) (qV v3 (za (i:=5) rfl) (za (i:=6) rfl) a1 a2)<|uO h hp (λv mv=>r2 v<|List.mem_of_mem_take<|List.mem_of_mem_drop mv) ?_) ?_) (D4 v3 (za (i:=6) rfl) a2) ?_
  . rw[List.length_drop,zzS];omega
  . rw[W3,List.length_drop,zzS,zzS];omega
  . rw[zzJ,W3,List.length_drop,zzS,zzS,List.length_drop];omega
 have s7:=xt (i:=8) (vz (zu (za (i:=3) (x:=zi r) (s:=true) rfl)<|zu (t8 e7) yp)<|Uw rfl)<|ze rfl;obtain⟨d0,o0,m0⟩:=A3 (s:=true) (ts:=[]) (r:=r) h (by omega) r2 (by decide);obtain⟨d1,o1,m1⟩:=Dy (ts:=[]++[d0]) (k:=0) h rfl o0 (by omega) a1 a2 (by show 1<900;decide) hp;generalize er:r.take i1++c.ap (some p.2) ((r.take j1).drop i1)++r.drop j1=ra at l1 s7 o1;have in1:=o1.in h;obtain⟨x5,_,w5⟩:=V2 ns (k:=15) (by decide);obtain⟨i2,j2,b1,b2,pl2⟩:=Ez x5 r.length (by omega);have s8:=jG (i:=5) (j:=6) (y8 (WD.e<|w5 (MU ns c [] r x i1 j1 p.1 [r,ra] [none,none,none,none,none]) _ rfl<|zb (x:=.int 15)) (WD.e<|Hj<|WD.e<|za (i:=3) (x:=zi r) (s:=true) rfl) pl2) (ze rfl)<|ze rfl;have l2:(ra.take i2++((ra.take j2).drop i2).reverse++ra.drop j2).length=r.length:=by
  rw[zzJ,zzJ,List.length_reverse,List.length_drop,zzS,zzS,List.length_drop];omega
 have e9:WE kH (MU ns c [] r x i2 j2 p.1 [r,ra] [none,none,none,none,none]) (zi<|ra.take i2++((ra.take j2).drop i2).reverse++ra.drop j2):=by
  have v8:WD (f2 (fV 8) zL zx) (MU ns c [] r x i2 j2 p.1 [r,ra] [none,none,none,none,none]) true (zi ra):=nZ (i:=8) (k:=1) (rs:=[r,ra]) rfl (zb (x:=.int (1:Nat))) rfl;refine B2 (B2 (iO v8 (za (i:=5) rfl)<|by omega) (gh<|qV v8 (za (i:=5) rfl) (za (i:=6) rfl) b1<|q0O l1 l2 b2) ?_) (D4 v8 (za (i:=6) rfl)<|q0O l1 l2 b2) ?_
  . rw[List.length_reverse,List.length_drop,zzS,zzS];omega
  . rw[zzJ,List.length_reverse,List.length_drop,zzS,zzS,List.length_drop];omega
 have s9:=Dj (i:=8) (os:=eF [r,ra]) rfl (slt (show 2<1000 by decide))<|t8 e9;obtain⟨d2,o2,m2⟩:=HY (ts:=[]++[d0]++[d1]) (k:=1) h rfl o1 (q1P l1 r1 l2) b1 (q0O l1 l2 b2) (by show 2<900;decide);generalize er2:ra.take i2++((ra.take j2).drop i2).reverse++ra.drop j2=rb at l2 s9 o2;have s10:=An (as:=MU ns c [] r x i2 j2 p.1 [r,ra,rb] [none,none,none,none,none]) (i:=2) (c:=c) (m:="made") (g:=wC) rfl (by decide +kernel) (y_ (Oo<|za (i:=3) (x:=zi r) (s:=true) rfl) zq) rfl m0;have pI:∀(as:AS) (z:Int) (v:Nat),as[3]? = some (sT<|zi r)->as[4]? = some (sI x)->zx (.tup [.int i1,.int j1]) (.int z)=some (.im<|.int v)->WD (f2 k_ (fC<|.int z) zx) as true (.int v):=λas z v h3 h4 hz=>fI rfl<|UF (g:=zx) (pW as h3 h4) (WD.e zb) hz;have s11:=An (as:=MU ns c ([]++[d0]) r x i2 j2 p.1 [r,ra,rb] [none,none,none,none,none]) (i:=2) (c:=c) (m:="done") (g:=vY) rfl (by decide +kernel) (zg (zb (x:=.int (0:Nat)))<|zg (pI _ 0 i1 rfl rfl rfl)<|zg (pI _ 1 j1 rfl rfl rfl)<|zg (za (i:=7) (x:=.str p.1) (s:=true) rfl) zq) rfl m1;have s12:=An (as:=MU ns c ([]++[d0]++[d1]) r x i2 j2 p.1 [r,ra,rb] [none,none,none,none,none]) (i:=2) (c:=c) (m:="turned") (g:=we) rfl (by decide +kernel) (zg (zb (x:=.int (1:Nat)))<|zg (za (i:=5) (x:=.int i2) (s:=true) rfl)<|zg (za (i:=6) (x:=.int j2) (s:=true) rfl) zq) rfl m2;have wl:∀l,WD (fP v_ xC) (MU ns c [d0,d1,d2] r x i2 j2 p.1 [r,ra,rb] l) true (.int r.length):=λl=>Hj<|WD.e<|za (i:=3) rfl;have wl1:=zE (wl [none,none,none,none,none])<|zb (x:=.int 1);rw[show(r.length:Int)+1=((r.length+1:Nat):Int) from q1o]at wl1;have s13:=yJ (p:=9) ⟨_,lD (WD.e wl1) (js (r.length+1)<|by omega),P4 _,congrArg D.lst<|Gp _⟩<|ze rfl;obtain⟨ps,hps,s14⟩:∃ps:List Nat,(∀q ∈ ps,q<=r.length)/\y6 (fT<|f2 (fP v_ xC) (fC<|.int 12)<|zz .Gt) _ yX (MU ns c [d0,d1,d2] r x i2 j2 p.1 [r,ra,rb] [sT<|.lst ((List.range<|r.length+1).map λq:Nat=>D.int q),none,none,none,none])=some (.nx<|MU ns c [d0,d1,d2] r x i2 j2 p.1 [r,ra,rb] [sT<|.lst (ps.map λq:Nat=>D.int q),none,none,none,none]):=by
  have wg:=yf (zw (g:=zz .Gt) (z:=.bl<|decide ((12:Int)<r.length)) (wl [sT<|.lst ((List.range<|r.length+1).map λq:Nat=>D.int q),none,none,none,none]) (zb (x:=.int 12)) rfl rfl) rfl
  by_cases hg:(12:Int)<r.length
  . rw[zyO hg]at wg;have hc:∀i:Nat,∃v:Nat,v<=r.length/\(i<5->WD gU [sI<|0+(i:Int),sT<|zi ns,sT<|zi r] true (.int v)):=λi=>by
     by_cases hi:i<5
     . obtain⟨y,_,hy⟩:=CC (ns:=ns) (k:=16+i) (by omega);obtain⟨v,ev,hv⟩:=ip y (r.length+1) (by omega);refine⟨v,q1B hv l1 l2,λ_=>?_⟩;have w1:=zE (zb (x:=.int 16))<|za (as:=[sI<|0+(i:Int),sT<|zi ns,sT<|zi r]) (i:=0) (s:=true) rfl;rw[show(16:Int)+(0+i)=((16+i:Nat):Int) by omega]at w1;have w2:=zV (Yt (zg (za (i:=1) (x:=zi ns) (s:=true) rfl)<|zg w1 zq) hy) (zE (Hj<|WD.e<|za (i:=2) (x:=zi r) (s:=true) rfl)<|zb (x:=.int 1)) (by omega);rw[show(r.length:Int)+1=((r.length+1:Nat):Int) from q1o,ev]at w2;exact w2
     . exact⟨0,q2d hg r1 l2 l1,λz=>absurd z hi⟩
    obtain⟨f,hf⟩:=Classical.axiomOfChoice hc;have wc:=Qg (as:=MU ns c [d0,d1,d2] r x i2 j2 p.1 [r,ra,rb] [sT<|.lst ((List.range<|r.length+1).map λq:Nat=>D.int q),none,none,none,none]) (fi:=yG (aC FP aN) yS) (cap:=[none,some 0,some 3]) (gg:=gN 0) (List.range 5) rfl (by decide) λi mi=>⟨_,rfl,WD.e<|(hf i).2<|List.mem_range.mp mi⟩;have wz:=JI (g:=Y4 .Add) (Y0 (zR (WD.e<|zb (x:=.int 0))<|zR (WD.e<|t8<|WD.e<|wl [sT<|.lst ((List.range<|r.length+1).map λq:Nat=>D.int q),none,none,none,none]) Z_) rfl) wc rfl;exact⟨0::r.length::(List.range 5).map f,λq mq=>by
     rcases zzC.mp mq with rfl|mq
     . exact q2d hg r1 l2 l1
     . rcases zzC.mp mq with rfl|mq
       . exact q1e
       . obtain⟨i,_,rfl⟩:=zxD.mp mq;exact(hf i).1,yL wg<|yJ (p:=9) wz<|ze rfl⟩
  . rw[zyG hg]at wg;exact⟨List.range<|r.length+1,λq mq=>by have:=List.mem_range.mp mq;exact q1B this l1 l2,zp wg rfl⟩
 have t3:T3 c [d0,d1,d2] [r,ra,rb] r.length:=⟨λk hk=>by
  have:k=0\/k=1\/k=2:=by omega
  rcases this with rfl|rfl|rfl
  . exact⟨d0,r,rfl,rfl,o0,rfl⟩
  . exact⟨d1,ra,rfl,rfl,o1,l1⟩
  . exact⟨d2,rb,rfl,rfl,o2,l2⟩⟩
 obtain⟨y1,y2,y3,y4,s15⟩:=Ai (ns:=ns) (r:=r) (x:=x) (i:=i2) (j:=j2) (nm:=p.1) g t3 (by omega) hps rfl;have u2:=y8 (as:=MU ns c [d0,d1,d2] r x i2 j2 p.1 [r,ra,rb] [sT<|.lst (ps.map λq:Nat=>D.int q),y1,y2,y3,y4]) (g:=Zz) ⟨_,HG (i:=2) (c:=c) (ts:=[d0,d1,d2]) (tbl:=X0) (m:="listed") (a:=fC<|.int (2:Nat)) (g:=vM) rfl (by decide +kernel) rfl (WD.e<|zb (x:=.int (2:Nat))) (E3 (k:=2) h rfl o2<|q1P l2 r1 l1)<|pX _,XA _⟩ (WD.e<|nZ (i:=8) (k:=2) (rs:=[r,ra,rb]) rfl (zb (x:=.int (2:Nat))) rfl) (rW<|by omega);exact bR rfl<|zH rfl<|zc s1<|zc s2<|zc s3<|zc s4<|zc s5<|zc s6<|zc s7<|zc s8<|zc s9<|zc s10<|zc s11<|zc s12<|zc s13<|zc s14<|zc s15<|zA u2
end G44
end
end
open PySem PySem.W PyProof.Rows
set_option maxRecDepth 100000 in
set_option maxHeartbeats 0 in
theorem PySem.Challenge.cw_stretchdeeds_k44_first_places_holds : PySem.Challenge.rw_stretchdeeds_k44_first_places.Holds := by
 w_on;refine holds_law G44.ws λsaid=>?_
 refine holds_open (q:=G44.qv) (loose:=[]) (Xt:=G44.Xt) (XP:=XL G44.qv []) (Yf:=Hook.obs<|kHook G44.K G44.kA G44.kAe) (Ya:=Hook.val<|kHook G44.K G44.kA G44.kAe) (YP:=Hook.says<|kHook G44.K G44.kA G44.kAe) (N:=8000) G44.hl (Hook.of<|kHook G44.K G44.kA G44.kAe) (Hook.keeps<|kHook G44.K G44.kA G44.kAe) (λs e=>xl_of s (Bool.and_eq_true_iff.mp e).1) XL.keeps (by rfl) (by rfl) (by rfl) (λs e=>recFacts_of (Bool.and_eq_true_iff.mp e).2) (by rfl) (by first|assumption|decide +kernel) (by decide +kernel) ⟨rfl,rfl,rfl,rfl,rfl,by decide +kernel⟩ ?hw ?hc
 (case hw=>w_witness2)
 k_fill
 refine G44.walk (l:=PySem.Challenge.rw_stretchdeeds_k44_first_places) rfl rfl (λw h Y=>W.kIn_of Y) G44.Ae ?F
 case F=>
  intro w mg fa h KX G hmg;refine' G44.nX KX G hmg ?_ ?_ ?_ ?_ ?_ ?_ ?_ ?_ ?_ ?_ ?_ ?_ ?_ ?_ ?_ ?_ ?_ ?_ ?_ ?_ ?_ ?_ ?_ ?_ ?_ ?_ ?_ ?_ ?_ ?_ ?_ ?_ ?_ ?_ ?_ ?_ ?_ ?_ ?_ ?_ ?_ ?_ ?_ ?_ ?_ ?_ ?_ ?_ ?_ ?_ ?_ ?_ ?_ ?_ ?_ ?_ ?_ ?_ ?_ ?_ ?_ ?_ ?_ ?_ ?_ ?_ ?_ ?_ ?_ ?_ ?_ ?_ ?_ ?_ ?_ ?_ ?_ ?_ ?_ ?_ ?_ ?_ ?_ ?_ ?_ ?_ ?_ ?_ ?_ ?_ ?_ ?_ ?_ ?_ ?_ ?_ ?_ ?_ ?_ ?_ ?_ ?_ ?_ ?_ ?_ ?_ ?_ ?_ ?_ ?_ ?_ ?_ ?_ ?_ ?_ ?_ ?_ ?_ ?_ ?_ ?_ ?_ ?_ ?_ ?_ ?_ ?_ ?_ ?_ ?_ ?_ ?_ ?_ ?_ ?_ ?_ ?_ ?_ ?_ ?_ ?_ ?_ ?_ ?_ ?_ ?_ ?_ ?_ ?_ ?_ ?_ ?_ ?_ ?_ ?_ ?_ ?_ ?_ ?_ ?_ ?_ ?_ ?_ ?_ ?_ ?_ ?_ ?_ ?_ ?_ ?_ ?_ ?_ ?_ ?_ ?_ ?_ ?_ ?_ ?_ ?_ ?_ ?_ ?_ ?_ ?_ ?_ ?_ ?_ ?_ ?_ ?_ ?_
  all_goals try first|k_is|(change _=_;k_is)|exact⟨_,⟨_,_,_,_,_,_,_,_,_,rfl,by k_is,by k_is⟩,by k_is⟩|(refine⟨?_, ?_⟩;(change _=_;k_is);exact⟨_,⟨_,_,_,_,_,_,_,_,_,rfl,by k_is,by k_is⟩,by k_is⟩)|rfl
#print axioms PySem.Challenge.cw_stretchdeeds_k44_first_places_holds
