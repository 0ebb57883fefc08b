import Derived.Test.YtdgkpkdinfklaabGreatGQ
namespace Go.Proofs.YtdgkpkdinfklaabGreat
abbrev Bal(a:List UInt8):Prop:=∀d z,blkG d (a++z)=(a++(blkG d z).1,(blkG d z).2)
theorem Bal.cut{a a' x x':List UInt8}(h:Bal a)(h':Bal a')(e:a++125::x=a'++125::x'):a=a'∧x=x':=by
 have h1:blkG 0 (a++125::x)=(a,x):=by rw[h,blk_end];simp
 have h2:blkG 0 (a'++125::x')=(a',x'):=by rw[h',blk_end];simp
 rw[e,h2]at h1;exact⟨(congrArg Prod.fst h1).symm,(congrArg Prod.snd h1).symm⟩
theorem TD.get_inv{K s:List UInt8}{c v:UInt8}(h:TD [] K (c::v::s))(hc:c=103∨c=112∨c=105):TD [] K s:=by
 generalize hs:c::v::s=x at h;cases h with
 | nil=>cases hs
 | acc _ _ _ _ h=>injection hs with _ hs;injection hs with _ hs;subst hs;exact h
 | add _ _ h=>injection hs with _ hs;injection hs with _ hs;subst hs;exact h
 | out h=>injection hs with e _;subst e;rcases hc with hc|hc|hc<;>cases hc
 | take _ _ h=>injection hs with e _;subst e;rcases h with rfl|rfl<;>(rcases hc with hc|hc|hc<;>cases hc)
 | give _ _ h=>injection hs with e _;subst e;rcases h with rfl|rfl<;>(rcases hc with hc|hc|hc<;>cases hc)
 | branch _ _ _=>injection hs with e _;subst e;rcases hc with hc|hc|hc<;>cases hc
 | loop _ _ _=>injection hs with e _;subst e;rcases hc with hc|hc|hc<;>cases hc
theorem TD.out_inv{K s:List UInt8}(h:TD [] K (111::s)):TD [] K s:=by
 generalize hs:111::s=x at h;cases h with
 | nil=>cases hs
 | acc _ _ h=>injection hs with e _;rcases h with rfl|rfl<;>cases e
 | add _ _ h=>injection hs with e _;cases e
 | out h=>injection hs with _ hs;subst hs;exact h
 | take _ _ h=>injection hs with e _;rcases h with rfl|rfl<;>cases e
 | give _ _ h=>injection hs with e _;rcases h with rfl|rfl<;>cases e
 | branch _ _ _=>injection hs with e _;cases e
 | loop _ _ _=>injection hs with e _;cases e
theorem TD.take_inv{K s:List UInt8}{c l:UInt8}(h:TD [] K (c::l::s))(hc:c=91∨c=60):inU K l=false∧TD [] (l::K) s:=by
 generalize hs:c::l::s=x at h;cases h with
 | nil=>cases hs
 | acc _ _ h=>injection hs with e _;subst e;rcases h with rfl|rfl<;>(rcases hc with hc|hc<;>cases hc)
 | add _ _ h=>injection hs with e _;subst e;rcases hc with hc|hc<;>cases hc
 | out h=>injection hs with e _;subst e;rcases hc with hc|hc<;>cases hc
 | take _ _ _ _ hn h=>injection hs with _ hs;injection hs with e hs;subst e;subst hs;rw[List.append_nil]at hn;exact⟨hn,h⟩
 | give _ _ h=>injection hs with e _;subst e;rcases h with rfl|rfl<;>(rcases hc with hc|hc<;>cases hc)
 | branch _ _ _=>injection hs with e _;subst e;rcases hc with hc|hc<;>cases hc
 | loop _ _ _=>injection hs with e _;subst e;rcases hc with hc|hc<;>cases hc
theorem TD.give_inv{K s:List UInt8}{c l:UInt8}(h:TD [] (l::K) (c::s))(hc:c=93∨c=62):TD [] K s:=by
 generalize hs:c::s=x at h;generalize hk:l::K=y at h;cases h with
 | nil=>cases hs
 | acc _ _ h=>injection hs with e _;subst e;rcases h with rfl|rfl<;>(rcases hc with hc|hc<;>cases hc)
 | add _ _ h=>injection hs with e _;subst e;rcases hc with hc|hc<;>cases hc
 | out h=>injection hs with e _;subst e;rcases hc with hc|hc<;>cases hc
 | take _ _ h=>injection hs with e _;subst e;rcases h with rfl|rfl<;>(rcases hc with hc|hc<;>cases hc)
 | give _ _ _ h=>injection hs with _ hs;injection hk with _ hk;subst hs;subst hk;exact h
 | branch _ _ _=>injection hs with e _;subst e;rcases hc with hc|hc<;>cases hc
 | loop _ _ _=>injection hs with e _;subst e;rcases hc with hc|hc<;>cases hc
theorem TD.branch_inv{K a b s:List UInt8}(h:TD [] K (63::123::(a++125::123::(b++125::s))))(ha:Bal a)(hb:Bal b):TD [] K (a++s)∧TD [] K (b++s):=by
 generalize hs:63::123::(a++125::123::(b++125::s))=x at h;cases h with
 | nil=>cases hs
 | acc _ _ h=>injection hs with e _;rcases h with rfl|rfl<;>cases e
 | add _ _ h=>injection hs with e _;cases e
 | out h=>injection hs with e _;cases e
 | take _ _ h=>injection hs with e _;rcases h with rfl|rfl<;>cases e
 | give _ _ h=>injection hs with e _;rcases h with rfl|rfl<;>cases e
 | @branch _ _ a' b' s' h1 h2 h3=>
  injection hs with _ hs;injection hs with _ hs;obtain⟨rfl,e⟩:=Bal.cut ha h1.blk hs;injection e with _ e;obtain⟨rfl,rfl⟩:=Bal.cut hb h2.blk e;exact⟨TD.body h1 h3,TD.body h2 h3⟩
 | loop _ _ _=>injection hs with e _;cases e
theorem TD.loop_inv{K a s:List UInt8}(h:TD [] K (33::123::(a++125::s)))(ha:Bal a):TD [] K (a++33::123::(a++125::s))∧TD [] K s:=by
 have H:=h;generalize hs:33::123::(a++125::s)=x at h;cases h with
 | nil=>cases hs
 | acc _ _ h=>injection hs with e _;rcases h with rfl|rfl<;>cases e
 | add _ _ h=>injection hs with e _;cases e
 | out h=>injection hs with e _;cases e
 | take _ _ h=>injection hs with e _;rcases h with rfl|rfl<;>cases e
 | give _ _ h=>injection hs with e _;rcases h with rfl|rfl<;>cases e
 | branch _ _ _=>injection hs with e _;cases e
 | @loop _ _ a' s' h0 h1 h2=>
  injection hs with _ hs;injection hs with _ hs;obtain⟨rfl,rfl⟩:=Bal.cut ha h1.blk hs;exact⟨TD.body h1 H,h2⟩
theorem ofNat_inj5{i j:Nat}(hi:i<5)(hj:j<5)(h:UInt8.ofNat (65+i)=UInt8.ofNat (65+j)):i=j:=by
 have h1:=congrArg UInt8.toNat h;rw[UInt8.toNat_ofNat_of_lt' (by show 65+i<256;omega),UInt8.toNat_ofNat_of_lt' (by show 65+j<256;omega)]at h1;omega
theorem lock_no{l:UInt8}{u:Int}(h:inU [65,66,67,68,69] l=true)(hu:u=(l.toNat:Int)-65):∃n:Nat,n<5∧u=n∧u.toNat=n∧l=UInt8.ofNat (65+n):=by
 have:=inU_range h;refine⟨l.toNat-65,by omega,by omega,by omega,?_⟩;apply UInt8.toNat_inj.1;rw[UInt8.toNat_ofNat_of_lt' (by show 65+(l.toNat-65)<256;omega)];omega
theorem inU_cons(l c:UInt8)(K:List UInt8):inU (l::K) c=(l==c||inU K c):=by simp[inU]
section
variable {F : List ST} {ts : List (Nat × List UInt8)} {k : Nat} {ths : List TH} {c : CS} {t : TH} {x : Int} {K s : List UInt8}
end
end Go.Proofs.YtdgkpkdinfklaabGreat
