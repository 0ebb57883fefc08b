import Derived.Test.YtdgkpkdinfklaabGreatGF
import Derived.Test.YtdgkpkdinfklaabGreatGMD
namespace Go.Proofs.YtdgkpkdinfklaabGreat
theorem sb_stp(p:List UInt8):∀n,(sb p n).2++stp (p.drop (sb p n).1)=stp p:=by
 intro n
 induction n with
 | zero=>rfl
 | succ n ih=>
  obtain⟨k,o,hko⟩:∃k o,sb p n=(k,o):=⟨_,_,rfl⟩;rw[hko]at ih;simp only at ih;cases hc:p[k]? with
  | none=>
   have:sb p (n+1)=(k,o):=by rw[sb,hko];simp only;rw[hc]
   rw[this];exact ih
  | some c=>
   obtain⟨hk,rfl⟩:=List.getElem?_eq_some_iff.1 hc;rw[sb_step hko hc];rw[List.drop_eq_getElem_cons hk]at ih
   by_cases h60:p[k]=60
   ·rw[if_pos h60];simp only;rw[h60]at ih;rw[←ih]
    congr 1
    cases hd:p.drop (k+1)with
    | nil=>
     have:p.length≤k+1:=by have:=congrArg List.length hd;simp at this;omega
     rw[List.drop_of_length_le (by omega)];rfl
    | cons v s=>
     rw[stp_lt];have:p.drop (k+2)=s:=by
      have:=congrArg List.tail hd;simpa[List.tail_drop]using this
     rw[this]
   ·rw[if_neg h60]
    by_cases h62:p[k]=62
    ·rw[if_pos h62];simp only;rw[h62,stp_gt]at ih;exact ih
    ·rw[if_neg h62];simp only;rw[stp_keep h60 h62]at ih;rw[←ih];simp
theorem StripIs.stp{t o:ByteArray}(h:StripIs t o 0):o.data.toList=Proofs.YtdgkpkdinfklaabGreat.stp t.data.toList:=by
 obtain⟨b,_,h⟩:=h;rcases h with⟨h0,_⟩|⟨_,n,hn,rfl⟩
 ·exact absurd rfl h0
 ·have:=sb_stp t.data.toList n;rw[List.drop_of_length_le (by rw[len_eq];exact hn)]at this;simpa[Proofs.YtdgkpkdinfklaabGreat.stp]using this
end Go.Proofs.YtdgkpkdinfklaabGreat
