import Derived.Test.YtdgkpkdinfklaabGRPA
import Derived.Test.YtdgkpkdinfklaabGF
namespace Go.Proofs.Ytdgkpkdinfklaab
open Go.RowKit
def chF (Z : Nat → Int) (ln : Nat) (k : Nat) : Option UInt8 := if k < ln ∧ 0 < choN (Z k) then some (UInt8.ofNat (64 + choN (Z k))) else none
theorem lay_walk_acc {ch : Nat → Option UInt8} {kk k : Nat} {S : List UInt8} {c : UInt8} (hk : S[k]? = some c) (h2 : k + 1 < S.length) (h : c = 103 ∨ c = 112) :
  lay ch kk (S.drop k) = (match ch kk with | some l => [60, l] ++ (S.drop k).take 2 ++ [62] | none => (S.drop k).take 2) ++ lay ch (kk + 1) (S.drop (k + 2)) := by
 have hl : k < S.length := by omega
 have e : S.drop k = c :: S[k + 1] :: S.drop (k + 2) := by
  rw [List.drop_eq_getElem_cons hl, List.drop_eq_getElem_cons h2]
  rw [List.getElem?_eq_getElem hl] at hk
  rw [Option.some.inj hk]
 rw [e, lay_acc h]
 cases ch kk <;> rfl
theorem lay_walk_one {ch : Nat → Option UInt8} {kk k : Nat} {S : List UInt8} {c : UInt8} (hk : S[k]? = some c) (hr : k + sizeU c ≤ S.length) (h : ¬ (c = 103 ∨ c = 112)) :
  lay ch kk (S.drop k) = (S.drop k).take (sizeU c) ++ lay ch kk (S.drop (k + sizeU c)) := by
 have hp := sizeU_pos c
 have hl : k < S.length := by omega
 have e : S.drop k = c :: S.drop (k + 1) := by
  rw [List.drop_eq_getElem_cons hl]
  rw [List.getElem?_eq_getElem hl] at hk
  rw [Option.some.inj hk]
 by_cases h2 : sizeU c = 2
 ·rw [h2] at hr ⊢
  have e2 : S.drop (k + 1) = S[k + 1]'(by omega) :: S.drop (k + 2) := by rw [List.drop_eq_getElem_cons (by omega)]
  have hc : c = 105 ∨ c = 91 ∨ c = 60 := by
   by_cases h3 : inU [103, 112, 105, 91, 60] c = true
   ·simp [inU] at h3
    rcases h3 with rfl | rfl | rfl | rfl | rfl
    ·exact absurd (.inl rfl) h
    ·exact absurd (.inr rfl) h
    ·exact .inl rfl
    ·exact .inr (.inl rfl)
    ·exact .inr (.inr rfl)
   ·rw [sizeU, if_neg h3] at h2
    exact absurd h2 (by decide)
  rw [e, e2, lay, if_neg h, if_pos hc]; rfl
 ·have h1 : sizeU c = 1 := by
   unfold sizeU at h2 ⊢
   split <;> simp_all
  rw [h1, e, lay_one h1]; rfl
end Go.Proofs.Ytdgkpkdinfklaab

namespace Go.Proofs.Ytdgkpkdinfklaab
open Go.RowKit
def NumsAt (w : World) (la : Option Addr) (ln : Nat) (Z : Nat → Int) : Prop :=
 ∀ j, j < ln → ∃ b off, la = some ⟨b, off, none⟩ ∧ w.cell? ⟨b, off + j, none⟩ = some (.int .i64 (Z j)) ∧ -9223372036854775808 ≤ Z j ∧ Z j ≤ 9223372036854775807
def LW (ch : Nat → Option UInt8) (S : List UInt8) (o : List UInt8) (kk k : Nat) : Prop := lay ch 0 S = o ++ lay ch kk (S.drop k)
theorem LW.one {ch : Nat → Option UInt8} {S o : List UInt8} {kk k : Nat} {c : UInt8} (h : LW ch S o kk k) (hk : S[k]? = some c) (hr : k + sizeU c ≤ S.length) (hn : ¬ (c = 103 ∨ c = 112)) : LW ch S (o ++ (S.drop k).take (sizeU c)) kk (k + sizeU c) := by
 unfold LW at h ⊢
 rw [h, lay_walk_one hk hr hn, List.append_assoc]
theorem LW.none {ch : Nat → Option UInt8} {S o : List UInt8} {kk k : Nat} {c : UInt8} (h : LW ch S o kk k) (hk : S[k]? = some c) (hr : k + 1 < S.length) (hn : c = 103 ∨ c = 112) (hc : ch kk = none) : LW ch S (o ++ (S.drop k).take 2) (kk + 1) (k + 2) := by
 unfold LW at h ⊢
 rw [h, lay_walk_acc hk hr hn, hc, List.append_assoc]
theorem LW.some {ch : Nat → Option UInt8} {S o : List UInt8} {kk k : Nat} {c l : UInt8} (h : LW ch S o kk k) (hk : S[k]? = some c) (hr : k + 1 < S.length) (hn : c = 103 ∨ c = 112) (hc : ch kk = some l) : LW ch S (o ++ ([60, l] ++ (S.drop k).take 2 ++ [62])) (kk + 1) (k + 2) := by
 unfold LW at h ⊢
 rw [h, lay_walk_acc hk hr hn, hc]; simp only [List.append_assoc]
end Go.Proofs.Ytdgkpkdinfklaab
