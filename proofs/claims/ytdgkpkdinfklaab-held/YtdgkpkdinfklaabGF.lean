import Derived.Test.YtdgkpkdinfklaabGA
import Derived.Test.YtdgkpkdinfklaabGE
import Derived.Laws.BytesArg
namespace Go.Proofs.Ytdgkpkdinfklaab
def plainE (e : UInt8) : Bool := e == 66 || e == 109 || e == 93 || e == 125 || e == 123 || e == 62
def BF (f : List UInt8) : Prop := f.all plainE = true ∨ ∃ X, f = 97 :: 118 :: 62 :: X ∧ X.all plainE = true
theorem bf_next {f f' : List UInt8} {c : UInt8} (h : BF f) (hn : nxt f c = (f', true)) :
  (sizeU c = 1 ∧ BF f') ∨ (sizeU c = 2 ∧ ∃ e X, f' = e :: X ∧ (e = 118 ∨ e = 110 ∨ e = 108 ∨ e = 107) ∧ BF X) := by
 rcases h with h | ⟨X, rfl, hX⟩
 ·induction f with
  | nil => simp [nxt] at hn
  | cons e r ih =>
   simp only [List.all_cons, Bool.and_eq_true] at h
   unfold nxt at hn
   split at hn
   ·rename_i he
    subst he
    split at hn
    ·rename_i more hm
     simp only [Prod.mk.injEq, and_true] at hn
     subst hn
     unfold opnL at hm
     split at hm
     ·rename_i hc; cases hm
      right
      refine ⟨by rcases hc with rfl | rfl <;> rfl, 118, 66 :: r, rfl, .inl rfl, .inl (by simp [h.2, plainE])⟩
     split at hm
     ·rename_i hc; cases hm; subst hc
      exact .inr ⟨rfl, 110, 66 :: r, rfl, .inr (.inl rfl), .inl (by simp [h.2, plainE])⟩
     split at hm
     ·rename_i hc; cases hm; subst hc
      exact .inl ⟨rfl, .inl (by simp [h.2, plainE])⟩
     split at hm
     ·rename_i hc; cases hm; subst hc
      exact .inr ⟨rfl, 108, 66 :: 93 :: 66 :: r, rfl, .inr (.inr (.inl rfl)), .inl (by simp [h.2, plainE])⟩
     split at hm
     ·rename_i hc; cases hm; subst hc
      exact .inr ⟨rfl, 107, 97 :: 118 :: 62 :: 66 :: r, rfl, .inr (.inr (.inr rfl)), .inr ⟨66 :: r, rfl, by simp [h.2, plainE]⟩⟩
     split at hm
     ·rename_i hc; cases hm; subst hc
      exact .inl ⟨rfl, .inl (by simp [h.2, plainE])⟩
     split at hm
     ·rename_i hc; cases hm; subst hc
      exact .inl ⟨rfl, .inl (by simp [h.2, plainE])⟩
     ·cases hm
    ·exact ih hn h.2
   ·split at hn
    ·simp only [Prod.mk.injEq, beq_iff_eq] at hn
     obtain ⟨rfl, rfl⟩ := hn
     exact .inl ⟨rfl, .inl (by simp [h.2, plainE])⟩
    ·rename_i h66 h109
     simp only [Prod.mk.injEq] at hn
     obtain ⟨rfl, hs⟩ := hn
     have h1 := h.1
     simp only [plainE, Bool.or_eq_true, beq_iff_eq] at h1
     rcases h1 with ((((h1 | h1) | h1) | h1) | h1) | h1
     ·exact absurd h1 h66
     ·exact absurd h1 h109
     all_goals
      subst h1
      simp [stB] at hs
      subst hs
      exact .inl ⟨rfl, .inl h.2⟩
 ·rw [nxt_e (by decide) (by decide)] at hn
  simp only [Prod.mk.injEq] at hn
  obtain ⟨rfl, hs⟩ := hn
  have hs' : inU [103, 112] c = true := hs
  simp [inU] at hs'
  right
  refine ⟨by rcases hs' with rfl | rfl <;> rfl, 118, 62 :: X, rfl, .inl rfl, .inl (by simp [hX, plainE])⟩
def sb (p : List UInt8) : Nat → Nat × List UInt8
 | 0 => (0, [])
 | n + 1 => match p[(sb p n).1]? with
  | none => sb p n
  | some c => if c = 60 then ((sb p n).1 + 2, (sb p n).2) else if c = 62 then ((sb p n).1 + 1, (sb p n).2) else ((sb p n).1 + 1, (sb p n).2 ++ [c])
theorem sb_step {p : List UInt8} {n i : Nat} {o : List UInt8} {c : UInt8} (h : sb p n = (i, o)) (hc : p[i]? = some c) : sb p (n + 1) = if c = 60 then (i + 2, o) else if c = 62 then (i + 1, o) else (i + 1, o ++ [c]) := by
 simp [sb, h, hc]
end Go.Proofs.Ytdgkpkdinfklaab

namespace Go.Proofs.Ytdgkpkdinfklaab
open Go.RowKit
theorem Try.infoByte : (Try.prog.info? 5).map (fun i => (i.zero, i.size, i.bytes)) = some (some (.int .u8 0), 1, 1) := by kernel_rfl
theorem addr_at (g j : Nat) : (⟨g, 0, none⟩ : Addr).add j = ⟨g, j, none⟩ := by unfold Addr.add; split <;> simp_all
def byV (l : List UInt8) : List Value := l.map fun b => .int .u8 (b.toNat : Int)
theorem sb_len (p : List UInt8) (n : Nat) : (sb p n).2.length ≤ (sb p n).1 := by
 induction n with
 | zero => exact Nat.le_refl _
 | succ n ih =>
  rw [sb]
  split
  ·exact ih
  ·split
   ·simp only; omega
   ·split
    ·simp only; omega
    ·simp only [List.length_append, List.length_cons, List.length_nil]; omega
theorem sb_le (p : List UInt8) (n : Nat) : (sb p n).1 ≤ p.length + 1 := by
 induction n with
 | zero => exact Nat.zero_le _
 | succ n ih =>
  rw [sb]
  split
  ·exact ih
  ·rename_i c hc
   have hlt := (List.getElem?_eq_some_iff.1 hc).1
   split
   ·simp only; omega
   ·split
    ·simp only; omega
    ·simp only; omega
set_option maxHeartbeats 1600000 in
set_option maxRecDepth 100000 in
theorem stripped_any (s : ByteArray) (w : World) (h : s.size ≤ 240) :
  Calls Try.prog 42 #[.string s] w fun e w' => (∃ n, s.size ≤ (sb s.data.toList n).1 ∧ e = .returned (.string ⟨(sb s.data.toList n).2.toArray⟩)) ∧ Below w.heap.size w w' := by
 obtain ⟨i0, hi0, hz0, hz1, hz2⟩ := info_parts Try.infoByte
 go_enter Try.func42, Try.ntmps42
 go_wp2
 go_loopg [3, 4] (s.size + 1) (fun g v i wr => ∃ (n k : Nat) (o : List UInt8), sb s.data.toList n = (k, o) ∧ i = .int .i64 k ∧ wr.ownsRow w.heap.size 5 1 v o.length (byV o) ∧ Below w.heap.size w wr ∧ s.size + 1 ≤ g + k)
 case atStart => exact ⟨0, 0, [], rfl, rfl, World.ownsRow_nil _ _ _ _, Below.refl _ _, by omega⟩
 case round =>
  obtain ⟨n, k, o, hsb, rfl, hown, hbe, hg⟩ := hrel
  have hol := sb_len s.data.toList n
  have hkl := sb_le s.data.toList n
  rw [hsb] at hol hkl
  rw [len_eq] at hkl
  simp only at hol hkl
  have HSB : Hid (sb s.data.toList n = (k, o)) := hsb
  have HO : Hid (wr.ownsRow w.heap.size 5 1 u3 o.length (byV o)) := hown
  clear hsb hown
  by_cases hlt : k < s.size
  ·have hst := sb_step HSB.out (byteAt s k hlt)
   by_cases h60 : s[k] = 60
   ·have b60 : ((s[k].toNat : Int) == 60) = true := by rw [h60]; rfl
    rw [if_pos h60] at hst
    have HST : Hid (sb s.data.toList (n + 1) = (k + 2, o)) := hst
    clear hst h60
    go_wp2
    go_roundg (gk - 2)
    case measure => omega
    case rel => exact ⟨n + 1, k + 2, o, HST.out, by go_num, HO.out, hbe, by omega⟩
   ·have b60 : ((s[k].toNat : Int) == 60) = false := u8g h60
    rw [if_neg h60] at hst
    clear h60
    by_cases h62 : s[k] = 62
    ·have b62 : ((s[k].toNat : Int) == 62) = true := by rw [h62]; rfl
     rw [if_pos h62] at hst
     have HST : Hid (sb s.data.toList (n + 1) = (k + 1, o)) := hst
     clear hst h62
     go_wp2
     go_roundg (gk - 1)
     case measure => omega
     case rel => exact ⟨n + 1, k + 1, o, HST.out, by go_num, HO.out, hbe, by omega⟩
    ·have b62 : ((s[k].toNat : Int) == 62) = false := u8g h62
     rw [if_neg h62] at hst
     have HST : Hid (sb s.data.toList (n + 1) = (k + 1, o ++ [s[k]])) := hst
     clear hst h62
     go_wp2_with (at_builtin; refine wpList_append_own _ rfl (.tmp 12) (.tmp 16) 56 rfl w.heap.size 5 i0 _ 1 1 Try.underlying56 hi0 hz0 hz1 hz2 rfl (by decide) u3 o.length (byV o) rfl (HO.out.alloc _) ⟨wr.heap.size, 0, none⟩ 1 1 [.int .u8 (s[k].toNat : Int)] rfl rfl ?hnews ?h1 ?h63 ?hby ?hbase ?next)
     case hnews => exact cell_one_new _ _ _
     case h1 => intro u hu; simp at hu; subst hu; rfl
     case h63 => unfold maxLen; omega
     case hby => omega
     case hbase => have := hbe.size; simp; omega
     case next =>
      intro v' w1 hown1 hgrow _
      have hbe1 : Below w.heap.size w w1 := (hbe.alloc hbe.size _).grown hgrow (by have := hbe.size; simp; omega) (fun q hq => (HO.out.lt q hq).1)
      have HO1 : Hid (w1.ownsRow w.heap.size 5 1 v' (o ++ [s[k]]).length (byV (o ++ [s[k]]))) := by
       have : byV (o ++ [s[k]]) = byV o ++ [.int .u8 (s[k].toNat : Int)] := by simp [byV]
       rw [this, List.length_append]; exact hown1
      clear hown1 hgrow
      go_wp2
      go_roundg (gk - 1)
      case measure => omega
      case rel => exact ⟨n + 1, k + 1, o ++ [s[k]], HST.out, by go_num, HO1.out, hbe1, by omega⟩
  ·have HFIN : Hid (∃ n, s.size ≤ (sb s.data.toList n).1 ∧ (sb s.data.toList n).2 = o) := ⟨n, by rw [HSB.out]; simp only; omega, by rw [HSB.out]⟩
   rcases HO.out.2 with ⟨hv, hn0⟩ | ⟨gb, cap, cur, hv, _⟩
   ·have ho : o = [] := List.eq_nil_of_length_eq_zero hn0
    subst hv
    subst ho
    have hcv := fun (wx : World) => run_convert_bytes_nil (P := Try.prog) wx 56 5 Try.underlying56 Try.underlying5 0 0 9 Try.underlying9
    obtain ⟨m, hm1, hm2⟩ := HFIN.out
    have HM1 : Hid (s.size ≤ (sb s.data.toList m).1) := hm1
    have HM2 : Hid ((sb s.data.toList m).2 = []) := hm2
    clear hm1 hm2
    go_wp2
    go_ret
    exact ⟨⟨m, HM1.out, by rw [HM2.out]; rfl⟩, hbe⟩
   ·subst hv
    have hcv := run_convert_bytes_back (P := Try.prog) wr 56 9 5 ⟨gb, 0, none⟩ cap o Try.underlying56 Try.underlying5 Try.underlying9 (fun j hj => by
     rw [addr_at]
     have := HO.out.cellAt j (by omega)
     rw [this]
     simp [byV, List.getElem?_eq_getElem hj])
    obtain ⟨m, hm1, hm2⟩ := HFIN.out
    have HM1 : Hid (s.size ≤ (sb s.data.toList m).1) := hm1
    have HM2 : Hid ((sb s.data.toList m).2 = o) := hm2
    clear hm1 hm2
    go_wp2
    go_ret
    exact ⟨⟨m, HM1.out, by rw [HM2.out]; rfl⟩, hbe⟩
end Go.Proofs.Ytdgkpkdinfklaab

namespace Go.Proofs.Ytdgkpkdinfklaab
open Go.RowKit
theorem mid_data (s : ByteArray) (k z : Nat) : (s.extract k (k + z)).data.toList = (s.data.toList.drop k).take z := by
 rw [Lib.extract_data, Nat.add_sub_cancel_left]
def StripIs (s : ByteArray) (o : ByteArray) (a : Int) : Prop := ∃ b, ChkIs s a b ∧ ((a ≠ 0 ∧ o = ⟨#[]⟩) ∨ (a = 0 ∧ ∃ n, s.size ≤ (sb s.data.toList n).1 ∧ o = ⟨(sb s.data.toList n).2.toArray⟩))
set_option maxHeartbeats 400000 in
theorem strip_any (s : ByteArray) (w : World) (hs : s.size ≤ maxLen) :
  Calls Try.prog 27 #[.string s] w fun e w' => ∃ o a, e = .returned (.tuple #[.string o, .int .i64 a]) ∧ StripIs s o a ∧ Below w.heap.size w w' := by
 go_enter Try.func27, Try.ntmps27
 go_wp2_with fail
 refine (read_any s w hs).mono ?_
 intro e w1 hout
 obtain ⟨hb, v, a, b, rfl, hc, hcase⟩ := hout.says
 clear hout
 by_cases ha : a = 0
 ·subst ha
  have hz : s.size ≤ 240 := by
   rcases hcase with ⟨h, _⟩ | ⟨_, h, _⟩
   ·exact absurd rfl h
   ·exact h
  clear hcase
  go_wp2_with fail
  refine (stripped_any s w1 hz).mono ?_
  rintro e w2 ⟨⟨n, hn, rfl⟩, hb2⟩
  go_wp2
  go_ret2
  exact ⟨_, 0, rfl, ⟨b, hc, .inr ⟨rfl, n, hn, rfl⟩⟩, hb.trans (hb2.mono hb.size)⟩
 ·have ha' : (a != 0) = true := by simpa using ha
  clear hcase
  go_wp2
  go_ret2
  exact ⟨_, a, rfl, ⟨b, hc, .inl ⟨ha, rfl⟩⟩, hb⟩
end Go.Proofs.Ytdgkpkdinfklaab
