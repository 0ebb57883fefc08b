import Derived.Test.YtdgkpkdinfklaaaGR
import Derived.Test.YtdgkpkdinfklaaaGS
namespace Go.Proofs.Ytdgkpkdinfklaaa
open Go.RowKit

theorem ran_all {w w' : World} {p q : ByteArray} {e : Ending} (h : RanOut w p q e w') : ∃ F ts sd sp x3 x4 xr ss, e = .returned (.tuple #[.agg #[.string sd, .string sp, x3, x4, .int .i64 xr, .string ss], .bool true]) ∧ Prog p.data.toList F ts ∧ (∃ a n c, x3 = .slice a n c) ∧ (∃ a n c, x4 = .slice a n c) ∧
    sd = ⟨(runU F q.data.toList q.data.toList.length).done.toArray⟩ ∧ xr = (runU F q.data.toList q.data.toList.length).race ∧ ss = ⟨(stuckM F (runU F q.data.toList q.data.toList.length).c.lk (runU F q.data.toList q.data.toList.length).ths).toArray⟩ := by
  obtain ⟨F, ts, v, he, _, hp, a3, c3, a4, c4, hv, _⟩ := h
  subst hv
  exact ⟨F, ts, _, _, _, _, _, _, he, hp, ⟨_, _, _, rfl⟩, ⟨_, _, _, rfl⟩, rfl, rfl, rfl⟩

theorem gen_td {p : ByteArray} {t : Nat} {opn : List UInt8} (h : Gen t p.data.toList [] opn) : (splitBar p.data.toList).length ≤ 4 ∧ ∀ a ∈ splitBar p.data.toList, TD [] [] a := by
  obtain ⟨hl, mks, ha, hn⟩ := h.acc
  exact acc_threads ha (by omega) hn

/-- What a run of one thread alone shows. -/
theorem alone_of {p : List UInt8} {F : List ST} {ts : List (Nat × List UInt8)} (h : Prog p F ts) (htd : ∀ a ∈ splitBar p, TD [] [] a) {k : Nat} (hk : k < (splitBar p).length) (n : Nat) (q : List UInt8) (hq : q = List.replicate n (UInt8.ofNat (49 + k))) :
    (runU F q q.length).race = 0 ∧ DoneOk (runU F q q.length).done ∧ stuckM F (runU F q q.length).c.lk (runU F q q.length).ths = [] := by
  rw [h.spl, List.length_map] at hk
  have := AR.run h htd hk n q.length
  rw [← hq] at this
  obtain ⟨⟨t, x, K, s, hai, _⟩, hr, hd⟩ := this
  exact ⟨hr, hd, hai.unstuck h.jok h.thr.lastEnd⟩

theorem digit_cut {r : Nat} (h : r < 4) : ((ByteArray.mk #[49, 50, 51, 52]).extract r (r + 1)).data.toList = [UInt8.ofNat (49 + r)] := by
  rcases four h with rfl | rfl | rfl | rfl <;> rfl

theorem cat_bytes (a b : ByteArray) : (a ++ b).data.toList = a.data.toList ++ b.data.toList := by simp

set_option maxHeartbeats 12800000 in
set_option maxRecDepth 100000 in
theorem alone_any (la : Option Addr) (ln lc : Nat) (f g : Int) (w : World) (hi : IsInts w w.heap.size la ln) (hl : ln ≤ maxLen) (f0 : -9223372036854775808 ≤ f) (f1 : f ≤ 9223372036854775807) (g0 : -9223372036854775808 ≤ g) (g1 : g ≤ 9223372036854775807) :
    Calls Try.prog 5 #[.slice la ln lc, .int .i64 f, .int .i64 g] w fun e w' => e = .returned (.bool true) ∧ Below w.heap.size w w' := by
  go_enter Try.func5, Try.ntmps5
  go_wp2_with fail
  refine (Any_any la ln lc w hi hl).mono ?_
  rintro e w1 ⟨⟨p, t, opn, rfl, hg⟩, b1⟩
  obtain ⟨hchk, hp240⟩ := gen_chk hg
  obtain ⟨h4, htd⟩ := gen_td hg
  have hcnt := splitBar_count p.data.toList
  have HCK : Hid (ChkIs p 0 0) := hchk
  have HTD : Hid (∀ a ∈ splitBar p.data.toList, TD [] [] a) := htd
  have hw1 := b1.size
  have B1 : Hid (Below w.heap.size w w1) := b1
  obtain ⟨N, hN⟩ : ∃ N, N = (splitBar p.data.toList).length := ⟨_, rfl⟩
  have hN1 : 1 ≤ N := by rw [hN, hcnt]; omega
  rw [← hN] at h4
  have TH : Hid (∀ w' : World, Calls Try.prog 17 #[.string p] w' fun e w'' => e = .returned (.int .i64 N) ∧ w'' = w') := fun w' => by rw [hN]; exact kthreads_any p w' (by omega)
  have HN : Hid (N = (splitBar p.data.toList).length) := hN
  have hpk := pickI_bd f (N : Int) (by omega)
  obtain ⟨r, hr⟩ : ∃ r : Nat, pickI f (N : Int) = r := Int.eq_ofNat_of_zero_le hpk.1
  have hrN : r < N := by omega
  have PK : Hid (∀ wx, Calls Try.prog 14 #[.int .i64 f, .int .i64 (N : Int)] wx fun e w' => e = .returned (.int .i64 r) ∧ w' = wx) := fun wx => by
    have := pick_any f (N : Int) wx (by omega) (by omega) (by omega) (by omega)
    rw [hr] at this; exact this
  have hpk2 := pickI_bd g 401 (by decide)
  obtain ⟨m, hm⟩ : ∃ m : Nat, pickI g 401 = m := Int.eq_ofNat_of_zero_le hpk2.1
  have hm4 : m ≤ 400 := by omega
  have PK2 : Hid (∀ wx, Calls Try.prog 14 #[.int .i64 g, .int .i64 401] wx fun e w' => e = .returned (.int .i64 m) ∧ w' = wx) := fun wx => by
    have := pick_any g 401 wx (by omega) (by omega) (by decide) (by decide)
    rw [hm] at this; exact this
  clear hi hg hchk b1 htd hcnt hN hpk hr hpk2 hm
  go_wp2_with fail
  refine (TH.out _).mono ?_
  rintro e w2 ⟨rfl, rfl⟩
  go_wp2_with fail
  refine (PK.out _).mono ?_
  rintro e w3 ⟨rfl, rfl⟩
  go_wp2_with fail
  refine (PK2.out _).mono ?_
  rintro e w4 ⟨rfl, rfl⟩
  clear TH PK PK2
  have hr4 : r < 4 := by omega
  go_wp2
  go_loopw [10, 11] (fun v i wr => ∃ (k : Nat) (q : ByteArray), k ≤ m ∧ i = .int .i64 k ∧ v = .string q ∧ q.data.toList = List.replicate k (UInt8.ofNat (49 + r)) ∧ wr = w4) (fun _ i _ => m - (intOf i).toNat)
  case atStart => exact ⟨0, ⟨#[]⟩, Nat.zero_le _, rfl, rfl, rfl, rfl⟩
  case round =>
    obtain ⟨k, q, hk, rfl, rfl, hq, rfl⟩ := hrel
    have hqs : q.size = k := by rw [← len_eq, hq, List.length_replicate]
    by_cases hlt : k < m
    · have EQ : Hid ((q ++ (ByteArray.mk #[49, 50, 51, 52]).extract r (r + 1)).data.toList = List.replicate (k + 1) (UInt8.ofNat (49 + r))) := by
        show _ = _
        rw [cat_bytes, hq, digit_cut hr4, List.replicate_succ']
      clear hq
      go_wp2
      go_roundw
      case rel => exact ⟨k + 1, _, by omega, by go_num, rfl, EQ.out, by first | rfl | trivial⟩
      case measure => simp [intOf]; omega
    · have hkm : k = m := by omega
      have HQ : Hid (q.data.toList = List.replicate k (UInt8.ofNat (49 + r))) := hq
      have RN : Hid (∀ w' : World, Calls Try.prog 15 #[.string p, .string q] w' fun e w'' => RanOut w' p q e w'' ∧ Below w'.heap.size w' w'') := fun w' => ran_any p q 0 w' HCK.out hp240 (by omega)
      clear hq
      go_wp2_with fail
      refine (RN.out _).mono ?_
      rintro e w5 ⟨hro, b5⟩
      obtain ⟨F, ts, d1, p1, x3, x4, r1, s1, rfl, hprog, ⟨a3, n3, c3, rfl⟩, ⟨a4, n4, c4, rfl⟩, hd1, hr1, hs1⟩ := ran_all hro
      obtain ⟨q1, q2, q3⟩ := alone_of hprog HTD.out (k := r) (by rw [← HN.out]; exact hrN) k q.data.toList HQ.out
      have hr10 : r1 = 0 := by rw [hr1]; exact q1
      have hs10 : s1 = ⟨#[]⟩ := by rw [hs1, q3]
      have HD : Hid (DoneOk d1.data.toList) := by rw [hd1]; exact q2
      have hds : d1.size = k := by
        rw [hd1]
        show (List.toArray _).size = k
        rw [List.size_toArray, runU_len F _ _ (Nat.le_refl _), len_eq, hqs]
      have B5 : Hid (∀ o, Below w.heap.size w (w5.alloc o)) := fun o => (B1.out.trans (b5.mono (by omega))).alloc (by have := b5.size; omega) o
      subst hr10
      subst hs10
      clear hro b5 hd1 hr1 hs1 q1 q2 q3 hprog RN
      go_wp2
      go_loopw [14] (fun i wr => ∃ j : Nat, 1 ≤ j ∧ j ≤ k + 1 ∧ i = .int .i64 j ∧ wr = w5.alloc (.cells #[.string d1, .string p1, .slice a3 n3 c3, .slice a4 n4 c4, .int .i64 0, .string ⟨#[]⟩] 36)) (fun i _ => 402 - (intOf i).toNat)
      case atStart => exact ⟨1, Nat.le_refl _, by omega, rfl, rfl⟩
      case round =>
        obtain ⟨j, hj1, hj2, rfl, rfl⟩ := hrel
        obtain ⟨j1, hjj⟩ : ∃ j1, j = j1 + 1 := ⟨j - 1, by omega⟩
        have hji : (j : Int) - 1 = (j1 : Int) := by omega
        by_cases hlt2 : j < d1.size
        · have hl1 : j1 < d1.size := by omega
          by_cases hdot : d1[j1] = 46
          · have hnx : d1[j] = 46 := by
              have a1 := byte_at d1 j1 hl1
              have a2 := byte_at d1 j hlt2
              rw [hdot] at a1
              exact HD.out j1 a1 _ (by rw [← hjj]; exact a2)
            have t1 : ((d1[j1].toNat : Int) == 46) = true := by rw [hdot]; rfl
            have t2 : ((d1[j].toNat : Int) != 46) = false := by rw [hnx]; rfl
            clear hdot hnx hjj
            go_wp2
            go_roundw
            case rel => exact ⟨j + 1, by omega, by omega, by go_num, by first | rfl | trivial⟩
            case measure => simp [intOf]; omega
          · have t1 : ((d1[j1].toNat : Int) == 46) = false := u8_ne hdot
            clear hdot hjj
            go_wp2
            go_roundw
            case rel => exact ⟨j + 1, by omega, by omega, by go_num, by first | rfl | trivial⟩
            case measure => simp [intOf]; omega
        · clear hjj hji
          go_wp2
          go_ret
          exact ⟨rfl, B5.out _⟩

end Go.Proofs.Ytdgkpkdinfklaaa
