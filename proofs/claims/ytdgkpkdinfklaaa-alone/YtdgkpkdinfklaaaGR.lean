import Derived.Test.YtdgkpkdinfklaaaXKpB
namespace Go.Proofs.Ytdgkpkdinfklaaa
open Go.RowKit

set_option maxHeartbeats 1600000 in
set_option maxRecDepth 100000 in
theorem kpicks_any (la : Option Addr) (ln lc : Nat) (w : World) (hi : IsInts w w.heap.size la ln) (_hl : ln ≤ maxLen) :
    Calls Try.prog 13 #[.slice la ln lc] w fun e w' => (∃ q : ByteArray, e = .returned (.string q) ∧ q.size ≤ 400) ∧ Below w.heap.size w w' := by
  obtain ⟨i0, hi0, hz0, hz1, hz2⟩ := info_parts Try.infoByteM
  unfold maxLen at _hl
  have HI : Hid (IsInts w w.heap.size la ln) := hi
  clear hi
  go_enter Try.func13, Try.ntmps13
  go_wp2
  go_loopw [3, 4] (fun v i wr => ∃ (k : Nat) (l : List UInt8), k ≤ ln ∧ k ≤ 400 ∧ i = .int .i64 k ∧ l.length = k ∧ wr.ownsRow w.heap.size 5 1 v l.length (bysV l) ∧ Below w.heap.size w wr) (fun _ i _ => 400 - (intOf i).toNat)
  case atStart => exact ⟨0, [], Nat.zero_le _, Nat.zero_le _, rfl, rfl, World.ownsRow_nil _ _ _ _, Below.refl _ _⟩
  case round =>
    obtain ⟨k, l, hk, hk4, rfl, hlk, hown, hbe⟩ := hrel
    have HO : Hid (wr.ownsRow w.heap.size 5 1 u3 l.length (bysV l)) := hown
    have HB : Hid (Below w.heap.size w wr) := hbe
    have hsz := hbe.size
    by_cases hlt : k < ln
    · by_cases h4 : k < 400
      · obtain ⟨b, off, rfl, hbl, hcell⟩ : ∃ b off, la = some ⟨b, off, none⟩ ∧ b < w.heap.size ∧ ∀ j, j < ln → ∃ z : Int, wr.cell? ⟨b, off + j, none⟩ = some (.int .i64 z) ∧ -9223372036854775808 ≤ z ∧ z ≤ 9223372036854775807 := by
          rcases HI.out.below hbe with h | h
          · omega
          · exact h
        obtain ⟨z, hz, z0, z1⟩ := hcell k hlt
        have hpk := pickI_bd z 9 (by decide)
        obtain ⟨r, hr⟩ : ∃ r : Nat, pickI z 9 = r := Int.eq_ofNat_of_zero_le hpk.1
        have hr9 : r < 9 := by omega
        have PK : Hid (∀ wx, Calls Try.prog 14 #[.int .i64 z, .int .i64 9] wx fun e w' => e = .returned (.int .i64 r) ∧ w' = wx) := fun wx => by
          have := pick_any z 9 wx (by omega) (by omega) (by decide) (by decide)
          rw [hr] at this; exact this
        obtain ⟨x, hx⟩ : ∃ x : UInt8, x = (ByteArray.mk #[49, 50, 51, 52, 49, 50, 51, 52, 48])[r]'(by show r < 9; exact hr9) := ⟨_, rfl⟩
        have hxv : (((ByteArray.mk #[49, 50, 51, 52, 49, 50, 51, 52, 48])[r]'(by show r < 9; exact hr9)).toNat : Int) = (x.toNat : Int) := by rw [hx]
        have hlen : l.length ≤ 400 := by omega
        clear hown hbe hcell hpk hr hx
        go_wp2_with fail
        refine (PK.out _).mono ?_
        rintro e w1 ⟨rfl, rfl⟩
        clear PK
        go_wp2_with (at_builtin; refine wpList_append_own _ rfl (.tmp 21) (.tmp 24) 59 rfl w.heap.size 5 i0 _ 1 1 Try.underlying59 hi0 hz0 hz1 hz2 rfl (by decide) u3 l.length (bysV l) rfl (HO.out.alloc _) ⟨w1.heap.size, 0, none⟩ 1 1 [.int .u8 x.toNat] rfl rfl ?hnews ?h1 ?h63 ?hby ?hbase ?next)
        case hnews => exact World.news_of_block (cs := #[.int .u8 x.toNat]) (t := 5) (fr := (0, 0)) (heap_alloc_new _ _)
        case h1 => intro u hu; simp at hu; subst hu; rfl
        case h63 => unfold maxLen; omega
        case hby => omega
        case hbase => simp; omega
        case next =>
          intro v' w2 hown2 hgrow _
          have B2 : Hid (Below w.heap.size w w2) := (HB.out.alloc hsz _).grown hgrow (by simp; omega) (fun q hq => (HO.out.lt q hq).1)
          have O2 : Hid (w2.ownsRow w.heap.size 5 1 v' (l ++ [x]).length (bysV (l ++ [x]))) := by
            show World.ownsRow _ _ _ _ _ _ _
            rw [bysV_append, List.length_append, hlk]; exact hown2
          clear hown2 hgrow
          go_wp2
          go_roundw
          case rel => exact ⟨k + 1, l ++ [x], by omega, by omega, by go_num, by simp [hlk], O2.out, B2.out⟩
          case measure => simp [intOf]; omega
      · have hcv := conv_row hown
        have hle : l.length ≤ 400 := by omega
        obtain ⟨sq, hsq⟩ : ∃ s : ByteArray, s = ⟨l.toArray⟩ := ⟨_, rfl⟩
        have hsz2 : sq.size ≤ 400 := by rw [hsq]; show l.toArray.size ≤ 400; simpa using hle
        rw [← hsq] at hcv
        have e4 : decide ((k : Int) < 400) = false := decide_eq_false (by omega)
        clear hown hsq hlk hle
        go_wp2
        go_ret
        exact ⟨⟨sq, rfl, hsz2⟩, HB.out⟩
    · have hcv := conv_row hown
      have hle : l.length ≤ 400 := by omega
      obtain ⟨sq, hsq⟩ : ∃ s : ByteArray, s = ⟨l.toArray⟩ := ⟨_, rfl⟩
      have hsz2 : sq.size ≤ 400 := by rw [hsq]; show l.toArray.size ≤ 400; simpa using hle
      rw [← hsq] at hcv
      have e4 : decide ((k : Int) < (ln : Int)) = false := decide_eq_false (by omega)
      clear hown hsq hlk hle
      go_wp2
      go_ret
      exact ⟨⟨sq, rfl, hsz2⟩, HB.out⟩

end Go.Proofs.Ytdgkpkdinfklaaa

namespace Go.Proofs.Ytdgkpkdinfklaaa
open Go.RowKit

theorem gen_chk {p : ByteArray} {t : Nat} {opn : List UInt8} (h : Gen t p.data.toList [] opn) : ChkIs p 0 0 ∧ p.size ≤ 240 := by
  obtain ⟨hl, mks, ha, hn⟩ := h.acc
  rw [len_eq] at hl
  exact ⟨.inr ⟨by omega, .inr ⟨mks, ha, by simp [nestOf, hn], by simp [nestOf, hn]⟩⟩, by omega⟩

/-- What two runs of one program show. -/
structure Two (n : Nat) (d1 p1 d2 p2 : ByteArray) (r1 r2 : Int) : Prop where
  done : ∃ d, d1.data.toList = d2.data.toList ++ d
  pr : ∃ d, p1.data.toList = p2.data.toList ++ d
  race : r1 = r2 ∨ (r2 = 0 ∧ (n : Int) < r1)
  s1 : d1.size ≤ 1000
  s2 : p1.size ≤ 1000

theorem two_of {p q : ByteArray} {F : List ST} {ts : List (Nat × List UInt8)} (h : Prog p.data.toList F ts) (r : Nat) (hr : r ≤ q.size) (hq : q.size ≤ 400) :
    Two r ⟨(runU F q.data.toList q.data.toList.length).done.toArray⟩ ⟨(runU F q.data.toList q.data.toList.length).c.pr.toArray⟩
      ⟨(runU F (q.data.toList.take r) r).done.toArray⟩ ⟨(runU F (q.data.toList.take r) r).c.pr.toArray⟩ (runU F q.data.toList q.data.toList.length).race (runU F (q.data.toList.take r) r).race := by
  rw [runU_take F q.data.toList r r (Nat.le_refl _)]
  have hl : r ≤ q.data.toList.length := by rw [len_eq]; exact hr
  obtain ⟨⟨d, hd⟩, ⟨e, he⟩, _⟩ := runU_pre F q.data.toList r q.data.toList.length hl
  have hf := runU_first F q.data.toList r q.data.toList.length hl
  refine ⟨⟨d, ?_⟩, ⟨e, ?_⟩, hf, ?_, ?_⟩
  · simpa using hd
  · simpa using he
  · show (List.toArray _).size ≤ 1000
    rw [List.size_toArray, runU_len F _ _ (Nat.le_refl _), len_eq]; omega
  · show (List.toArray _).size ≤ 1000
    have := (h.ri q.data.toList q.data.toList.length).pr
    rw [len_eq] at this
    rw [List.size_toArray, len_eq]; omega

theorem ran_parts {w w' : World} {p q : ByteArray} {e : Ending} (h : RanOut w p q e w') : ∃ F ts sd sp x3 x4 xr ss, e = .returned (.tuple #[.agg #[.string sd, .string sp, x3, x4, .int .i64 xr, .string ss], .bool true]) ∧ StepsOf p.data.toList F ∧ Prog p.data.toList F ts ∧ (∃ a n c, x3 = .slice a n c) ∧ (∃ a n c, x4 = .slice a n c) ∧
    sd = ⟨(runU F q.data.toList q.data.toList.length).done.toArray⟩ ∧ sp = ⟨(runU F q.data.toList q.data.toList.length).c.pr.toArray⟩ ∧ xr = (runU F q.data.toList q.data.toList.length).race := by
  obtain ⟨F, ts, v, he, hs, hp, a3, c3, a4, c4, hv, _⟩ := h
  subst hv
  exact ⟨F, ts, _, _, _, _, _, _, he, hs, hp, ⟨_, _, _, rfl⟩, ⟨_, _, _, rfl⟩, rfl, rfl, rfl⟩

theorem take_data (q : ByteArray) (r : Nat) (hr : r ≤ q.size) : (q.extract 0 r).data.toList = q.data.toList.take r ∧ (q.extract 0 r).data.toList.length = r := by
  have h1 : (q.extract 0 r).data.toList = q.data.toList.take r := by
    rw [ByteArray.data_extract, Array.toList_extract]
    simp [List.extract]
  exact ⟨h1, by rw [h1, List.length_take, len_eq]; omega⟩

set_option maxHeartbeats 12800000 in
set_option maxRecDepth 100000 in
theorem prefixed_any (la : Option Addr) (ln lc : Nat) (pa : Option Addr) (pn pc : Nat) (f : Int) (w : World) (hi : IsInts w w.heap.size la ln) (hl : ln ≤ maxLen) (hj : IsInts w w.heap.size pa pn) (hm : pn ≤ maxLen) (f0 : -9223372036854775808 ≤ f) (f1 : f ≤ 9223372036854775807) :
    Calls Try.prog 4 #[.slice la ln lc, .slice pa pn pc, .int .i64 f] w fun e w' => e = .returned (.bool true) ∧ Below w.heap.size w w' := by
  go_enter Try.func4, Try.ntmps4
  go_wp2_with fail
  refine (Any_any la ln lc w hi hl).mono ?_
  rintro e w1 ⟨⟨p, t, opn, rfl, hg⟩, b1⟩
  obtain ⟨hchk, hp240⟩ := gen_chk hg
  have hj1 := hj.below b1
  have HCK : Hid (ChkIs p 0 0) := hchk
  have hw1 := b1.size
  have hj1' : IsInts w1 w1.heap.size pa pn := by
    rcases hj1 with h | ⟨b, off, e, hb, hc⟩
    · exact .inl h
    · exact .inr ⟨b, off, e, by omega, hc⟩
  have B1 : Hid (Below w.heap.size w w1) := b1
  clear hi hj hj1 hg hchk b1
  go_wp2_with fail
  refine (kpicks_any pa pn pc w1 hj1' hm).mono ?_
  rintro e w2 ⟨⟨q, rfl, hq⟩, b2⟩
  have hw2 := b2.size
  have B2 : Hid (Below w.heap.size w w2) := B1.out.trans (b2.mono hw1)
  clear b2 hj1' B1
  have hpk := pickI_bd f ((q.size : Int) + 1) (by omega)
  obtain ⟨r, hr⟩ : ∃ r : Nat, pickI f ((q.size : Int) + 1) = r := Int.eq_ofNat_of_zero_le hpk.1
  have hrq : r ≤ q.size := by omega
  have PK : Hid (∀ wx, Calls Try.prog 14 #[.int .i64 f, .int .i64 ((q.size : Int) + 1)] wx fun e w' => e = .returned (.int .i64 r) ∧ w' = wx) := fun wx => by
    have := pick_any f ((q.size : Int) + 1) wx (by omega) (by omega) (by omega) (by omega)
    rw [hr] at this; exact this
  clear hpk hr
  go_wp2_with fail
  refine (PK.out _).mono ?_
  rintro e w3 ⟨rfl, rfl⟩
  clear PK
  go_wp2_with fail
  refine (ran_any p q 0 w3 HCK.out hp240 hq).mono ?_
  rintro e w4 ⟨hro, b4⟩
  obtain ⟨F, ts, d1, p1, x3, x4, r1, s1, rfl, hst, hprog, ⟨a3, n3, c3, rfl⟩, ⟨a4, n4, c4, rfl⟩, hd1, hp1, hr1⟩ := ran_parts hro
  have hw4 := b4.size
  have B4 : Hid (Below w.heap.size w w4) := B2.out.trans (b4.mono (by omega))
  have E1 : Hid (d1 = ⟨(runU F q.data.toList q.data.toList.length).done.toArray⟩ ∧ p1 = ⟨(runU F q.data.toList q.data.toList.length).c.pr.toArray⟩ ∧ r1 = (runU F q.data.toList q.data.toList.length).race) := ⟨hd1, hp1, hr1⟩
  have HPR : Hid (StepsOf p.data.toList F ∧ Prog p.data.toList F ts) := ⟨hst, hprog⟩
  have htl := take_data q r hrq
  have HTL : Hid ((q.extract 0 r).data.toList = q.data.toList.take r ∧ (q.extract 0 r).data.toList.length = r) := htl
  have hts : (q.extract 0 r).size = r := by rw [← len_eq]; exact htl.2
  have RN : Hid (∀ w' : World, Calls Try.prog 15 #[.string p, .string (q.extract 0 r)] w' fun e w'' => RanOut w' p (q.extract 0 r) e w'' ∧ Below w'.heap.size w' w'') := fun w' => ran_any p (q.extract 0 r) 0 w' HCK.out hp240 (by omega)
  clear hro b4 B2 hd1 hp1 hr1 hst hprog htl
  go_wp2_with fail
  refine (RN.out _).mono ?_
  rintro e w5 ⟨hro, b5⟩
  obtain ⟨G, us, d2, p2, y3, y4, r2, s2, rfl, hst2, hprog2, ⟨a5, n5, c5, rfl⟩, ⟨a6, n6, c6, rfl⟩, hd2, hp2, hr2⟩ := ran_parts hro
  have TW : Two r d1 p1 d2 p2 r1 r2 := by
    obtain ⟨e1, e2, e3⟩ := E1.out
    have hFG := HPR.out.1.unique hst2
    subst hFG
    rw [HTL.out.1, ← HTL.out.1, HTL.out.2, HTL.out.1] at hd2 hp2 hr2
    rw [e1, e2, e3, hd2, hp2, hr2]
    exact two_of HPR.out.2 r hrq hq
  have hw5 : w4.heap.size + 1 ≤ w5.heap.size := by have := b5.size; simp at this; exact this
  have L4 := (Blk.new (w := w4) (l := [.string d1, .string p1, .slice a3 n3 c3, .slice a4 n4 c4, .int .i64 r1, .string s1]) (ty := 36)).chg (chg_of_below b5 []) (by simp)
  have B5 : Hid (Below w.heap.size w w5) := (B4.out.alloc (by omega) _).trans (b5.mono (by simp; omega))
  obtain ⟨⟨dd, hdd⟩, ⟨dp, hdp⟩, hrace, hs1, hs2⟩ := TW
  have HBD : Hid (∀ w' : World, Calls Try.prog 16 #[.string d1, .string d2] w' fun e w'' => e = .returned (.bool true) ∧ w'' = w') := fun w' => begins_any d1 d2 w' dd hdd hs1
  have HBP : Hid (∀ w' : World, Calls Try.prog 16 #[.string p1, .string p2] w' fun e w'' => e = .returned (.bool true) ∧ w'' = w') := fun w' => begins_any p1 p2 w' dp hdp hs2
  have BV : Hid (∀ o, Below w.heap.size w (w5.alloc o)) := fun o => B5.out.alloc (by omega) o
  have hlt5 : w4.heap.size < w5.heap.size := by omega
  have m0 := L4.cell 0 _ rfl
  have m1 := L4.cell 1 _ rfl
  have m4 := L4.cell 4 _ rfl
  clear hro b5 hst2 hprog2 hd2 hp2 hr2 hdd hdp hs1 hs2 L4 RN
  go_wp2_with fail
  refine (HBD.out _).mono ?_
  rintro e w6 ⟨rfl, rfl⟩
  go_wp2_with fail
  refine (HBP.out _).mono ?_
  rintro e w7 ⟨rfl, rfl⟩
  clear HBD HBP
  by_cases hrr : r2 = r1
  · have br : (r2 == r1) = true := by simpa using hrr
    clear hrr hrace
    go_wp2
    go_ret
    exact ⟨rfl, BV.out _⟩
  · obtain ⟨h20, hlt⟩ : r2 = 0 ∧ (r : Int) < r1 := by
      rcases hrace with h | h
      · exact absurd h.symm hrr
      · exact h
    have br : (r2 == r1) = false := by simpa using hrr
    have b0 : (r2 == 0) = true := by simpa using h20
    clear hrr hrace h20
    go_wp2
    go_ret
    exact ⟨by simp, BV.out _⟩

end Go.Proofs.Ytdgkpkdinfklaaa
