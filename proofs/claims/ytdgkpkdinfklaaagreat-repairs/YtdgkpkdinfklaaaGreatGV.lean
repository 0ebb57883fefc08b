import Derived.Test.YtdgkpkdinfklaaaGreatGW
import Derived.Test.YtdgkpkdinfklaaaGreatGK
namespace Go.Proofs.YtdgkpkdinfklaaaGreat
open Go.RowKit

/-! ### Open pairs -/

theorem Tryz.infoIntP : (Tryz.prog.info? 3).map (fun i => (i.zero, i.size, i.bytes)) = some (some (.int .i64 0), 1, 8) := by kernel_rfl

def meetB (f g : Nat → Bool) : Bool := (List.range 5).any fun i => f i && g i
/-- Are two accesses open? -/
def opMK (a b : MK) : Bool := (!meetB (hOf a) (hOf b)) && ((a.thread != b.thread) && ((a.num == b.num) && (a.kind == 2 || b.kind == 2)))

theorem nm_mem (f : Nat → Bool) (k : Nat) (x : UInt8) : x ∈ nm f k ↔ ∃ i, i < k ∧ f i = true ∧ x = UInt8.ofNat (65 + i) := by
  induction k with
  | zero => simp [nm]
  | succ k ih =>
    rw [nm, List.mem_append, ih]
    constructor
    · rintro (⟨i, h1, h2, h3⟩ | h)
      · exact ⟨i, by omega, h2, h3⟩
      · cases hf : f k with
        | true => rw [hf, if_pos rfl, List.mem_singleton] at h; exact ⟨k, by omega, hf, h⟩
        | false => rw [hf, if_neg (by decide)] at h; cases h
    · rintro ⟨i, h1, h2, h3⟩
      by_cases e : i = k
      · subst e; right; rw [h2, if_pos rfl, List.mem_singleton]; exact h3
      · left; exact ⟨i, by omega, h2, h3⟩

theorem inU_mem' {l : List UInt8} {c : UInt8} : inU l c = true ↔ c ∈ l := by simp [inU]

theorem meet_nm (f g : Nat → Bool) : ((nm f 5).any (inU (nm g 5))) = meetB f g := by
  rw [Bool.eq_iff_iff, List.any_eq_true, meetB, List.any_eq_true]
  constructor
  · rintro ⟨x, hx, hy⟩
    rw [nm_mem] at hx
    rw [inU_mem', nm_mem] at hy
    obtain ⟨i, hi, h1, rfl⟩ := hx
    obtain ⟨j, hj, h2, e⟩ := hy
    have e' := congrArg (fun u : UInt8 => (u.toNat : Int)) e
    simp only [ofNat_toNat i hi, ofNat_toNat j hj] at e'
    have : i = j := by omega
    subst this
    exact ⟨i, by simpa using hi, by simp [h1, h2]⟩
  · rintro ⟨i, hi, h⟩
    simp at hi h
    exact ⟨UInt8.ofNat (65 + i), (nm_mem f 5 _).2 ⟨i, hi, h.1, rfl⟩, inU_mem'.2 ((nm_mem g 5 _).2 ⟨i, hi, h.2, rfl⟩)⟩

theorem bool5 : ∀ (R T N A B : Bool), (R && (T && (N && (A || B)))) = false → R = false ∨ (R = true ∧ T = false) ∨ (R = true ∧ T = true ∧ N = false) ∨ (R = true ∧ T = true ∧ N = true ∧ A = false ∧ B = false) := by
  intro R T N A B
  cases R <;> cases T <;> cases N <;> cases A <;> cases B <;> simp

def opAt (l : List MK) (i k : Nat) : Bool := match l[i]?, l[k]? with
  | some a, some b => opMK a b
  | _, _ => false
def prI (l : List MK) (i : Nat) : Nat → List Nat
  | 0 => []
  | c + 1 => prI l i c ++ (if opAt l i (i + 1 + c) then [i, i + 1 + c] else [])
def prL (l : List MK) : Nat → List Nat
  | 0 => []
  | i + 1 => prL l i ++ prI l i (l.length - (i + 1))
def idV (l : List Nat) : List Value := l.map fun (n : Nat) => .int .i64 (n : Int)

theorem prI_len (l : List MK) (i c : Nat) : (prI l i c).length ≤ 2 * c := by
  induction c with
  | zero => exact Nat.le_refl _
  | succ c ih => rw [prI]; split <;> simp <;> omega
theorem prL_len (l : List MK) (i : Nat) (h : l.length ≤ 1000) : (prL l i).length ≤ 2000 * i := by
  induction i with
  | zero => exact Nat.le_refl _
  | succ i ih => have := prI_len l i (l.length - (i + 1)); rw [prL, List.length_append]; omega
set_option maxHeartbeats 400000 in
theorem apart_any (a b : ByteArray) (w : World) (ha : a.size ≤ 100000) (hb : b.size ≤ 100000) :
    Calls Tryz.prog 52 #[.string a, .string b] w fun e w' => e = .returned (.bool (!a.data.toList.any (inU b.data.toList))) ∧ w' = w := by
  obtain ⟨R, hR⟩ : ∃ R, R = !a.data.toList.any (inU b.data.toList) := ⟨_, rfl⟩
  rw [← hR]
  have HRR : Hid (R = !a.data.toList.any (inU b.data.toList)) := hR
  clear hR
  go_enter Tryz.func52, Tryz.ntmps52
  go_wp2
  go_loop [5] (fun i => ∃ k : Nat, k ≤ a.size ∧ i = .int .i64 k ∧ (a.data.toList.take k).any (inU b.data.toList) = false) (fun i => a.size - (intOf i).toNat)
  case atStart => exact ⟨0, Nat.zero_le _, rfl, rfl⟩
  case round =>
    obtain ⟨k, hk, rfl, hr⟩ := hrel
    have HR : Hid ((a.data.toList.take k).any (inU b.data.toList) = false) := hr
    clear hr
    by_cases hlt : k < a.size
    · cases hi : inU b.data.toList a[k] with
      | true =>
        have HF : Hid (R = false) := by
          show R = false
          rw [HRR.out]
          have : a.data.toList.any (inU b.data.toList) = true := by
            rw [List.any_eq_true]
            exact ⟨a[k], by simp [ByteArray.getElem_eq_getElem_data], hi⟩
          rw [this]; rfl
        go_wp2_with fail
        refine (in_any b _ _ (by unfold maxLen; omega)).mono ?_
        rintro e w' ⟨rfl, rfl⟩
        rw [hi]
        go_wp2
        go_ret
        rw [HF.out]; exact ⟨rfl, rfl⟩
      | false =>
        have HN : Hid ((a.data.toList.take (k + 1)).any (inU b.data.toList) = false) := by
          show (a.data.toList.take (k + 1)).any (inU b.data.toList) = false
          rw [take_snoc a k hlt, List.any_append, HR.out]; simpa using hi
        go_wp2_with fail
        refine (in_any b _ _ (by unfold maxLen; omega)).mono ?_
        rintro e w' ⟨rfl, rfl⟩
        rw [hi]
        go_wp2
        go_round
        case rel => exact ⟨k + 1, by omega, by go_num, HN.out⟩
        case measure => simp [intOf]; omega
    · have HF : Hid (R = true) := by
        show R = true
        have : a.data.toList.take k = a.data.toList := List.take_of_length_le (by simp; omega)
        have h := HR.out
        rw [this] at h
        rw [HRR.out, h]; rfl
      go_wp2
      go_ret
      rw [HF.out]; exact ⟨rfl, rfl⟩

/-- What the document says of Pairs: the list in memory. -/
def PairsIs (w w' : World) (s : ByteArray) (v : Value) (a : Int) : Prop :=
  ∃ b, ChkIs s a b ∧ ((a ≠ 0 ∧ v = .slice none 0 0) ∨ (a = 0 ∧ s.size ≤ 240 ∧ ∃ mks x c, Acc s.data.toList mks ∧ mks.length ≤ 1000 ∧ v = .slice x (prL (accL mks) (accL mks).length).length c ∧ w'.ownsRow w.heap.size 3 1 (.slice x (prL (accL mks) (accL mks).length).length c) (prL (accL mks) (accL mks).length).length (idV (prL (accL mks) (accL mks).length))))

theorem accL_len (mks : List MK) : (accL mks).length ≤ mks.length := List.length_filter_le _ _

set_option maxHeartbeats 3200000 in
set_option maxRecDepth 100000 in
theorem refPairs_any (s : ByteArray) (w : World) (hs : s.size ≤ maxLen) :
    Calls Tryz.prog 35 #[.string s] w fun e w' => ∃ v a, e = .returned (.tuple #[v, .int .i64 a]) ∧ PairsIs w w' s v a ∧ Below w.heap.size w w' := by
  obtain ⟨i0, hi0, hz0, hz1, hz2⟩ := info_parts Tryz.infoIntP
  go_enter Tryz.func35, Tryz.ntmps35
  go_wp2_with fail
  refine (refCheck_any s w hs).mono ?_
  rintro e w0 ⟨a, b, rfl, hc, hw0⟩
  rw [hw0]
  clear hw0
  by_cases ha : a = 0
  · subst ha
    have hok : s.size ≤ 240 ∧ ∃ mks, Acc s.data.toList mks := by
      rcases hc with ⟨_, h, _⟩ | ⟨hl, ⟨q, _, h, _⟩ | ⟨m, hm, h, _⟩⟩
      · exact absurd h (by decide)
      · exact absurd h (by decide)
      · exact ⟨hl, m, hm⟩
    obtain ⟨hz, mks, hacc⟩ := hok
    have hcnt := acc_count hacc
    rw [len_eq] at hcnt
    have HC : Hid (ChkIs s 0 b) := hc
    have HA : Hid (Acc s.data.toList mks) := hacc
    clear hc hacc
    go_wp2_with fail
    refine (list_any s mks w hz HA.out).mono ?_
    rintro e w1 ⟨⟨x, c, rfl, hown⟩, hb1⟩
    have HR : Hid (w1.ownsRow w.heap.size 47 5 (.slice x (accL mks).length c) (accL mks).length (accsV (accL mks))) := hown
    have HB1 : Hid (Below w.heap.size w w1) := hb1
    clear hown hb1
    obtain ⟨L, hL⟩ : ∃ L, L = accL mks := ⟨_, rfl⟩
    have hL1 : L.length ≤ 1000 := by have := accL_len mks; rw [hL]; omega
    have HL : Hid (L = accL mks) := hL
    rw [← hL] at HR ⊢
    clear hL
    obtain ⟨n, hn⟩ : ∃ n, n = L.length := ⟨_, rfl⟩
    have HN : Hid (n = L.length) := hn
    rw [← hn] at HR hL1 ⊢
    clear hn
    go_wp2
    go_loopw [7, 8] (fun v iv wr => ∃ i : Nat, i ≤ n ∧ iv = .int .i64 i ∧ wr.ownsRow w1.heap.size 3 1 v (prL L i).length (idV (prL L i)) ∧ Below w1.heap.size w1 wr) (fun _ iv _ => n - (intOf iv).toNat)
    case atStart => exact ⟨0, Nat.zero_le _, rfl, World.ownsRow_nil _ _ _ _, Below.refl _ _⟩
    case round =>
      obtain ⟨i, hi, rfl, hown, hbe⟩ := hrel
      have HO : Hid (wr.ownsRow w1.heap.size 3 1 u7 (prL L i).length (idV (prL L i))) := hown
      have HB : Hid (Below w1.heap.size w1 wr) := hbe
      have hpl := prL_len L i (by rw [← HN.out]; exact hL1)
      clear hown hbe
      by_cases hlt : i < n
      · obtain ⟨ma, hma⟩ : ∃ m, L[i]? = some m := ⟨L[i]'(by rw [← HN.out]; exact hlt), List.getElem?_eq_getElem _⟩
        have HMA : Hid (L[i]? = some ma) := hma
        clear hma
        have hii : decide ((i : Int) < (n : Int)) = true := by simp; omega
        obtain ⟨wa, rfl⟩ : ∃ wa, wa = wr := ⟨_, rfl⟩
        go_wp2
        go_loopw [7, 9] (fun v kv wr => ∃ q : Nat, i + 1 + q ≤ n ∧ kv = .int .i64 (i + 1 + q : Nat) ∧ wr.ownsRow w1.heap.size 3 1 v (prL L i ++ prI L i q).length (idV (prL L i ++ prI L i q)) ∧ Below w1.heap.size w1 wr) (fun _ kv _ => n - (intOf kv).toNat)
        case atStart => exact ⟨0, by omega, by go_num, by simpa [prI] using HO.out, HB.out⟩
        case round =>
          obtain ⟨q, hq, rfl, hown, hbe⟩ := hrel
          obtain ⟨k, hk⟩ : ∃ k, k = i + 1 + q := ⟨_, rfl⟩
          rw [← hk] at hq ⊢
          have HKK : Hid (k = i + 1 + q) := hk
          have HO2 : Hid (wr.ownsRow w1.heap.size 3 1 u7 (prL L i ++ prI L i q).length (idV (prL L i ++ prI L i q))) := hown
          have HB2 : Hid (Below w1.heap.size w1 wr) := hbe
          have hsz := hbe.size
          have hlen : (prL L i ++ prI L i q).length ≤ 3000000 := by
            have := prI_len L i q
            rw [List.length_append]; omega
          clear hown
          by_cases hkn : k < n
          · obtain ⟨mb, hmb⟩ : ∃ m, L[k]? = some m := ⟨L[k]'(by rw [← HN.out]; exact hkn), List.getElem?_eq_getElem _⟩
            have HOP : Hid (opAt L i (i + 1 + q) = opMK ma mb) := by
              show opAt L i (i + 1 + q) = opMK ma mb
              rw [← hk, opAt, HMA.out, hmb]
            have hrow := ownsRow_later HR.out hbe
            obtain ⟨g, cap', hv, _, _⟩ := HR.out.form (by omega)
            cases hv
            have p0 := accAt hrow HN.out i ma HMA.out 0 (by decide) _ rfl
            have p2 := accAt hrow HN.out i ma HMA.out 2 (by decide) _ rfl
            have p3 := accAt hrow HN.out i ma HMA.out 3 (by decide) _ rfl
            have p4 := accAt hrow HN.out i ma HMA.out 4 (by decide) _ rfl
            have r0 := accAt hrow HN.out k mb hmb 0 (by decide) _ rfl
            have r2 := accAt hrow HN.out k mb hmb 2 (by decide) _ rfl
            have r3 := accAt hrow HN.out k mb hmb 3 (by decide) _ rfl
            have r4 := accAt hrow HN.out k mb hmb 4 (by decide) _ rfl
            rw [Nat.add_zero] at p0 r0
            obtain ⟨sa, hsa⟩ : ∃ str : ByteArray, str = ⟨(nm (hOf ma) 5).toArray⟩ := ⟨_, rfl⟩
            obtain ⟨sb, hsb⟩ : ∃ str : ByteArray, str = ⟨(nm (hOf mb) 5).toArray⟩ := ⟨_, rfl⟩
            have hA : (!sa.data.toList.any (inU sb.data.toList)) = !meetB (hOf ma) (hOf mb) := by
              rw [hsa, hsb, ← meet_nm]
            have hsa5 : sa.size ≤ 100000 := by
              have := nm_len (hOf ma) 5
              rw [← len_eq, hsa]; simp; omega
            have hsb5 : sb.size ≤ 100000 := by
              have := nm_len (hOf mb) 5
              rw [← len_eq, hsb]; simp; omega
            rw [← hsa] at p4
            rw [← hsb] at r4
            have HAP : Hid (∀ wx, Calls Tryz.prog 52 #[.string sa, .string sb] wx fun e w' => e = .returned (.bool (!meetB (hOf ma) (hOf mb))) ∧ w' = wx) := by
              intro wx
              have := apart_any sa sb wx hsa5 hsb5
              rw [hA] at this; exact this
            clear hrow hmb hbe hsa hsb hA hsa5 hsb5
            obtain ⟨R, hR⟩ : ∃ R, R = !meetB (hOf ma) (hOf mb) := ⟨_, rfl⟩
            rw [← hR] at HAP
            have HOPE : Hid (opMK ma mb = (R && ((ma.thread != mb.thread) && ((ma.num == mb.num) && (ma.kind == 2 || mb.kind == 2))))) := by
              show opMK ma mb = _
              rw [hR]; rfl
            clear hR
            have hik : i < k := by omega
            clear hk
            have hkn' : (k : Int) < (n : Int) := by omega
            have hin' : (i : Int) < (n : Int) := by omega
            have hkd : decide ((k : Int) < (n : Int)) = true := by simp; omega
            by_cases hop : opMK ma mb = true
            · have hop' := hop
              rw [HOPE.out] at hop'
              simp only [Bool.and_eq_true] at hop'
              obtain ⟨h1, h2, h3, h4⟩ := hop'
              have HPN : Hid (prL L i ++ prI L i (q + 1) = (prL L i ++ prI L i q) ++ [i, k]) := by
                show _ = _
                rw [prI, HOP.out, hop, if_pos rfl, ← HKK.out, List.append_assoc]
              rw [h1] at HAP
              clear hop HOPE h1
              have KC : (ma.kind == 2) = true ∨ ((ma.kind == 2) = false ∧ (mb.kind == 2) = true) := by
                cases hz : (ma.kind == 2) with
                | true => exact .inl rfl
                | false => rw [hz] at h4; exact .inr ⟨rfl, by simpa using h4⟩
              clear h4
              obtain ⟨P, hP⟩ : ∃ P, P = prL L i ++ prI L i q := ⟨_, rfl⟩
              rw [← hP] at HO2 hlen HPN
              clear hP
              have HE1 : Hid (idV (P ++ [i, k]) = idV P ++ [.int .i64 (i : Int), .int .i64 (k : Int)]) := by show _ = _; simp [idV]
              rcases KC with kc | ⟨kc, kd⟩
              all_goals
                go_wp2
                go_quiet ((go_at_call 52; exact Calls.quiet_of_same (HAP.out _)))
                go_wp2
                go_quiet (fail)
                go_wp2_with (at_builtin; refine wpList_append_own _ rfl (.tmp 87) (.tmp 89) 30 rfl w1.heap.size 3 i0 _ 1 8 Tryz.underlying30 hi0 hz0 hz1 hz2 rfl (by decide) u7 P.length (idV P) rfl ((ownsRow_later HO2.out (below_drewN' _ _ _)).alloc _) ⟨wr.heap.size, 0, none⟩ 1 1 [.int .i64 (i : Int)] rfl rfl ?hnews ?h1 ?h63 ?hby ?hbase ?next)
                case hnews => exact World.news_of_block (heap_alloc_new _ _)
                case h1 => intro u hu; simp at hu; subst hu; rfl
                case h63 => unfold maxLen; omega
                case hby => omega
                case hbase => simp; omega
                case next =>
                  intro v1 w2 hown1 hgrow1 _
                  have HO3 : Hid (w2.ownsRow w1.heap.size 3 1 v1 (P.length + 1) (idV P ++ [.int .i64 (i : Int)])) := hown1
                  have HB3 : Hid (Below w1.heap.size w1 w2) := ((HB2.out.trans (below_drewN' _ _ _)).alloc (by simp; omega) _).grown hgrow1 (by simp; omega) (fun q hq => (HO2.out.lt q hq).1)
                  have hsz2 := HB3.out.size
                  clear hown1 hgrow1
                  go_wp2_with (at_builtin; refine wpList_append_own _ rfl (.tmp 91) (.tmp 93) 30 rfl w1.heap.size 3 i0 _ 1 8 Tryz.underlying30 hi0 hz0 hz1 hz2 rfl (by decide) v1 (P.length + 1) (idV P ++ [.int .i64 (i : Int)]) rfl (HO3.out.alloc _) ⟨w2.heap.size, 0, none⟩ 1 1 [.int .i64 (k : Int)] rfl rfl ?hnews ?h1 ?h63 ?hby ?hbase ?next)
                  case hnews => exact World.news_of_block (heap_alloc_new _ _)
                  case h1 => intro u hu; simp at hu; subst hu; rfl
                  case h63 => unfold maxLen; omega
                  case hby => omega
                  case hbase => simp; omega
                  case next =>
                    intro v2 w3 hown2 hgrow2 _
                    have HB4 : Hid (Below w1.heap.size w1 w3) := (HB3.out.alloc (by omega) _).grown hgrow2 (by simp; omega) (fun q hq => (HO3.out.lt q hq).1)
                    have HO4 : Hid (w3.ownsRow w1.heap.size 3 1 v2 (prL L i ++ prI L i (q + 1)).length (idV (prL L i ++ prI L i (q + 1)))) := by
                      show World.ownsRow _ _ _ _ _ _ _
                      rw [HPN.out, HE1.out, List.length_append]
                      exact hown2
                    clear hown2 hgrow2
                    go_wp2
                    have hkk := HKK.out
                    exact ⟨⟨q + 1, by omega, by rw [hkk]; go_num, HO4.out, HB4.out⟩, by simp [intOf]; omega⟩
            · have hop' : opMK ma mb = false := by simpa using hop
              have HPN : Hid (prL L i ++ prI L i (q + 1) = prL L i ++ prI L i q) := by
                show _ = _
                rw [prI, HOP.out, hop']; simp
              rw [HOPE.out] at hop'
              have KC : R = false ∨ (R = true ∧ (ma.thread != mb.thread) = false) ∨ (R = true ∧ (ma.thread != mb.thread) = true ∧ (ma.num == mb.num) = false) ∨ (R = true ∧ (ma.thread != mb.thread) = true ∧ (ma.num == mb.num) = true ∧ (ma.kind == 2) = false ∧ (mb.kind == 2) = false) := by
                exact bool5 _ _ _ _ _ hop'
              clear hop hop' HOPE
              rcases KC with k1 | ⟨k1, k2⟩ | ⟨k1, k2, k3⟩ | ⟨k1, k2, k3, k4, k5⟩
              all_goals
                rw [k1] at HAP
                clear k1
                go_wp2
                go_quiet ((go_at_call 52; exact Calls.quiet_of_same (HAP.out _)))
                go_wp2
                go_quiet (fail)
                go_wp2
                have hkk := HKK.out
                exact ⟨⟨q + 1, by omega, by rw [hkk]; go_num, by rw [HPN.out]; exact ownsRow_later HO2.out (below_drewN' _ _ _), HB2.out.trans (below_drewN' _ _ _)⟩, by simp [intOf]; omega⟩
          · have hqn : q = n - (i + 1) := by omega
            subst hqn
            have HPN : Hid (wr.ownsRow w1.heap.size 3 1 u7 (prL L (i + 1)).length (idV (prL L (i + 1)))) := by
              show World.ownsRow _ _ _ _ _ _ _
              rw [prL, ← HN.out]; exact HO2.out
            clear hbe
            go_wp2
            exact ⟨⟨i + 1, by omega, by go_num, HPN.out, HB2.out⟩, by simp [intOf]; omega⟩
      · have hin : i = n := by omega
        subst hin
        have hform : ∃ a c, u7 = .slice a (prL L i).length c := by
          rcases HO.out.2 with ⟨hv, h0⟩ | ⟨g, cap, cur, hv, _⟩
          · exact ⟨none, 0, by rw [hv, h0]⟩
          · exact ⟨_, _, hv⟩
        obtain ⟨a', c', rfl⟩ := hform
        have HH : Hid (PairsIs w wr s (.slice a' (prL L i).length c') 0) := by
          refine ⟨b, HC.out, .inr ⟨rfl, hz, mks, a', c', HA.out, by omega, ?_, ?_⟩⟩
          · rw [← HL.out, ← HN.out]
          · rw [← HL.out, ← HN.out]; exact ownsRow_lower HO.out HB1.out.size
        have HBF : Hid (Below w.heap.size w wr) := HB1.out.trans (HB.out.mono HB1.out.size)
        go_wp2
        go_ret2
        exact ⟨_, 0, rfl, HH.out, HBF.out⟩
  · have ha' : (a != 0) = true := by simpa using ha
    have HH : Hid (PairsIs w w s (.slice none 0 0) a) := ⟨b, hc, .inl ⟨ha, rfl⟩⟩
    clear hc ha
    go_wp2
    go_ret2
    exact ⟨_, a, rfl, HH.out, Below.refl _ _⟩

end Go.Proofs.YtdgkpkdinfklaaaGreat

namespace Go.Proofs.YtdgkpkdinfklaaaGreat
open Go.RowKit

def hOfT (s : ST) : Nat → Bool
  | 0 => s.h0
  | 1 => s.h1
  | 2 => s.h2
  | 3 => s.h3
  | _ => s.h4
theorem hOfT_mk (s : ST) : hOfT s = hOf (mkAcc s) := by
  funext i
  match i with
  | 0 => rfl
  | 1 => rfl
  | 2 => rfl
  | 3 => rfl
  | _ + 4 => rfl

/-- The accesses among the steps. -/
def accS (F : List ST) : List ST := F.filter fun s => s.kind == 1 || s.kind == 2
theorem accS_mks (F : List ST) : accL (mksS F) = (accS F).map mkAcc := by
  induction F with
  | nil => rfl
  | cons s r ih =>
    have hc : mksS (s :: r) = (match mkS s with | some m => [m] | none => []) ++ mksS r := by
      rw [mksS, List.filterMap_cons]
      cases mkS s <;> rfl
    rw [hc, accL, List.filter_append]
    have ih' : List.filter isAcc (mksS r) = (accS r).map mkAcc := ih
    rw [ih']
    by_cases h6 : s.kind = 6
    · have h12 : (s.kind == 1 || s.kind == 2) = false := by simp; omega
      have : accS (s :: r) = accS r := by rw [accS, List.filter_cons]; simp only [h12]; rfl
      rw [this]
      simp [mkS, h6, isAcc]
    · by_cases h1 : s.kind = 1 ∨ s.kind = 2
      · have h12 : (s.kind == 1 || s.kind == 2) = true := by simpa using h1
        have h3 : s.kind ≠ 3 := by omega
        have : accS (s :: r) = s :: accS r := by rw [accS, List.filter_cons]; simp only [h12]; rfl
        rw [this]
        simp [mkS, h6, h1, isAcc, h3, mkAcc, List.filter_cons]
      · have h12 : (s.kind == 1 || s.kind == 2) = false := by simpa using h1
        have : accS (s :: r) = accS r := by rw [accS, List.filter_cons]; simp only [h12]; rfl
        rw [this]
        simp [mkS, h6, h1]
theorem accS_snoc {F : List ST} {k : Nat} {m : ST} (h : F[k]? = some m) : accS (F.take (k + 1)) = accS (F.take k) ++ (if (m.kind == 1 || m.kind == 2) = true then [m] else []) := by
  obtain ⟨hk, rfl⟩ := List.getElem?_eq_some_iff.1 h
  rw [List.take_succ_eq_append_getElem hk, accS, List.filter_append]
  congr 1
  rw [List.filter_cons, List.filter_nil]

set_option maxHeartbeats 800000 in
theorem conflict_any (a b : ST) (w : World) :
    Calls Tryz.prog 96 #[.agg #[.int .i64 a.kind, .int .i64 a.place, .int .i64 a.thread, .int .i64 a.num, .bool a.mend, .int .i64 a.nx, .int .i64 a.el, .bool a.h0, .bool a.h1, .bool a.h2, .bool a.h3, .bool a.h4], .agg #[.int .i64 b.kind, .int .i64 b.place, .int .i64 b.thread, .int .i64 b.num, .bool b.mend, .int .i64 b.nx, .int .i64 b.el, .bool b.h0, .bool b.h1, .bool b.h2, .bool b.h3, .bool b.h4]] w fun e w' => e = .returned (.bool ((a.thread != b.thread) && ((a.num == b.num) && (a.kind == 2 || b.kind == 2)))) ∧ Below w.heap.size w w' := by
  have B1 : Hid (∀ o o', Below w.heap.size w ((w.alloc o).alloc o')) := fun o o' => ((Below.refl _ _).alloc (Nat.le_refl _) o).alloc (by simp) o'
  go_enter Tryz.func96, Tryz.ntmps96
  by_cases ht : a.thread = b.thread
  · have h1 : (a.thread == b.thread) = true := by simpa using ht
    have h2 : (a.thread != b.thread) = false := by simpa using ht
    rw [h2]
    clear ht
    go_wp2
    go_ret
    exact ⟨rfl, B1.out _ _⟩
  · have h1 : (a.thread == b.thread) = false := by simpa using ht
    have h2 : (a.thread != b.thread) = true := by simpa using ht
    rw [h2]
    clear ht
    by_cases hn : a.num = b.num
    · have h3 : (a.num != b.num) = false := by simpa using hn
      have h4 : (a.num == b.num) = true := by simpa using hn
      rw [h4]
      clear hn
      cases hk : (a.kind == 2) with
      | true =>
        go_wp2
        go_ret
        exact ⟨rfl, B1.out _ _⟩
      | false =>
        go_wp2
        go_ret
        exact ⟨rfl, B1.out _ _⟩
    · have h3 : (a.num != b.num) = true := by simpa using hn
      have h4 : (a.num == b.num) = false := by simpa using hn
      rw [h4]
      clear hn
      go_wp2
      go_ret
      exact ⟨rfl, B1.out _ _⟩

set_option maxHeartbeats 1600000 in
theorem open_any (a b : ST) (w : World) :
    Calls Tryz.prog 72 #[.agg #[.int .i64 a.kind, .int .i64 a.place, .int .i64 a.thread, .int .i64 a.num, .bool a.mend, .int .i64 a.nx, .int .i64 a.el, .bool a.h0, .bool a.h1, .bool a.h2, .bool a.h3, .bool a.h4], .agg #[.int .i64 b.kind, .int .i64 b.place, .int .i64 b.thread, .int .i64 b.num, .bool b.mend, .int .i64 b.nx, .int .i64 b.el, .bool b.h0, .bool b.h1, .bool b.h2, .bool b.h3, .bool b.h4]] w fun e w' => e = .returned (.bool (opMK (mkAcc a) (mkAcc b))) ∧ Below w.heap.size w w' := by
  have B1 : Hid (∀ o o', Below w.heap.size w ((w.alloc o).alloc o')) := fun o o' => ((Below.refl _ _).alloc (Nat.le_refl _) o).alloc (by simp) o'
  obtain ⟨C, hC⟩ : ∃ C, C = ((a.thread != b.thread) && ((a.num == b.num) && (a.kind == 2 || b.kind == 2))) := ⟨_, rfl⟩
  have HR : Hid (opMK (mkAcc a) (mkAcc b) = (!meetB (hOfT a) (hOfT b) && C)) := by
    show _ = _
    rw [hC, hOfT_mk, hOfT_mk]; rfl
  obtain ⟨R, hR⟩ : ∃ R, R = opMK (mkAcc a) (mkAcc b) := ⟨_, rfl⟩
  rw [← hR] at HR ⊢
  have HC : Hid (∀ wx, Calls Tryz.prog 96 #[.agg #[.int .i64 a.kind, .int .i64 a.place, .int .i64 a.thread, .int .i64 a.num, .bool a.mend, .int .i64 a.nx, .int .i64 a.el, .bool a.h0, .bool a.h1, .bool a.h2, .bool a.h3, .bool a.h4], .agg #[.int .i64 b.kind, .int .i64 b.place, .int .i64 b.thread, .int .i64 b.num, .bool b.mend, .int .i64 b.nx, .int .i64 b.el, .bool b.h0, .bool b.h1, .bool b.h2, .bool b.h3, .bool b.h4]] wx fun e w' => e = .returned (.bool C) ∧ Below wx.heap.size wx w') := by
    intro wx
    rw [hC]; exact conflict_any a b wx
  clear hC hR
  have HBa : Hid (∀ o o', Blk ((w.alloc (.cells #[.int .i64 a.kind, .int .i64 a.place, .int .i64 a.thread, .int .i64 a.num, .bool a.mend, .int .i64 a.nx, .int .i64 a.el, .bool a.h0, .bool a.h1, .bool a.h2, .bool a.h3, .bool a.h4] o)).alloc o') w.heap.size (stV a) o) := fun o o' => Blk.alloc (heap_alloc_new _ _) _
  have HBb : Hid (∀ o o', Blk ((w.alloc o).alloc (.cells #[.int .i64 b.kind, .int .i64 b.place, .int .i64 b.thread, .int .i64 b.num, .bool b.mend, .int .i64 b.nx, .int .i64 b.el, .bool b.h0, .bool b.h1, .bool b.h2, .bool b.h3, .bool b.h4] o')) (w.heap.size + 1) (stV b) o') := fun o o' => by
    have e : (w.alloc o).heap.size = w.heap.size + 1 := by simp
    rw [← e]; exact heap_alloc_new _ _
  go_enter Tryz.func72, Tryz.ntmps72
  go_wp2_with fail
  refine (HC.out _).mono ?_
  rintro e w1 ⟨rfl, hb1⟩
  have hba := (HBa.out _ _).chg (chg_of_below hb1 []) (by simp)
  have hbb := (HBb.out _ _).chg (chg_of_below hb1 []) (by simp)
  have HA : Hid (Blk w1 w.heap.size (stV a) 88) := hba
  have HB : Hid (Blk w1 (w.heap.size + 1) (stV b) 88) := hbb
  have HW : Hid (Below w.heap.size w w1) := (B1.out _ _).trans (hb1.mono (by simp; omega))
  clear hba hbb hb1
  cases C with
  | false =>
    go_wp2
    go_ret
    refine ⟨?_, HW.out⟩
    rw [HR.out]; simp
  | true =>
    go_wp2
    go_loopw [5] (fun iv wr => ∃ (i q : Nat), i ≤ 5 ∧ iv = .int .i64 i ∧ wr = w1.drewN q ∧ ((List.range i).any fun i => hOfT a i && hOfT b i) = false) (fun iv _ => 5 - (intOf iv).toNat)
    case atStart => exact ⟨0, 0, by omega, rfl, rfl, rfl⟩
    case round =>
      obtain ⟨i, q, hi, rfl, rfl, hno⟩ := hrel
      have HNO : Hid (((List.range i).any fun i => hOfT a i && hOfT b i) = false) := hno
      clear hno
      by_cases hi5 : i < 5
      · have ca : w1.cell? ⟨w.heap.size, 7 + i, none⟩ = some (.bool (hOfT a i)) := by
          refine HA.out.cell (7 + i) _ ?_
          have : i = 0 ∨ i = 1 ∨ i = 2 ∨ i = 3 ∨ i = 4 := by omega
          rcases this with rfl | rfl | rfl | rfl | rfl <;> rfl
        have cb : w1.cell? ⟨w.heap.size + 1, 7 + i, none⟩ = some (.bool (hOfT b i)) := by
          refine HB.out.cell (7 + i) _ ?_
          have : i = 0 ∨ i = 1 ∨ i = 2 ∨ i = 3 ∨ i = 4 := by omega
          rcases this with rfl | rfl | rfl | rfl | rfl <;> rfl
        have HSN : Hid (((List.range (i + 1)).any fun i => hOfT a i && hOfT b i) = (hOfT a i && hOfT b i)) := by
          show _ = _
          rw [List.range_succ, List.any_append, HNO.out]; simp
        have hi5' : (i : Int) < 5 := by omega
        cases h1 : hOfT a i with
        | false =>
          rw [h1] at ca HSN
          have HN2 : Hid (((List.range (i + 1)).any fun i => hOfT a i && hOfT b i) = false) := by
            show _ = _
            rw [HSN.out]; rfl
          clear h1 HSN
          go_wp2
          exact ⟨⟨i + 1, q, by omega, by go_num, rfl, HN2.out⟩, by simp [intOf]; omega⟩
        | true =>
          cases h2 : hOfT b i with
          | false =>
            rw [h1, h2] at HSN
            rw [h1] at ca
            rw [h2] at cb
            have HN2 : Hid (((List.range (i + 1)).any fun i => hOfT a i && hOfT b i) = false) := by
              show _ = _
              rw [HSN.out]; rfl
            clear h1 h2 HSN
            go_wp2
            exact ⟨⟨i + 1, q, by omega, by go_num, rfl, HN2.out⟩, by simp [intOf]; omega⟩
          | true =>
            have HT : Hid (meetB (hOfT a) (hOfT b) = true) := by
              show _ = _
              rw [meetB, List.any_eq_true]
              exact ⟨i, by simpa using hi5, by rw [h1, h2]; rfl⟩
            rw [h1] at ca
            rw [h2] at cb
            clear h1 h2 HSN
            go_wp2
            go_ret
            refine ⟨?_, HW.out.trans (below_drewN' _ _ _)⟩
            rw [HR.out, HT.out]; rfl
      · have hi' : i = 5 := by omega
        subst hi'
        go_wp2
        go_ret
        refine ⟨?_, HW.out.trans (below_drewN' _ _ _)⟩
        rw [HR.out, meetB, HNO.out]; rfl

end Go.Proofs.YtdgkpkdinfklaaaGreat
