/- The law of shares walked. -/
import Derived.Test.YtjcehjnkdnclbaaDd
namespace Go.Proofs.Ytjcehjnkdnclbaa.Dc
open Go.ChangeShapes Go.WideShapes Go.ChangeAt Go.RowKit
open Go.Proofs.Ytjcehjnkdnclbaa.Lists Go.Proofs.Ytjcehjnkdnclbaa.Al Go.Proofs.Ytjcehjnkdnclbaa.Rd Go.Proofs.Ytjcehjnkdnclbaa.Se Go.Proofs.Ytjcehjnkdnclbaa.Os

theorem drop_below {f : Nat} {v : Value} {num den : Int} {w : World} {r : Value} (h : Calls Try.prog f #[v, .int .i64 num, .int .i64 den] w fun e w' => e = .returned r ∧ ∃ m, w' = w.drewN m) : Calls Try.prog f #[v, .int .i64 num, .int .i64 den] w fun e w' => e = .returned r ∧ Below w.heap.size w w' := h.mono (by
    rintro e w' ⟨rfl, m, rfl⟩
    exact ⟨rfl, Rd.below_drewN (Below.refl _ _) m⟩)
def okH (L : List Int) (num den : Int) : Bool := okS L && inn den 1 1000 && inn num 1 den
def shv (L : List Int) (num den : Int) : Int := if okH L num den then (srt L).getD ((few num L.length den).toNat - 1) 0 else 0
theorem sshare_any (L : List Int) (num den : Int) (v : Value) (w : World) (hL : Lists.Reads w v L) (hf : L.length < 9223372036854775808) :
    Calls Try.prog 6 #[v, .int .i64 num, .int .i64 den] w fun e w' => e = .returned (.tuple #[.int .i64 (shv L num den), .bool (okH L num den)]) ∧ Below w.heap.size w w' := by
  unfold shv okH
  cases h0 : okS L
  · exact drop_below (sshare_no0 L num den v w hL hf h0)
  · cases h1 : inn den 1 1000
    · exact drop_below (sshare_no1 L num den v w hL hf h0 h1)
    · cases h2 : inn num 1 den
      · exact drop_below (sshare_no2 L num den v w hL hf h0 h1 h2)
      · have e1 := (inn_iff _ _ _).1 h1
        have e2 := (inn_iff _ _ _).1 h2
        obtain ⟨l1, l2, _⟩ := okS_parts h0
        have fb := few_bd (n := (L.length : Int)) e2.1 e2.2 (by omega)
        have hk : ((few num L.length den).toNat : Int) = few num L.length den := by omega
        have hs := stat_srt L (few num L.length den).toNat (by omega) (by omega)
        rw [hk] at hs
        exact drop_below (sshare_yes L num den _ v w hL hf h0 h1 h2 (few num L.length den) (fun c _ _ => few_iff e2.1 e2.2 (by omega) c) hs)
theorem ishare_any (L : List Int) (num den : Int) (v : Value) (w : World) (hL : Lists.Reads w v L) (hf : L.length < 9223372036854775808) :
    Calls Try.prog 7 #[v, .int .i64 num, .int .i64 den] w fun e w' => e = .returned (.tuple #[.int .i64 (shv L num den), .bool (okH L num den)]) ∧ Below w.heap.size w w' := by
  unfold shv okH
  cases h0 : okS L
  · exact drop_below (ishare_no0 L num den v w hL hf h0)
  · cases h1 : inn den 1 1000
    · exact drop_below (ishare_no1 L num den v w hL hf h0 h1)
    · cases h2 : inn num 1 den
      · exact drop_below (ishare_no2 L num den v w hL hf h0 h1 h2)
      · exact ishare_yes L num den v w hL hf h0 h1 h2
theorem srt_getD {L : List Int} {i j : Nat} (hj : j < L.length) (hij : i ≤ j) : (srt L).getD i 0 ≤ (srt L).getD j 0 := by
  have hj' : j < (srt L).length := by rw [srt_len]; exact hj
  have := srt_up L i j hj' hij
  simpa [List.getD_eq_getElem?_getD, hj', show i < (srt L).length by omega] using this
theorem srt_low {L : List Int} (h : okS L = true) {j : Nat} (hj : j < L.length) : -100001 ≤ (srt L).getD j 0 := by
  have hj' : j < (srt L).length := by rw [srt_len]; exact hj
  have hm : (srt L)[j] ∈ L := (srt_perm L).mem_iff.1 (List.getElem_mem hj')
  obtain ⟨_, _, hz⟩ := okS_parts h
  obtain ⟨i, hi, e⟩ := List.getElem_of_mem hm
  have := hz i hi
  simp [List.getD_eq_getElem?_getD, hi] at this
  simp [List.getD_eq_getElem?_getD, hj']
  omega

set_option maxHeartbeats 2000000 in
theorem sharesLaw (a : Option Addr) (len cap : Nat) (w : World) (hc : Go.Proofs.Ytjcehjnkdnclbaa.Rd.Code w a len cap) (hn : len < 9223372036854775808) : Calls Try.prog 3 #[.slice a len cap] w fun e w' => e = .returned (.bool true) ∧ Below w.heap.size w w' := by
  by_cases hl : 1048576 < len
  · have C : Hid (Calls Try.prog 4 #[.slice a len cap] w fun e w' => e = .returned (.bool true) ∧ w' = w) := big_yes a len cap w hl hn
    clear hc
    go_enter Try.func3, Try.ntmps3
    go_wp2_with fail
    refine C.out.mono ?_
    rintro e w1 ⟨rfl, hw⟩
    subst hw
    go_wp2_with fail
    go_ret
    exact ⟨rfl, Below.refl _ _⟩
  have C : Hid (Calls Try.prog 4 #[.slice a len cap] w fun e w' => e = .returned (.bool false) ∧ w' = w) := big_no a len cap w (by omega)
  have D : Hid (Calls Try.prog 5 #[.slice a len cap] w fun e w' => ∃ v L, ∃ x y : Int, e = .returned (.tuple #[v, .int .i64 x, .int .i64 y]) ∧ Lists.Reads w' v L ∧ L.length ≤ 501 ∧ Below w.heap.size w w') := share_any a len cap w hc (by omega)
  clear hc
  go_enter Try.func3, Try.ntmps3
  go_wp2_with fail
  refine C.out.mono ?_
  rintro e w1 ⟨rfl, hw⟩
  have hw' := hw.symm
  subst hw'
  clear hw
  go_wp2_with fail
  refine D.out.mono ?_
  rintro e w1 ⟨v, L, num, den, rfl, h1, h2, h3⟩
  have B1 : Hid (Below w.heap.size w w1) := h3
  have SA : Hid (Calls Try.prog 6 #[v, .int .i64 num, .int .i64 den] w1 fun e w' => e = .returned (.tuple #[.int .i64 (shv L num den), .bool (okH L num den)]) ∧ Below w1.heap.size w1 w') := sshare_any L num den v w1 h1 (by omega)
  have IA : Hid (∀ w', Below w1.heap.size w1 w' → Calls Try.prog 7 #[v, .int .i64 num, .int .i64 den] w' fun e w'' => e = .returned (.tuple #[.int .i64 (shv L num den), .bool (okH L num den)]) ∧ Below w'.heap.size w' w'') := fun w' hb => ishare_any L num den v w' (h1.on hb) (by omega)
  have IS : Hid (okS L = true → ∀ (k : Nat) w', 1 ≤ k → k ≤ L.length → Below w1.heap.size w1 w' → Calls Try.prog 8 #[v, .int .i64 (k : Int)] w' fun e w'' => e = .returned (.tuple #[.int .i64 ((srt L).getD (k - 1) 0), .bool true]) ∧ Below w'.heap.size w' w'') := fun ho k w' k1 k2 hb => istat_yes L k v w' (h1.on hb) (by omega) ho (by rw [inn_iff]; omega)
  obtain ⟨sa, sb, rfl⟩ := h1.form
  cases ho : okH L num den
  · rw [ho] at SA IA
    clear h1 h3 C D IS
    generalize shv L num den = rr at *
    generalize L.length = n at *
    go_wp2_with fail
    refine SA.out.mono ?_
    rintro e w2 ⟨rfl, b2⟩
    have B2 : Hid (Below w1.heap.size w1 w2) := b2
    clear b2
    go_wp2_with fail
    refine (IA.out w2 B2.out).mono ?_
    rintro e w3 ⟨rfl, b3⟩
    have B3 : Hid (Below w.heap.size w w3) := B1.out.trans ((B2.out.trans (b3.mono B2.out.size)).mono B1.out.size)
    clear b3
    go_wp2_with fail
    go_ret
    exact ⟨rfl, B3.out⟩
  · have es : shv L num den = (srt L).getD ((few num L.length den).toNat - 1) 0 := by unfold shv; rw [if_pos ho]
    rw [ho] at SA IA
    unfold okH at ho
    rw [Bool.and_eq_true, Bool.and_eq_true, inn_iff, inn_iff] at ho
    obtain ⟨⟨o1, o2, o3⟩, o4, o5⟩ := ho
    obtain ⟨l1, l2, _⟩ := okS_parts o1
    have fb := few_bd (n := (L.length : Int)) o4 o5 (by omega)
    have HI : Hid (∀ c : Int, num * (L.length : Int) ≤ c * den ↔ few num L.length den ≤ c) := fun c => few_iff o4 o5 (by omega) c
    obtain ⟨F, hF⟩ : ∃ F : Nat, few num L.length den = (F : Int) := ⟨(few num L.length den).toNat, by omega⟩
    rw [hF] at fb HI es
    have IS2 : Hid (∀ (k : Nat) w', 1 ≤ k → k ≤ L.length → Below w1.heap.size w1 w' → Calls Try.prog 8 #[.slice sa L.length sb, .int .i64 (k : Int)] w' fun e w'' => e = .returned (.tuple #[.int .i64 ((srt L).getD (k - 1) 0), .bool true]) ∧ Below w'.heap.size w' w'') := IS.out o1
    have SLO : Hid (∀ j, j < L.length → -100001 ≤ (srt L).getD j 0) := fun j hj => srt_low o1 hj
    have SUP : Hid (∀ i j, j < L.length → i ≤ j → (srt L).getD i 0 ≤ (srt L).getD j 0) := fun i j hj hij => srt_getD hj hij
    have ES : Hid (shv L num den = (srt L).getD (F - 1) 0) := (by show _ = _; rw [es]; rfl)
    have MB : Hid (∀ k : Int, 0 ≤ k → k ≤ 60 → (IntKind.i64.wrap (k * den) = k * den)) := fun k k1 k2 => IntWalk.i64_in _ (by
      have := Int.mul_le_mul k2 o3 (by omega) (by omega)
      have := Int.mul_nonneg k1 (show 0 ≤ den by omega)
      omega)
    have NB : IntKind.i64.wrap (num * (L.length : Int)) = num * (L.length : Int) := IntWalk.i64_in _ (by
      have := Int.mul_le_mul (show num ≤ 1000 by omega) (show (L.length : Int) ≤ 500 by omega) (by omega) (by omega)
      have := Int.mul_nonneg (show 0 ≤ num by omega) (show 0 ≤ (L.length : Int) by omega)
      omega)
    have NB2 : wrap64 (num * (L.length : Int)) = num * (L.length : Int) := (IntWalk.i64_left _).symm.trans NB
    clear h1 h3 C D IS es hF
    generalize shv L num den = rr at *
    generalize L.length = n at *
    go_wp2_with fail
    refine SA.out.mono ?_
    rintro e w2 ⟨rfl, b2⟩
    have B2 : Hid (Below w1.heap.size w1 w2) := b2
    clear b2
    go_wp2_with fail
    refine (IA.out w2 B2.out).mono ?_
    rintro e w3 ⟨rfl, b3⟩
    have B3 : Hid (Below w1.heap.size w1 w3) := B2.out.trans (b3.mono B2.out.size)
    clear b3
    go_wp2_with fail
    go_loopw [10, 11, 12] (fun q f i wr => ∃ (k : Nat) (y : Int), 1 ≤ k ∧ k ≤ n + 1 ∧ k ≤ 61 ∧ i = .int .i64 k ∧ q = .int .i64 y ∧ f = .bool (decide (F < k)) ∧ Hid (∀ j, k ≤ j + 1 → j < n → y ≤ (srt L).getD j 0) ∧ Hid (Below w1.heap.size w1 wr)) (fun _ _ i _ => 61 - (intOf i).toNat)
    case atStart => exact ⟨1, -100001, by omega, by omega, by omega, rfl, rfl, by rw [decide_eq_false (by omega)], fun j _ hj => SLO.out j hj, B3⟩
    case round =>
      obtain ⟨k, y, hk1, hkn, hk60, rfl, rfl, rfl, HY, BR⟩ := hrel
      by_cases hlt : k ≤ n
      · by_cases h60 : k ≤ 60
        · have i1 : (k : Int) ≤ (n : Int) := by omega
          have i2 : (k : Int) ≤ 60 := by omega
          have K1 := MB.out k (by omega) i2
          have K2 : wrap64 ((k : Int) * den) = (k : Int) * den := (IntWalk.i64_left _).symm.trans K1
          have yl : ¬ (srt L).getD (k - 1) 0 < y := by have := HY.out (k - 1) (by omega) (by omega); omega
          have HN2 : Hid (∀ j, k + 1 ≤ j + 1 → j < n → (srt L).getD (k - 1) 0 ≤ (srt L).getD j 0) := fun j h1 h2 => SUP.out (k - 1) j h2 (by omega)
          have hI := HI.out (k : Int)
          have CC : Hid (Calls Try.prog 8 #[.slice sa n sb, .int .i64 (k : Int)] wr fun e w'' => e = .returned (.tuple #[.int .i64 ((srt L).getD (k - 1) 0), .bool true]) ∧ Below wr.heap.size wr w'') := IS2.out k wr hk1 hlt BR.out
          by_cases c1 : F < k
          · have d1 : decide (F < k) = true := decide_eq_true c1
            have d2 : decide (F < k + 1) = true := decide_eq_true (by omega)
            rw [d1]
            clear hI K1 K2 d1
            generalize (srt L).getD (k - 1) 0 = z at *
            go_wp2_with fail
            refine CC.out.mono ?_
            rintro e w4 ⟨rfl, b4⟩
            have B4 : Hid (Below w1.heap.size w1 w4) := BR.out.trans (b4.mono BR.out.size)
            clear b4
            go_wp2_with fail
            go_roundw
            case rel => exact ⟨k + 1, z, by omega, by omega, by omega, by go_num, rfl, by rw [d2], HN2, B4⟩
            case measure => simp [intOf]; omega
          · have d1 : decide (F < k) = false := decide_eq_false c1
            rw [d1]
            by_cases c2 : F = k
            · have d2 : decide (F < k + 1) = true := decide_eq_true (by omega)
              have g1 : num * (n : Int) ≤ (k : Int) * den := hI.2 (by omega)
              have ez : rr = (srt L).getD (k - 1) 0 := by rw [ES.out, c2]
              rw [ez]
              clear hI d1 ez
              generalize (srt L).getD (k - 1) 0 = z at *
              go_wp2_with fail
              refine CC.out.mono ?_
              rintro e w4 ⟨rfl, b4⟩
              have B4 : Hid (Below w1.heap.size w1 w4) := BR.out.trans (b4.mono BR.out.size)
              clear b4
              go_wp2_with fail
              go_roundw
              case rel => exact ⟨k + 1, z, by omega, by omega, by omega, by go_num, rfl, by rw [d2], HN2, B4⟩
              case measure => simp [intOf]; omega
            · have d2 : decide (F < k + 1) = false := decide_eq_false (by omega)
              have g1 : ¬ num * (n : Int) ≤ (k : Int) * den := fun h => by have := hI.1 h; omega
              clear hI d1
              generalize (srt L).getD (k - 1) 0 = z at *
              go_wp2_with fail
              refine CC.out.mono ?_
              rintro e w4 ⟨rfl, b4⟩
              have B4 : Hid (Below w1.heap.size w1 w4) := BR.out.trans (b4.mono BR.out.size)
              clear b4
              go_wp2_with fail
              go_roundw
              case rel => exact ⟨k + 1, z, by omega, by omega, by omega, by go_num, rfl, by rw [d2], HN2, B4⟩
              case measure => simp [intOf]; omega
        · have i1 : (k : Int) ≤ (n : Int) := by omega
          have i2 : ¬ (k : Int) ≤ 60 := by omega
          go_wp2_with fail
          go_ret
          exact ⟨rfl, B1.out.trans (BR.out.mono B1.out.size)⟩
      · have i1 : ¬ (k : Int) ≤ (n : Int) := by omega
        go_wp2_with fail
        go_ret
        exact ⟨rfl, B1.out.trans (BR.out.mono B1.out.size)⟩
end Go.Proofs.Ytjcehjnkdnclbaa.Dc
