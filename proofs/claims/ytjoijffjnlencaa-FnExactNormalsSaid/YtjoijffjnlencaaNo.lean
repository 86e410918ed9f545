/- Normals: plainly; the program. -/
import Derived.Test.YtjoijffjnlencaaSe
import Derived.Test.YtjoijffjnlencaaLlM
import Derived.Deep.RegionWith
import Derived.Deep.RegionHeld3
namespace Go.Proofs.Ytjoijffjnlencaa.No
open Go.ChangeShapes Go.WideShapes Go.ChangeAt Go.RowKit
open Go.Proofs.Ytjoijffjnlencaa.Lists Go.Proofs.Ytjoijffjnlencaa.Al Go.Proofs.Ytjoijffjnlencaa.Su Go.Proofs.Ytjoijffjnlencaa.Se Go.Proofs.Ytjoijffjnlencaa.Ll

theorem below_drewN {B : Nat} {a w : World} (h : Below B a w) (n : Nat) : Below B a (w.drewN n) := h.trans ⟨rfl, rfl, rfl, Nat.le_refl _, fun _ _ => rfl⟩
def cs (L : Ls) (k c : Nat) : Int := sm c fun i => (cl L i).getD k 0
def nv (s n : Int) : Int := if n < 2 * (s % n) ∨ (2 * (s % n) = n ∧ ¬ (s / n).tmod 2 = 0) then s / n + 1 else s / n
def ok1 (L : Ls) (i : Nat) : Bool := okS (cl L i) && ((cl L i).length == (cl L 0).length)
def okY (L : Ls) : Bool := inn L.length 1 100 && (List.range L.length).all (ok1 L)
theorem okY_parts {L : Ls} (h : okY L = true) : 1 ≤ L.length ∧ L.length ≤ 100 ∧ ∀ i, i < L.length → okS (cl L i) = true ∧ (cl L i).length = (cl L 0).length := by
  unfold okY at h
  rw [Bool.and_eq_true, inn_iff] at h
  refine ⟨by omega, by omega, fun i hi => ?_⟩
  have := List.all_eq_true.1 h.2 i (List.mem_range.2 hi)
  unfold ok1 at this
  rw [Bool.and_eq_true] at this
  exact ⟨this.1, by simpa using this.2⟩
theorem okY_len {L : Ls} (h : inn L.length 1 100 = false) : okY L = false := by unfold okY; rw [h]; rfl
theorem okY_no {L : Ls} {i : Nat} (hi : i < L.length) (h : ok1 L i = false) : okY L = false := by
  unfold okY
  have : (List.range L.length).all (ok1 L) = false := by
    rw [List.all_eq_false]
    exact ⟨i, List.mem_range.2 hi, by rw [h]; simp⟩
  rw [this, Bool.and_false]
theorem okY_yes {L : Ls} (h : inn L.length 1 100 = true) (ha : ∀ i, i < L.length → ok1 L i = true) : okY L = true := by
  unfold okY
  rw [h, Bool.true_and, List.all_eq_true]
  exact fun i hi => ha i (List.mem_range.1 hi)
def nl (L : Ls) (k : Nat) : Int := nv (cs L k L.length) L.length
def fn (f : Nat → Int) (m k : Nat) : List Int := (List.range m).map fun i => if i < k then f i else 0
theorem fn_len (f : Nat → Int) (m k : Nat) : (fn f m k).length = m := by simp [fn]
theorem fn_set (f : Nat → Int) (m k : Nat) : (fn f m k).set k (f k) = fn f m (k + 1) := by
  apply List.ext_getElem?
  intro i
  rw [List.getElem?_set]
  simp only [fn, List.length_map, List.length_range, List.getElem?_map]
  by_cases hm : i < m
  · rw [List.getElem?_range hm]
    by_cases e : k = i
    · subst e; simp [hm]
    · rw [if_neg e]
      by_cases e2 : i < k
      · simp [e2, show i < k + 1 by omega]
      · simp [e2, show ¬ i < k + 1 by omega]
  · rw [List.getElem?_eq_none (by simp; omega)]
    by_cases e : k = i
    · subst e; simp [hm]
    · simp [e]
theorem zeros_made (f : Nat → Int) (n : Nat) : (madeCells (Value.int .i64 0).cells (n * 1)).toList = ints (fn f n 0) := by
  apply List.ext_getElem
  · simp [madeCells, ints, fn]
  · intro i h1 h2
    simp [madeCells, ints, Value.cells, Nat.mod_one, fn]
theorem cs_bd {L : Ls} (h : okY L = true) (k c : Nat) (hc : c ≤ L.length) (hk : k < (cl L 0).length) : -10000000 ≤ cs L k c ∧ cs L k c ≤ 10000000 := by
  obtain ⟨_, l2, hz⟩ := okY_parts h
  have := sm_bound (n := L.length) (f := fun i => (cl L i).getD k 0) (M := 100000) (fun i hi => by
    obtain ⟨a, b⟩ := hz i hi
    exact (okS_parts a).2.2 k (by rw [b]; exact hk)) c hc
  unfold cs
  omega
theorem mod_any (a b : Int) (w : World) (hb : 1 ≤ b ∧ b ≤ 1000) : Calls Try.prog 23 #[.int .i64 a, .int .i64 b] w fun e w' => e = .returned (.int .i64 (a % b)) ∧ w' = w := by
  have g0 : ¬ b = 0 := by omega
  have g1 : (b == 0) = false := by simp; omega
  have t1 : -b < a.tmod b := by have := Int.tmod_lt_of_pos (-a) (show 0 < b by omega); rw [Int.neg_tmod] at this; omega
  have t2 : a.tmod b < b := Int.tmod_lt_of_pos a (by omega)
  have e2 : (a.tmod b + b) % b = a % b := by
    rw [Int.add_emod_right]
    have := Int.mul_tdiv_add_tmod a b
    have e : a.tmod b = a + b * (-(a.tdiv b)) := by rw [Int.mul_neg]; omega
    rw [e, Int.add_mul_emod_self_left]
  have w1 : IntKind.i64.wrap (a.tmod b) = a.tmod b := IntWalk.i64_in _ (by omega)
  have w2 : IntKind.i64.wrap (a.tmod b + b) = a.tmod b + b := IntWalk.i64_in _ (by omega)
  have w3 : wrap64 (a.tmod b + b) = a.tmod b + b := (IntWalk.i64_left _).symm.trans w2
  rw [← e2]
  clear e2
  go_enter Try.func23, Try.ntmps23
  go_wp2_with fail
  go_ret
  exact ⟨rfl, rfl⟩
set_option maxHeartbeats 1000000 in
theorem even_any (a b : Int) (w : World) (ha : -100000000 ≤ a ∧ a ≤ 100000000) (hb : 1 ≤ b ∧ b ≤ 1000) : Calls Try.prog 19 #[.int .i64 a, .int .i64 b] w fun e w' => e = .returned (.int .i64 (nv a b)) ∧ w' = w := by
  have M : Hid (Calls Try.prog 23 #[.int .i64 a, .int .i64 b] w fun e w' => e = .returned (.int .i64 (a % b)) ∧ w' = w) := mod_any a b w hb
  have g0 : ¬ b = 0 := by omega
  have g1 : (b == 0) = false := by simp; omega
  have r0 := Int.emod_nonneg a g0
  have r1 := Int.emod_lt_of_pos a (show 0 < b by omega)
  have e1 : (a - a % b).tdiv b = a / b := by
    have := Int.mul_ediv_add_emod a b
    rw [show a - a % b = b * (a / b) by omega, Int.mul_tdiv_cancel_left _ g0]
  have d0 : -100000000 ≤ a / b := Int.le_ediv_of_mul_le (by omega) (by have := Int.mul_le_mul_of_nonneg_left hb.1 (show (0 : Int) ≤ 100000000 by omega); rw [Int.neg_mul]; omega)
  have d1 : a / b ≤ 100000000 := Int.le_trans (Int.ediv_le_ediv (by omega) ha.2) (Int.ediv_le_self _ (by omega))
  unfold nv
  generalize a % b = r at *
  have w1 : IntKind.i64.wrap (a - r) = a - r := IntWalk.i64_in _ (by omega)
  have w2 : IntKind.i64.wrap ((a - r).tdiv b) = a / b := by rw [e1]; exact IntWalk.i64_in _ (by omega)
  generalize a / b = d at *
  have w3 : IntKind.i64.wrap (2 * r) = 2 * r := IntWalk.i64_in _ (by omega)
  have w4 : IntKind.i64.wrap (d + 1) = d + 1 := IntWalk.i64_in _ (by omega)
  by_cases h1 : b < 2 * r
  · rw [if_pos (Or.inl h1)]
    go_enter Try.func19, Try.ntmps19
    go_wp2_with fail
    refine M.out.mono ?_
    rintro e w0 ⟨rfl, hw⟩
    have hw' := hw.symm
    subst hw'
    go_wp2_with fail
    go_ret
    exact ⟨rfl, rfl⟩
  · by_cases h2 : 2 * r = b
    · have h2' : (2 * r == b) = true := by simpa using h2
      by_cases h3 : d.tmod 2 = 0
      · have h3' : (d.tmod 2 != 0) = false := by simp [h3]
        have h3'' : (d.tmod 2 == 0) = true := by simp [h3]
        rw [if_neg (by rintro (x | ⟨_, x⟩); exact h1 x; exact x h3)]
        go_enter Try.func19, Try.ntmps19
        go_wp2_with fail
        refine M.out.mono ?_
        rintro e w0 ⟨rfl, hw⟩
        have hw' := hw.symm
        subst hw'
        go_wp2_with fail
        go_ret
        exact ⟨rfl, rfl⟩
      · have h3' : (d.tmod 2 != 0) = true := by simpa using h3
        have h3'' : (d.tmod 2 == 0) = false := by simpa using h3
        rw [if_pos (Or.inr ⟨h2, h3⟩)]
        go_enter Try.func19, Try.ntmps19
        go_wp2_with fail
        refine M.out.mono ?_
        rintro e w0 ⟨rfl, hw⟩
        have hw' := hw.symm
        subst hw'
        go_wp2_with fail
        go_ret
        exact ⟨rfl, rfl⟩
    · have h2' : (2 * r == b) = false := by simpa using h2
      rw [if_neg (by rintro (x | ⟨x, _⟩); exact h1 x; exact h2 x)]
      go_enter Try.func19, Try.ntmps19
      go_wp2_with fail
      refine M.out.mono ?_
      rintro e w0 ⟨rfl, hw⟩
      have hw' := hw.symm
      subst hw'
      go_wp2_with fail
      go_ret
      exact ⟨rfl, rfl⟩
set_option maxHeartbeats 1000000 in
theorem iyears (L : Ls) (v : Value) (w : World) (hL : Ll.Reads w v L) :
    Calls Try.prog 16 #[v] w fun e w' => e = .returned (.bool (okY L)) ∧ w' = w := by
  have hf := hL.fits
  have D0 : Hid (Calls Try.prog 21 #[.int .i64 (L.length : Int), .int .i64 1, .int .i64 100] w fun e w' => e = .returned (.bool (inn L.length 1 100)) ∧ w' = w) := i_in _ _ _ _
  obtain ⟨b, o, hc, hv⟩ := Ll.reads_at hL
  obtain ⟨a, cap, rfl⟩ := hL.form
  have HC : Hid (∀ i, i < L.length → Ll.Cs w b o L i) := hc
  have HV : Hid (0 < L.length → b < w.heap.size ∧ a = some ⟨b, o, none⟩) := fun hi => by
    obtain ⟨h1, c, h2⟩ := hv hi
    simp at h2
    exact ⟨h1, h2.1⟩
  cases hi : inn L.length 1 100
  · rw [okY_len hi]
    rw [hi] at D0
    clear hL hc hv hi HC HV
    generalize L.length = n at *
    go_enter Try.func16, Try.ntmps16
    go_wp2_with fail
    refine D0.out.mono ?_
    rintro e w0 ⟨rfl, hw⟩
    have hw' := hw.symm
    subst hw'
    go_wp2_with fail
    go_ret
    exact ⟨rfl, rfl⟩
  · rw [hi] at D0
    have hb := (inn_iff _ _ _).1 hi
    have HY : Hid ((∀ i, i < L.length → ok1 L i = true) → okY L = true) := fun h => okY_yes hi h
    have HO : Hid (∀ i, i < L.length → ok1 L i = false → okY L = false) := fun i h1 h2 => okY_no h1 h2
    obtain ⟨u0, q0, r0⟩ := hc 0 (by omega)
    rw [Nat.add_zero] at q0
    obtain ⟨u0a, u0c, rfl⟩ := r0.form
    obtain ⟨v1, v2⟩ := HV.out (by omega)
    subst v2
    have H1 : Hid (∀ i, ok1 L i = (okS (cl L i) && ((cl L i).length == (cl L 0).length))) := fun i => rfl
    obtain ⟨n, hn⟩ : ∃ n, n = L.length := ⟨_, rfl⟩
    rw [← hn] at HC D0 HY HO hb hf ⊢
    generalize okY L = oy at *
    clear hL hc hv hi r0 hn
    have f0 : (cl L 0).length < 9223372036854775808 := by
      obtain ⟨u, _, r⟩ := HC.out 0 (by omega)
      exact Ll.lfits r
    generalize hm : (cl L 0).length = m0 at *
    clear hm
    go_enter Try.func16, Try.ntmps16
    go_wp2_with fail
    refine D0.out.mono ?_
    rintro e w0 ⟨rfl, hw⟩
    have hw' := hw.symm
    subst hw'
    go_wp2_with fail
    go_loop [11] (fun i => ∃ k : Nat, k ≤ n ∧ i = .int .i64 k ∧ Hid (∀ j, j < k → ok1 L j = true)) (fun i => n - (intOf i).toNat)
    case atStart => exact ⟨0, by omega, rfl, fun j hj => absurd hj (by omega)⟩
    case round =>
      obtain ⟨k, hk, rfl, HA⟩ := hrel
      by_cases hlt : k < n
      · have i0 : (0 : Int) ≤ (k : Int) := by omega
        have i1 : (k : Int) < (n : Int) := by omega
        have i2 : (0 : Int) < (n : Int) := by omega
        obtain ⟨u, qu, ru⟩ := HC.out k hlt
        have C : Hid (Calls Try.prog 22 #[u] w fun e w' => e = .returned (.bool (okS (cl L k))) ∧ w' = w) := iok_any (cl L k) u w ru (Ll.lfits ru)
        have hO := H1.out k
        obtain ⟨ua, uc, rfl⟩ := ru.form
        have fk := Ll.lfits ru
        clear ru
        cases ho : okS (cl L k)
        · rw [ho] at C hO
          have HF : Hid (oy = false) := HO.out k hlt hO
          clear ho hO
          generalize (cl L k).length = mk at *
          go_wp2_with fail
          refine C.out.mono ?_
          rintro e w0 ⟨rfl, hw⟩
          have hw' := hw.symm
          subst hw'
          go_wp2_with fail
          go_ret
          exact ⟨by rw [HF.out]; rfl, rfl⟩
        · rw [ho] at C hO
          by_cases he : (cl L k).length = m0
          · have HF : Hid (∀ j, j < k + 1 → ok1 L j = true) := fun j hj => by
              by_cases e : j = k
              · subst e; rw [hO, he]; simp
              · exact HA.out j (by omega)
            rw [he] at C qu
            clear ho hO he
            go_wp2_with fail
            refine C.out.mono ?_
            rintro e w0 ⟨rfl, hw⟩
            have hw' := hw.symm
            subst hw'
            go_wp2_with fail
            go_round
            case rel => exact ⟨k + 1, by omega, by go_num, HF⟩
            case measure => simp [intOf]; omega
          · have HF : Hid (oy = false) := HO.out k hlt (by rw [hO]; simpa using he)
            have ne1 : ((((cl L k).length : Nat) : Int) != (m0 : Int)) = true := by simp; omega
            have ne2 : ¬ (((cl L k).length : Nat) : Int) = (m0 : Int) := by omega
            clear ho hO
            generalize (cl L k).length = mk at *
            go_wp2_with fail
            refine C.out.mono ?_
            rintro e w0 ⟨rfl, hw⟩
            have hw' := hw.symm
            subst hw'
            go_wp2_with fail
            go_ret
            exact ⟨by rw [HF.out]; rfl, rfl⟩
      · have hkn : k = n := by omega
        subst hkn
        have HF : Hid (oy = true) := HY.out HA.out
        go_wp2_with fail
        go_ret
        exact ⟨by rw [HF.out]; rfl, rfl⟩
set_option maxHeartbeats 1000000 in
theorem cl18 (g1 g2 b o n cap i b2 o2 m c2 k : Nat) (z : Int) (w : World) (hi : i < n) (hk : k < m) (q1 : w.cell? ⟨g1, 0, none⟩ = some (.slice (some ⟨b, o, none⟩) n cap)) (q2 : w.cell? ⟨g2, 0, none⟩ = some (.int .i64 (k : Int))) (q3 : w.cell? ⟨b, o + i, none⟩ = some (.slice (some ⟨b2, o2, none⟩) m c2)) (q4 : w.cell? ⟨b2, o2 + k, none⟩ = some (.int .i64 z)) :
    Calls Try.prog 18 #[.int .i64 (i : Int), .pointer (some ⟨g1, 0, none⟩), .pointer (some ⟨g2, 0, none⟩)] w fun e w' => e = .returned (.int .i64 z) ∧ ∃ m, w' = w.drewN m := by
  have i1 : (0 : Int) ≤ (i : Int) := by omega
  have i2 : (i : Int) < (n : Int) := by omega
  have i3 : (0 : Int) ≤ (k : Int) := by omega
  have i4 : (k : Int) < (m : Int) := by omega
  go_enter Try.func18, Try.ntmps18
  go_wp2_with fail
  go_quiet (fail)
  go_wp2_with fail
  go_ret
  exact ⟨rfl, _, rfl⟩
end Go.Proofs.Ytjoijffjnlencaa.No
