/- Order statistics: a series sorted; the program; the laws. -/
import Derived.Test.YtjcehjnkdnclbaaShelf
import Derived.Test.YtjcehjnkdnclbaaOn
import Derived.Sort.OwnSortedInts
namespace Go.Proofs.Ytjcehjnkdnclbaa.Os
open Go.ChangeShapes Go.WideShapes Go.ChangeAt Go.RowKit
open Go.Proofs.Ytjcehjnkdnclbaa.Lists Go.Proofs.Ytjcehjnkdnclbaa.Al Go.Proofs.Ytjcehjnkdnclbaa.Se

theorem below_drewN {B : Nat} {a w : World} (h : Below B a w) (n : Nat) : Below B a (w.drewN n) := h.trans ⟨rfl, rfl, rfl, Nat.le_refl _, fun _ _ => rfl⟩
theorem sort_any (L : List Int) (w w0 : World) (B g : Nat) (hb : Below B w0 w) (hB : B ≤ g) (h : w.ownsRow B 2 1 (.slice (some ⟨g, 0, none⟩) L.length L.length) L.length (ints L)) (hl : L.length ≤ 1000) :
    Calls Try.prog 24 #[.slice (some ⟨g, 0, none⟩) L.length L.length] w fun e w' => e = .returned (.tuple #[]) ∧ w'.ownsRow B 2 1 (.slice (some ⟨g, 0, none⟩) L.length L.length) L.length (ints (srt L)) ∧ Below B w0 w' := by
  rcases h.2 with ⟨h0, _⟩ | ⟨g', c, cur, hv, hbg, hh, hc, hm, hs, ht⟩
  · cases h0
  · simp at hv
    obtain ⟨rfl, rfl⟩ := hv
    have hg : g < w.heap.size := (Array.getElem?_eq_some_iff.1 hh).1
    refine (Try.slices_Sort_int g 0 L.length L w (holds_of_blockI hh (by simpa using ht)) hg (by omega)).mono ?_
    rintro e w' ⟨rfl, n, os, rfl⟩
    refine ⟨rfl, ?_, ?_⟩
    · exact ownsRow_sortedI (ss := L) (ts := srt L) (srt_len L) hB hh hc hm hs
    · exact hb.grown (grownBy_sortedI _) (by omega) (fun k hk => by cases hk; exact hB)

set_option maxHeartbeats 1000000 in
theorem sorted_any (L : List Int) (v : Value) (w : World) (hL : Lists.Reads w v L) (h1 : 1 ≤ L.length) (h2 : L.length ≤ 1000) :
    Calls Try.prog 18 #[v] w fun e w' => e = .returned (.slice (some ⟨w.heap.size, 0, none⟩) L.length L.length) ∧ w'.ownsRow w.heap.size 2 1 (.slice (some ⟨w.heap.size, 0, none⟩) L.length L.length) L.length (ints (srt L)) ∧ Below w.heap.size w w' := by
  have C1 : Hid (Calls Try.prog 23 #[v] w fun e w' => e = .returned (.slice (some ⟨w.heap.size, 0, none⟩) L.length L.length) ∧ w'.ownsRow w.heap.size 2 1 (.slice (some ⟨w.heap.size, 0, none⟩) L.length L.length) L.length (ints L) ∧ Below w.heap.size w w') := copy_any L v w hL h1 h2
  have C2 : Hid (∀ w', w'.ownsRow w.heap.size 2 1 (.slice (some ⟨w.heap.size, 0, none⟩) L.length L.length) L.length (ints L) → Below w.heap.size w w' → Calls Try.prog 24 #[.slice (some ⟨w.heap.size, 0, none⟩) L.length L.length] w' fun e w'' => e = .returned (.tuple #[]) ∧ w''.ownsRow w.heap.size 2 1 (.slice (some ⟨w.heap.size, 0, none⟩) L.length L.length) L.length (ints (srt L)) ∧ Below w.heap.size w w'') := fun w' hr hb => sort_any L w' w _ _ hb (Nat.le_refl _) hr h2
  obtain ⟨a, cap, rfl⟩ := hL.form
  clear hL
  generalize ints (srt L) = S at *
  generalize ints L = I at *
  generalize L.length = n at *
  go_enter Try.func18, Try.ntmps18
  go_wp2_with fail
  refine C1.out.mono ?_
  rintro e w1 ⟨rfl, hr, hb⟩
  have C3 := C2.out w1 hr hb
  have H3 : Hid (Calls Try.prog 24 #[.slice (some ⟨w.heap.size, 0, none⟩) n n] w1 fun e w'' => e = .returned (.tuple #[]) ∧ w''.ownsRow w.heap.size 2 1 (.slice (some ⟨w.heap.size, 0, none⟩) n n) n S ∧ Below w.heap.size w w'') := C3
  clear hr hb C3 C2 C1
  go_wp2_with fail
  refine H3.out.mono ?_
  rintro e w2 ⟨rfl, hr, hb⟩
  have R2 : Hid (w2.ownsRow w.heap.size 2 1 (.slice (some ⟨w.heap.size, 0, none⟩) n n) n S) := hr
  have B2 : Hid (Below w.heap.size w w2) := hb
  clear hr hb H3
  go_wp2_with fail
  go_ret
  exact ⟨rfl, R2.out, B2.out⟩

set_option maxHeartbeats 1000000 in
theorem istat_yes (L : List Int) (k : Nat) (v : Value) (w : World) (hL : Lists.Reads w v L) (hf : L.length < 9223372036854775808) (hok : okS L = true)
    (hc0 : inn (k : Int) 1 L.length = true) :
    Calls Try.prog 8 #[v, .int .i64 (k : Int)] w fun e w' => e = .returned (.tuple #[.int .i64 ((srt L).getD (k - 1) 0), .bool true]) ∧ Below w.heap.size w w' := by
  have C : Hid (Calls Try.prog 15 #[v] w fun e w' => e = .returned (.bool (okS L)) ∧ w' = w) := iok_any L v w hL hf
  have D0 : Hid (Calls Try.prog 16 #[.int .i64 (k : Int), .int .i64 1, .int .i64 (L.length : Int)] w fun e w' => e = .returned (.bool (inn (k : Int) 1 L.length)) ∧ w' = w) := i_in _ _ _ _
  obtain ⟨l1, l2, hz⟩ := okS_parts hok
  rw [hok] at C
  have e0 := (inn_iff _ _ _).1 hc0
  rw [hc0] at D0
  have C5 : Hid (Calls Try.prog 18 #[v] w fun e w' => e = .returned (.slice (some ⟨w.heap.size, 0, none⟩) L.length L.length) ∧ w'.cell? ⟨w.heap.size, k - 1, none⟩ = some (.int .i64 ((srt L).getD (k - 1) 0)) ∧ Below w.heap.size w w') := (by
    refine (sorted_any L v w hL l1 (by omega)).mono ?_
    rintro e w' ⟨rfl, hr, hb⟩
    refine ⟨rfl, ?_, hb⟩
    have := srt_len L
    have hr' : w'.ownsRow w.heap.size 2 1 (.slice (some ⟨w.heap.size, 0, none⟩) (srt L).length (srt L).length) (srt L).length (ints (srt L)) := by rw [this]; exact hr
    exact row_cell hr' (k - 1) (by omega))
  obtain ⟨a, cap, rfl⟩ := hL.form
  have HR : Hid (∀ z, z = (srt L).getD (k - 1) 0 → z = (srt L).getD (k - 1) 0) := fun z h => h.trans rfl
  clear hL hz hok hc0
  obtain ⟨n, hn⟩ : ∃ n, n = L.length := ⟨_, rfl⟩
  rw [← hn] at hf l1 l2 C D0 e0 C5 ⊢
  clear hn HR
  have j1 : (0 : Int) ≤ (k : Int) - 1 := by omega
  have j2 : (k : Int) - 1 < (n : Int) := by omega
  have j3 : ((k : Int) - 1).toNat = k - 1 := by omega
  generalize (srt L).getD (k - 1) 0 = z at *
  go_enter Try.func8, Try.ntmps8
  go_wp2_with fail
  refine C.out.mono ?_
  rintro e w1 ⟨rfl, hw⟩
  have hw' := hw.symm
  subst hw'
  go_wp2_with fail
  refine D0.out.mono ?_
  rintro e w2 ⟨rfl, hw⟩
  have hw' := hw.symm
  subst hw'
  go_wp2_with fail
  refine C5.out.mono ?_
  rintro e w3 ⟨rfl, q, hb⟩
  have B3 : Hid (Below w.heap.size w w3) := hb
  clear hb
  go_wp2_with fail
  go_ret2
  exact ⟨rfl, B3.out⟩

set_option maxHeartbeats 1000000 in
theorem ishare_yes (L : List Int) (num den : Int) (v : Value) (w : World) (hL : Lists.Reads w v L) (hf : L.length < 9223372036854775808) (hok : okS L = true)
    (hc0 : inn den 1 1000 = true)
    (hc1 : inn num 1 den = true) :
    Calls Try.prog 7 #[v, .int .i64 num, .int .i64 den] w fun e w' => e = .returned (.tuple #[.int .i64 ((srt L).getD ((few num L.length den).toNat - 1) 0), .bool true]) ∧ Below w.heap.size w w' := by
  have C : Hid (Calls Try.prog 15 #[v] w fun e w' => e = .returned (.bool (okS L)) ∧ w' = w) := iok_any L v w hL hf
  have D0 : Hid (Calls Try.prog 16 #[.int .i64 den, .int .i64 1, .int .i64 1000] w fun e w' => e = .returned (.bool (inn den 1 1000)) ∧ w' = w) := i_in _ _ _ _
  have D1 : Hid (Calls Try.prog 16 #[.int .i64 num, .int .i64 1, .int .i64 den] w fun e w' => e = .returned (.bool (inn num 1 den)) ∧ w' = w) := i_in _ _ _ _
  obtain ⟨l1, l2, hz⟩ := okS_parts hok
  rw [hok] at C
  have e0 := (inn_iff _ _ _).1 hc0
  rw [hc0] at D0
  have e1 := (inn_iff _ _ _).1 hc1
  rw [hc1] at D1
  have fb := few_bd (n := (L.length : Int)) e1.1 e1.2 (by omega)
  have u1 := Int.mul_le_mul (show num ≤ 1000 by omega) (show (L.length : Int) ≤ 500 by omega) (by omega) (by omega)
  have u3 := Int.mul_nonneg (show 0 ≤ num by omega) (show (0 : Int) ≤ (L.length : Int) by omega)
  have J1 : IntKind.i64.wrap (num * (L.length : Int)) = num * (L.length : Int) := IntWalk.i64_in _ (by omega)
  have C6 : Hid (Calls Try.prog 17 #[.int .i64 (num * (L.length : Int)), .int .i64 den] w fun e w' => e = .returned (.int .i64 (few num L.length den)) ∧ w' = w) := up_any _ _ _ (by omega) (by omega)
  have hkk : few num L.length den = ((few num L.length den).toNat : Int) := by omega
  have C5 : Hid (Calls Try.prog 18 #[v] w fun e w' => e = .returned (.slice (some ⟨w.heap.size, 0, none⟩) L.length L.length) ∧ w'.cell? ⟨w.heap.size, (few num L.length den).toNat - 1, none⟩ = some (.int .i64 ((srt L).getD ((few num L.length den).toNat - 1) 0)) ∧ Below w.heap.size w w') := (by
    refine (sorted_any L v w hL l1 (by omega)).mono ?_
    rintro e w' ⟨rfl, hr, hb⟩
    refine ⟨rfl, ?_, hb⟩
    have := srt_len L
    have hr' : w'.ownsRow w.heap.size 2 1 (.slice (some ⟨w.heap.size, 0, none⟩) (srt L).length (srt L).length) (srt L).length (ints (srt L)) := by rw [this]; exact hr
    exact row_cell hr' ((few num L.length den).toNat - 1) (by omega))
  obtain ⟨a, cap, rfl⟩ := hL.form
  have HR : Hid (∀ z, z = (srt L).getD ((few num L.length den).toNat - 1) 0 → z = (srt L).getD ((few num L.length den).toNat - 1) 0) := fun z h => h.trans rfl
  clear hL hz hok hc0 hc1
  obtain ⟨n, hn⟩ : ∃ n, n = L.length := ⟨_, rfl⟩
  rw [← hn] at hf l1 l2 C C5 C6 J1 fb hkk ⊢
  clear hn HR u1 u3
  obtain ⟨k, hk⟩ : ∃ k, k = (few num n den).toNat := ⟨_, rfl⟩
  rw [← hk] at hkk C5 ⊢
  rw [hkk] at C6 fb
  clear hkk hk
  have j1 : (0 : Int) ≤ (k : Int) - 1 := by omega
  have j2 : (k : Int) - 1 < (n : Int) := by omega
  have j3 : ((k : Int) - 1).toNat = k - 1 := by omega
  generalize (srt L).getD (k - 1) 0 = z at *
  go_enter Try.func7, Try.ntmps7
  go_wp2_with fail
  refine C.out.mono ?_
  rintro e w1 ⟨rfl, hw⟩
  have hw' := hw.symm
  subst hw'
  go_wp2_with fail
  refine D0.out.mono ?_
  rintro e w2 ⟨rfl, hw⟩
  have hw' := hw.symm
  subst hw'
  go_wp2_with fail
  refine D1.out.mono ?_
  rintro e w2 ⟨rfl, hw⟩
  have hw' := hw.symm
  subst hw'
  go_wp2_with fail
  refine C6.out.mono ?_
  rintro e w2 ⟨rfl, hw⟩
  have hw' := hw.symm
  subst hw'
  go_wp2_with fail
  refine C5.out.mono ?_
  rintro e w3 ⟨rfl, q, hb⟩
  have B3 : Hid (Below w.heap.size w w3) := hb
  clear hb
  go_wp2_with fail
  go_ret2
  exact ⟨rfl, B3.out⟩

end Go.Proofs.Ytjcehjnkdnclbaa.Os
