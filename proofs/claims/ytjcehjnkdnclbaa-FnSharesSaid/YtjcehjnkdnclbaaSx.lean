/- A series: whether it is one; a copy of it. -/
import Derived.Test.YtjcehjnkdnclbaaAlA
import Derived.Below
import Derived.Laws.CopyOwn
import Derived.Deep.Cut
namespace Go.Proofs.Ytjcehjnkdnclbaa.Se
open Go.ChangeShapes Go.WideShapes Go.ChangeAt Go.RowKit
open Go.Proofs.Ytjcehjnkdnclbaa.Lists Go.Proofs.Ytjcehjnkdnclbaa.Al

def okS (L : List Int) : Bool := inn L.length 1 500 && L.all (fun d => inn d (-100000) 100000)
theorem okS_parts {L : List Int} (h : okS L = true) : 1 ≤ L.length ∧ L.length ≤ 500 ∧ ∀ j, j < L.length → -100000 ≤ L.getD j 0 ∧ L.getD j 0 ≤ 100000 := by
  unfold okS at h
  rw [Bool.and_eq_true, List.all_eq_true, inn_iff] at h
  refine ⟨by omega, by omega, fun j hj => ?_⟩
  have := h.2 (L.getD j 0) (by simp [List.getD_eq_getElem?_getD, hj])
  rw [inn_iff] at this
  exact this
set_option maxHeartbeats 1000000 in
theorem sok_any (L : List Int) (v : Value) (w : World) (hL : Lists.Reads w v L) (hf : L.length < 9223372036854775808) :
    Calls Try.prog 12 #[v] w fun e w' => e = .returned (.bool (okS L)) ∧ ∃ m, w' = w.drewN m := by
  have C : Hid (∀ m, Calls Try.prog 21 #[v, .int .i64 (L.length : Int), .int .i64 (-100000), .int .i64 100000] (w.drewN m) fun e w' => e = .returned (.bool (L.all (fun d => inn d (-100000) 100000))) ∧ ∃ m, w' = w.drewN m) := fun m => by
    have := sall_any L L.length (-100000) 100000 v (w.drewN m) hL hf
    unfold nums at this
    simp only [decide_true, Bool.true_and] at this
    refine this.mono ?_
    rintro e w' ⟨rfl, m', rfl⟩
    exact ⟨rfl, m + m', by simp⟩
  unfold okS
  obtain ⟨a, cap, rfl⟩ := hL.form
  clear hL
  generalize L.all (fun d => inn d (-100000) 100000) = bo at *
  generalize L.length = n at *
  by_cases h1 : (1 : Int) ≤ n
  · by_cases h2 : (n : Int) ≤ 500
    · have e : inn n 1 500 = true := by simp [inn]; omega
      rw [e]
      go_enter Try.func12, Try.ntmps12
      go_wp2_with fail
      refine (C.out 0).mono ?_
      rintro e w1 ⟨rfl, m, rfl⟩
      go_wp2_with fail
      go_ret
      exact ⟨rfl, _, rfl⟩
    · have e : inn n 1 500 = false := by simp [inn]; omega
      rw [e]
      go_enter Try.func12, Try.ntmps12
      go_wp2_with fail
      go_ret
      exact ⟨rfl, 0, rfl⟩
  · have e : inn n 1 500 = false := by simp [inn]; omega
    rw [e]
    go_enter Try.func12, Try.ntmps12
    go_wp2_with fail
    go_ret
    exact ⟨rfl, 0, rfl⟩

set_option maxHeartbeats 1000000 in
theorem iok_any (L : List Int) (v : Value) (w : World) (hL : Lists.Reads w v L) (hf : L.length < 9223372036854775808) :
    Calls Try.prog 15 #[v] w fun e w' => e = .returned (.bool (okS L)) ∧ w' = w := by
  have C1 : Hid (Calls Try.prog 16 #[.int .i64 (L.length : Int), .int .i64 1, .int .i64 500] w fun e w' => e = .returned (.bool (inn L.length 1 500)) ∧ w' = w) := i_in _ _ _ w
  have C : Hid (Calls Try.prog 22 #[v, .int .i64 (-100000), .int .i64 100000] w fun e w' => e = .returned (.bool (L.all (fun d => inn d (-100000) 100000))) ∧ w' = w) := iall_any L _ _ v w hL hf
  unfold okS
  obtain ⟨a, cap, rfl⟩ := hL.form
  clear hL
  generalize L.all (fun d => inn d (-100000) 100000) = bo at *
  generalize L.length = n at *
  generalize inn n 1 500 = bn at *
  cases bn
  · go_enter Try.func15, Try.ntmps15
    go_wp2_with fail
    refine C1.out.mono ?_
    rintro e w1 ⟨rfl, hw⟩
    subst hw
    go_wp2_with fail
    go_ret
    exact ⟨rfl, rfl⟩
  · go_enter Try.func15, Try.ntmps15
    go_wp2_with fail
    refine C1.out.mono ?_
    rintro e w1 ⟨rfl, hw⟩
    subst hw
    go_wp2_with fail
    refine C.out.mono ?_
    rintro e w1 ⟨rfl, hw⟩
    subst hw
    go_wp2_with fail
    go_ret
    exact ⟨rfl, rfl⟩

theorem row_of_heap {w : World} {base g n : Nat} {cur : List Value} (hb : base ≤ g) (hh : w.heap[g]? = some (.cells cur.toArray 2 (0, 0))) (hl : cur.length = n) (hm : n ≤ maxLen) : w.ownsRow base 2 1 (.slice (some ⟨g, 0, none⟩) n n) n cur := by
  refine ⟨by omega, .inr ⟨g, n, cur.toArray, rfl, hb, hh, Nat.le_refl _, hm, by simp; omega, ?_⟩⟩
  simp only [Nat.mul_one]
  exact List.take_of_length_le (by omega)

set_option maxHeartbeats 1000000 in
theorem copy_any (L : List Int) (v : Value) (w : World) (hL : Lists.Reads w v L) (h1 : 1 ≤ L.length) (h2 : L.length ≤ 1000) :
    Calls Try.prog 23 #[v] w fun e w' => e = .returned (.slice (some ⟨w.heap.size, 0, none⟩) L.length L.length) ∧ w'.ownsRow w.heap.size 2 1 (.slice (some ⟨w.heap.size, 0, none⟩) L.length L.length) L.length (ints L) ∧ Below w.heap.size w w' := by
  obtain ⟨i0, hi, hz0, hz1, hz2⟩ := info_parts Lists.Try.info2
  have hsz : (Try.prog.info? 2).map (·.size) = some 1 := by kernel_rfl
  obtain ⟨b, o, hcell, hvv⟩ := reads_at hL
  obtain ⟨a, cap, rfl⟩ := hL.form
  have HC : Hid (∀ i, i < L.length → w.cell? ⟨b, o + i, none⟩ = some (.int .i64 (L.getD i 0))) := hcell
  have HB : Hid (0 < L.length → b < w.heap.size ∧ a = some ⟨b, o, none⟩) := fun hi => by
    obtain ⟨h1, c, h2⟩ := hvv hi
    simp at h2
    exact ⟨h1, h2.1⟩
  obtain ⟨hb, hx⟩ := HB.out (by omega)
  subst hx
  have FZ : Hid ((madeCells (Value.int .i64 0).cells (L.length * 1)).toList = ints (fill L 0)) := fill_zero L
  have FL : Hid ((ints (fill L 0)).length = L.length) := (by show _ = _; simp [fill_len])
  have SRC : Hid (∀ w', Below w.heap.size w w' → ∀ j u, (ints L)[j]? = some u → w'.cell? ((⟨b, o, none⟩ : Addr).add j) = some u) := fun w' hw j u hj => by
    have hl : j < L.length := by
      have := (List.getElem?_eq_some_iff.1 hj).1
      simpa [ints] using this
    have e : (⟨b, o, none⟩ : Addr).add j = ⟨b, o + j, none⟩ := by
      unfold Addr.add
      split
      · rename_i h; subst h; rfl
      · rfl
    rw [e, (hw.cell (p := ⟨b, o + j, none⟩) hb).trans (HC.out j hl)]
    simp [ints, List.getElem?_map, List.getElem?_eq_getElem hl] at hj
    rw [← hj]
    simp [List.getD_eq_getElem?_getD, hl]
  obtain ⟨n, hn⟩ : ∃ n, n = L.length := ⟨_, rfl⟩
  rw [← hn] at h1 h2 FZ FL ⊢
  have HN : Hid (n = L.length) := hn
  clear hL hcell hvv hn
  go_enter Try.func23, Try.ntmps23
  go_upto_region 2 with (at_make; refine wpList_make_full _ rfl _ _ 24 rfl w.heap.size 2 i0 (.int .i64 0) 1 Try.underlying24 hi hz0 hz1 .i64 .i64 (n : Int) (n : Int) n rfl rfl rfl rfl (by rw [hz2]; omega) (by unfold maxLen; omega) (Nat.le_refl _) ?_; intro w4 hown hgrow)
  rw [FZ.out] at hown
  have B0 : Below w.heap.size w w4 := (Below.refl _ _).grown hgrow (Nat.le_refl _) (fun k hk => by cases hk)
  obtain ⟨hl0, hrow⟩ := hown
  rcases hrow with ⟨hno, _⟩ | ⟨g, c, cur, hv, hbg, hh, hc, hm, hs, ht⟩
  · cases hno
  · simp at hv
    obtain ⟨rfl, rfl⟩ := hv
    have hcl : cur.toList.length = n := by simp; omega
    have hh' : w4.heap[w.heap.size]? = some (.cells cur.toList.toArray 2 (0, 0)) := by simpa using hh
    have HB4 : Hid (Below w.heap.size w w4) := B0
    have HH4 : Hid (w4.heap[w.heap.size]? = some (.cells cur.toList.toArray 2 (0, 0))) := hh'
    have HCL : Hid (cur.toList.length = n) := hcl
    have HIL : Hid ((ints L).length = n) := (by show _ = _; rw [List.length_map, HN.out])
    have HFIN : Hid (∀ w' : World, w'.heap[w.heap.size]? = some (Obj.cells (splice cur.toList 0 (ints L)).toArray 2 (0, 0)) → w'.ownsRow w.heap.size 2 1 (.slice (some ⟨w.heap.size, 0, none⟩) n n) n (ints L)) := fun w' h => by
      have e : splice cur.toList 0 (ints L) = ints L := by
        unfold splice
        rw [List.take_zero, List.nil_append, List.drop_eq_nil_of_le (by rw [HCL.out, HIL.out]; omega), List.append_nil]
      rw [e] at h
      exact row_of_heap (Nat.le_refl _) h HIL.out (by unfold maxLen; omega)
    clear B0 hh hh' hcl hl0 ht hs hgrow FZ FL hbg hc hm
    generalize cur.toList = cl at *
    obtain ⟨src, hsrc⟩ : ∃ src, src = ints L := ⟨_, rfl⟩
    have HO : Hid (∀ u ∈ src, u.oneCell' = true) := (by rw [hsrc]; intro u hu; simp [ints] at hu; obtain ⟨z, _, rfl⟩ := hu; rfl)
    have HSR : Hid (∀ j u, src[j]? = some u → w4.cell? ((⟨b, o, none⟩ : Addr).add j) = some u) := (by rw [hsrc]; exact SRC.out w4 HB4.out)
    rw [← hsrc] at HIL HFIN
    have HSE : Hid (src = ints L) := hsrc
    clear hsrc SRC
    go_wp2_with (refine wpList_copy_splice rfl (.tmp 7) (.tmp 8) 24 24 rfl 2 Try.underlying24 hsz (some ⟨w.heap.size, 0, none⟩) (some ⟨b, o, none⟩) n n n cap (by rfl) (by rfl) w.heap.size 0 cl 2 HH4.out src (by rw [HIL.out]; exact (Nat.min_self n).symm) (fun _ => ⟨rfl, _, rfl, HSR.out⟩) (by rw [HIL.out, HCL.out]; omega) HO.out w.heap.size w HB4.out (Nat.le_refl _) ?_; intro w5 HG5 hB5)
    have HB5 : Hid (Below w.heap.size w w5) := hB5
    have HR5 : Hid (w5.ownsRow w.heap.size 2 1 (.slice (some ⟨w.heap.size, 0, none⟩) n n) n src) := HFIN.out w5 HG5.out
    clear hB5 HG5 HFIN HH4 HSR
    go_wp2_with fail
    go_ret
    exact ⟨rfl, by rw [← HSE.out]; exact HR5.out, HB5.out⟩

end Go.Proofs.Ytjcehjnkdnclbaa.Se
