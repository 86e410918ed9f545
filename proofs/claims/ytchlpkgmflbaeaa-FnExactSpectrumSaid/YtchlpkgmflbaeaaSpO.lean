/- Spectrum: the model and the program. -/
import Derived.Test.YtchlpkgmflbaeaaSpN
namespace Go.Proofs.Ytchlpkgmflbaeaa.Sp
open Go.ChangeShapes Go.WideShapes Go.ChangeAt Go.RowKit
open Go.Proofs.Ytchlpkgmflbaeaa.Lists Go.Proofs.Ytchlpkgmflbaeaa.Al Go.Proofs.Ytchlpkgmflbaeaa.Su Go.Proofs.Ytchlpkgmflbaeaa.Mx

theorem log_pow {c : Nat} (h : c ≤ 6) : (2 ^ c).log2 = c := by
  have : c = 0 ∨ c = 1 ∨ c = 2 ∨ c = 3 ∨ c = 4 ∨ c = 5 ∨ c = 6 := by omega
  rcases this with rfl | rfl | rfl | rfl | rfl | rfl | rfl <;> decide
def spx (L : List Int) : List Int := if okR L then specL L (sq (16 - L.length.log2)) L.length else []
theorem spx_len (L : List Int) : (spx L).length ≤ 1000 := by
  unfold spx
  cases h : okR L
  · simp
  · have := (okR_parts h).2.1
    simp [specL_len]
    omega
theorem nil_row (w : World) (B : Nat) : w.ownsRow B 2 1 (.slice none 0 0) 0 [] := ⟨rfl, .inl ⟨rfl, rfl⟩⟩

set_option maxHeartbeats 1000000 in
theorem sspec_any (L : List Int) (lf : L.length < 9223372036854775808) (w : World) (v : Value) (hL : Lists.Reads w v L) :
    Calls Try.prog 4 #[v] w fun e w' => ∃ u, e = .returned (.tuple #[u, .bool (okR L)]) ∧ w'.ownsRow w.heap.size 2 1 u (spx L).length (ints (spx L)) ∧ Below w.heap.size w w' := by
  have C1 : Hid (Calls Try.prog 10 #[v] w fun e w' => e = .returned (.bool (okR L)) ∧ ∃ m, w' = w.drewN m) := sres_any L v w hL lf
  unfold spx
  cases h : okR L
  · rw [h] at C1
    obtain ⟨a, cap, rfl⟩ := hL.form
    have RR : Hid (∀ m, ((w.alloc (Obj.cells #[] 2)).drewN m).ownsRow w.heap.size 2 1 (.slice (some ⟨w.heap.size, 0, none⟩) 0 0) 0 []) := fun m => lit_row w
    have BR : Hid (∀ m, Below w.heap.size w ((w.alloc (Obj.cells #[] 2)).drewN m)) := fun m => below_drewN ((Below.refl _ _).alloc (Nat.le_refl _) _) m
    clear hL h
    generalize L.length = n at *
    go_enter Try.func4, Try.ntmps4
    go_wp2_with fail
    refine C1.out.mono ?_
    rintro e w1 ⟨rfl, m1, rfl⟩
    go_wp2_with fail
    exact bodyPost_ret (v := .tuple #[.slice (some ⟨w.heap.size, 0, none⟩) 0 0, .bool false]) (by simp [results, Try.results4, go_sem]) rfl ⟨_, rfl, RR.out m1, BR.out m1⟩
  · rw [h] at C1
    rw [if_pos rfl, specL_len]
    obtain ⟨⟨c, hc, hl⟩, h1, hb⟩ := okR_parts h
    have T : Hid (∀ w, Calls Try.prog 12 #[.int .i64 (L.length : Int)] w fun e w' => e = .returned (.int .i64 (sq (16 - L.length.log2))) ∧ w' = w) := fun w => (by
      rw [hl, log_pow hc]
      exact sturn_any c hc w)
    have S : Hid (∀ m, Calls Try.prog 11 #[v, .int .i64 (sq (16 - L.length.log2))] (w.drewN m) fun e w' => ∃ u, e = .returned u ∧ w'.ownsRow w.heap.size 2 1 u L.length (ints (specL L (sq (16 - L.length.log2)) L.length)) ∧ Below w.heap.size w w') := fun m => (ssums_any L _ v (w.drewN m) (hL.on (below_drewN (Below.refl _ _) m)) (sq_bd _) h1 hb).mono (by
      rintro e w' ⟨u, rfl, ho, hb⟩
      exact ⟨u, rfl, ho, (below_drewN (Below.refl _ _) m).trans hb⟩)
    obtain ⟨a, cap, rfl⟩ := hL.form
    clear hL h hl hb hc
    generalize sq (16 - L.length.log2) = t at *
    generalize specL L t L.length = X at *
    generalize L.length = n at *
    go_enter Try.func4, Try.ntmps4
    go_wp2_with fail
    refine C1.out.mono ?_
    rintro e w1 ⟨rfl, m1, rfl⟩
    go_wp2_with fail
    refine (T.out _).mono ?_
    rintro e w2 ⟨rfl, hw⟩
    have hw' := hw.symm
    subst hw'
    go_wp2_with fail
    refine (S.out m1).mono ?_
    rintro e w2 ⟨u, rfl, ho, hb⟩
    have HO : Hid (w2.ownsRow w.heap.size 2 1 u n (ints X)) := ho
    have HB : Hid (Below w.heap.size w w2) := hb
    clear ho hb
    go_wp2_with fail
    exact bodyPost_ret (v := .tuple #[u, .bool true]) (by simp [results, Try.results4, go_sem]) rfl ⟨_, rfl, HO.out, HB.out⟩

set_option maxHeartbeats 1000000 in
theorem ispec_any (L : List Int) (lf : L.length < 9223372036854775808) (w : World) (v : Value) (hL : Lists.Reads w v L) :
    Calls Try.prog 6 #[v] w fun e w' => ∃ u, e = .returned (.tuple #[u, .bool (okR L)]) ∧ w'.ownsRow w.heap.size 2 1 u (spx L).length (ints (spx L)) ∧ Below w.heap.size w w' := by
  have C1 : Hid (Calls Try.prog 13 #[v] w fun e w' => e = .returned (.bool (okR L)) ∧ w' = w) := ires_any L v w hL lf
  unfold spx
  cases h : okR L
  · rw [h] at C1
    obtain ⟨a, cap, rfl⟩ := hL.form
    have RR : Hid (∀ w' : World, w'.ownsRow w.heap.size 2 1 (.slice none 0 0) 0 []) := fun w' => nil_row w' _
    clear hL h
    generalize L.length = n at *
    go_enter Try.func6, Try.ntmps6
    go_wp2_with fail
    refine C1.out.mono ?_
    rintro e w1 ⟨rfl, hw⟩
    have hw' := hw.symm
    subst hw'
    go_wp2_with fail
    exact bodyPost_ret (v := .tuple #[.slice none 0 0, .bool false]) (by simp [results, Try.results6, go_sem]) rfl ⟨_, rfl, RR.out _, Below.refl _ _⟩
  · rw [h] at C1
    rw [if_pos rfl, specL_len]
    obtain ⟨⟨c, hc, hl⟩, h1, hb⟩ := okR_parts h
    have T : Hid (Calls Try.prog 15 #[] w fun e w' => e = .returned (.agg pc) ∧ Below w.heap.size w w') := powers_any w
    have S : Hid (∀ w', Below w.heap.size w w' → Calls Try.prog 14 #[v, .agg pc, .int .i64 1] w' fun e w2 => ∃ u, e = .returned u ∧ w2.ownsRow w.heap.size 2 1 u L.length (ints (specL L (sq (16 - L.length.log2)) L.length)) ∧ Below w.heap.size w w2) := fun w' hw => (by
      have := turned_any L c v w' (hL.on hw) hc hl h1 hb
      have e : L.length.log2 = c := by rw [hl, log_pow hc]
      rw [e]
      refine this.mono ?_
      rintro e w2 ⟨u, rfl, ho, hb⟩
      exact ⟨u, rfl, row_low ho hw.size, hw.trans (hb.mono hw.size)⟩)
    obtain ⟨a, cap, rfl⟩ := hL.form
    clear hL h hl hb hc
    generalize sq (16 - L.length.log2) = t at *
    generalize specL L t L.length = X at *
    generalize L.length = n at *
    go_enter Try.func6, Try.ntmps6
    go_wp2_with fail
    refine C1.out.mono ?_
    rintro e w1 ⟨rfl, hw⟩
    have hw' := hw.symm
    subst hw'
    go_wp2_with fail
    refine T.out.mono ?_
    rintro e w2 ⟨rfl, b2⟩
    have B2 : Hid (Below w.heap.size w w2) := b2
    clear b2
    go_wp2_with fail
    refine (S.out w2 B2.out).mono ?_
    rintro e w3 ⟨u, rfl, ho, hb⟩
    have HO : Hid (w3.ownsRow w.heap.size 2 1 u n (ints X)) := ho
    have HB : Hid (Below w.heap.size w w3) := hb
    clear ho hb
    go_wp2_with fail
    exact bodyPost_ret (v := .tuple #[u, .bool true]) (by simp [results, Try.results6, go_sem]) rfl ⟨_, rfl, HO.out, HB.out⟩
end Go.Proofs.Ytchlpkgmflbaeaa.Sp
