/- unpack: all steps taken back. -/
import Derived.Test.YtpokbicnogcijaaUb
namespace Go.Proofs.Ytpokbicnogcijaa.Lists
open Go.ChangeShapes Go.WideShapes Go.ChangeAt Go.RowKit
attribute [local go_sem] Oper.semAt_some

set_option maxRecDepth 20000 in
set_option maxHeartbeats 4000000 in
theorem unpack_any (w : World) (s g n cap : Nat) (X : List Int) (hn : X.length = n) (hl : n ≤ 4096) (hg : g < w.heap.size) (hs : 1 ≤ s ∧ s ≤ 12) (hb : bnd n X) (K : ∀ i, i < n → w.cell? ⟨g, i, none⟩ = some (.int .i64 ((wav s n X).getD i 0))) :
    Calls Try.prog 49 #[.agg #[.int .i64 (s : Int)], .slice (some ⟨g, 0, none⟩) n cap] w fun e w' => ∃ g' c', e = .returned (.slice (some ⟨g', 0, none⟩) n c') ∧ w.heap.size ≤ g' ∧ n ≤ c' ∧ c' ≤ maxLen ∧ w'.ownsRow w.heap.size 2 1 (.slice (some ⟨g', 0, none⟩) n c') n (ints X) ∧ Below w.heap.size w w' := by
  obtain ⟨s1, s2⟩ := hs
  have cb : (w.alloc (.cells #[.int .i64 (s : Int)] 39)).cell? ⟨w.heap.size, 0, none⟩ = some (.int .i64 (s : Int)) := by simp [go_sem]
  have B0 : Hid (Below w.heap.size w (w.alloc (.cells #[.int .i64 (s : Int)] 39))) := (Below.refl _ _).alloc (Nat.le_refl _) _
  have CL := clone_any (w.alloc (.cells #[.int .i64 (s : Int)] 39)) g n cap (wav s n X) (by rw [wav_len]; exact hn) hl (by simp; omega) (fun i hi => by rw [World.cell?_alloc_lt _ _ _ hg]; exact K i hi)
  have HC : Hid (Calls Try.prog 50 #[.slice (some ⟨g, 0, none⟩) n cap] (w.alloc (.cells #[.int .i64 (s : Int)] 39)) fun e w' => ∃ g' c', e = .returned (.slice (some ⟨g', 0, none⟩) n c') ∧ (w.alloc (.cells #[.int .i64 (s : Int)] 39)).heap.size ≤ g' ∧ n ≤ c' ∧ c' ≤ maxLen ∧ w'.ownsRow (w.alloc (.cells #[.int .i64 (s : Int)] 39)).heap.size 2 1 (.slice (some ⟨g', 0, none⟩) n c') n (ints (wav s n X)) ∧ Below (w.alloc (.cells #[.int .i64 (s : Int)] 39)).heap.size (w.alloc (.cells #[.int .i64 (s : Int)] 39)) w') := CL
  have HB : Hid (bnd n X) := hb
  have HX : Hid (X.length = n) := hn
  have sz : (w.alloc (.cells #[.int .i64 (s : Int)] 39)).heap.size = w.heap.size + 1 := by simp
  have f50 : Fence.wide.fn 50 := trivial
  have f47 : Fence.wide.fn 47 := trivial
  have f52 : Fence.wide.fn 52 := trivial
  have f53 : Fence.wide.fn 53 := trivial
  clear CL K hn hb
  refine (callsIn_wide (n := 5)).1 ?_
  refine callsIn_of_wp_marks Try.func49 rfl trivial ?_ rfl
  simp only [Try.ntmps49, List.size_toArray, List.length_cons, List.length_nil, Nat.reduceAdd, Nat.reduceSub, Array.replicate_succ, Array.replicate_zero, List.push_toArray, List.append_toArray, List.nil_append, List.cons_append]
  gi_wp2_with fail
  refine (callsIn_wide.2 HC.out).mono ?_
  rintro e w1 ⟨g', c', rfl, q1, q2, q3, o1, b1⟩
  rw [sz] at q1 o1 b1
  have cb1 : w1.cell? ⟨w.heap.size, 0, none⟩ = some (.int .i64 (s : Int)) := (b1.cell (p := ⟨w.heap.size, 0, none⟩) (by show w.heap.size < _; omega)).trans cb
  have B1 : Hid (Below w.heap.size w w1) := B0.out.trans (b1.mono (by omega))
  have O1 : Hid (w1.ownsRow (w.heap.size + 1) 2 1 (.slice (some ⟨g', 0, none⟩) n c') n (ints (wav s n X))) := o1
  have g1 : g' < w1.heap.size := (o1.lt g' rfl).2
  have z1 : w.heap.size < w1.heap.size := World.block_lt_of_cell? w1 _ cb1
  clear o1 b1 HC B0 cb sz
  obtain ⟨w2, hw2⟩ : ∃ w2, w2 = w1.alloc (Obj.cells #[.slice (some ⟨g', 0, none⟩) n c'] 22) := ⟨_, rfl⟩
  have HW2 : Hid (w2 = w1.alloc (Obj.cells #[.slice (some ⟨g', 0, none⟩) n c'] 22)) := hw2
  have b2 : Below w1.heap.size w1 w2 := by rw [hw2]; exact (Below.refl _ _).alloc (Nat.le_refl _) _
  have z2 : w2.heap.size = w1.heap.size + 1 := by rw [hw2]; simp
  have l2 : w2.cell? ⟨w1.heap.size, 0, none⟩ = some (.slice (some ⟨g', 0, none⟩) n c') := by rw [hw2]; simp [go_sem]
  have cb2 : w2.cell? ⟨w.heap.size, 0, none⟩ = some (.int .i64 (s : Int)) := (b2.cell (p := ⟨w.heap.size, 0, none⟩) (by show w.heap.size < _; omega)).trans cb1
  have FR := fronts_any w2 s n s2 hl
  have B2 : Hid (Below w.heap.size w w2) := B1.out.trans (b2.mono B1.out.size)
  have O2 : Hid (w2.ownsRow (w.heap.size + 1) 2 1 (.slice (some ⟨g', 0, none⟩) n c') n (ints (wav s n X))) := O1.out.kept (row := none) (Below.grownBy b2 none) (.inr (by simp [Value.ownBlock]))
  clear hw2 b2 B1 O1
  rw [HW2.out] at cb2 l2
  gi_wp2_with fail
  rw [← HW2.out]
  rw [← HW2.out] at cb2 l2
  refine (callsIn_wide.2 FR).mono ?_
  rintro e w3 ⟨v3, rfl, o3, b3⟩
  have O3 : Hid (w3.ownsRow (w.heap.size + 1) 2 1 (.slice (some ⟨g', 0, none⟩) n c') n (ints (wav s n X))) := O2.out.kept (row := none) (Below.grownBy b3 none) (.inr (by simp [Value.ownBlock]))
  have B3 : Hid (Below w.heap.size w w3) := B2.out.trans (b3.mono B2.out.size)
  have l3 := (b3.cell (p := ⟨w1.heap.size, 0, none⟩) (by show w1.heap.size < _; omega)).trans l2
  have z3 := b3.size
  obtain ⟨va, vc, ev⟩ := row_form o3
  subst ev
  obtain ⟨gf, ev, gf1, gf2, fk⟩ : ∃ gf, va = some ⟨gf, 0, none⟩ ∧ w2.heap.size ≤ gf ∧ gf < w3.heap.size ∧ ∀ i, i < s → w3.cell? ⟨gf, i, none⟩ = some (.int .i64 (ft i n : Int)) := by
    rcases o3.2 with ⟨h1, h2⟩ | ⟨gf, cap, cur, h1, h2, h3, h4, h5, h6⟩
    · omega
    · injection h1 with h1 _ h1c
      subst h1 h1c
      refine ⟨gf, rfl, h2, (o3.lt gf rfl).2, fun i hi => ?_⟩
      have := o3.cellAt i (by omega)
      rw [this]
      have hl : i < (fr s n).length := by rw [fr_len]; exact hi
      have e := fr_get s n i hi
      simp [List.getD_eq_getElem?_getD, List.getElem?_eq_getElem hl] at e
      simp [ints, List.getElem?_map, List.getElem?_eq_getElem hl, e]
  subst ev
  have FK : Hid (∀ i, i < s → w3.cell? ⟨gf, i, none⟩ = some (.int .i64 (ft i n : Int))) := fk
  clear o3 b3 O2 B2 cb1 cb2 l2 HW2 FR fk
  gi_wp2_with fail
  refine (back_in (some ⟨gf, 0, none⟩) s vc w3).mono ?_
  rintro e w4 ⟨rfl, hw4⟩
  have b4 : Below w3.heap.size w3 w4 := by rw [hw4]; exact (Below.refl _ _).alloc (Nat.le_refl _) _
  have z4 : w4.heap.size = w3.heap.size + 1 := by rw [hw4]; simp
  have F4 : Fx w4 w3.heap.size gf s vc n := ⟨by rw [hw4]; simp [go_sem], fun i hi => (b4.cell (p := ⟨gf, i, none⟩) gf2).trans (FK.out i hi), by omega, by omega⟩
  have O4 : Hid (w4.ownsRow (w.heap.size + 1) 2 1 (.slice (some ⟨g', 0, none⟩) n c') n (ints (wav s n X))) := O3.out.kept (row := none) (Below.grownBy b4 none) (.inr (by simp [Value.ownBlock]))
  have B4 : Hid (Below w.heap.size w w4) := B3.out.trans (b4.mono B3.out.size)
  have l4 := (b4.cell (p := ⟨w1.heap.size, 0, none⟩) (by show w1.heap.size < _; omega)).trans l3
  clear hw4 b4 O3 B3 l3 FK
  gi_wp2_with fail
  refine Rf.rangeG rfl (by omega) (gf := 54) (lb := #[.pointer (some ⟨w3.heap.size, 0, none⟩)]) rfl trivial (enters_of Try.func54 (by kernel_rfl) rfl)
    (Y := fun k => k = g' ∨ w4.heap.size + 2 ≤ k) ⟨fun h => by omega, fun h => by omega⟩ (xs := xs s)
    (back_seq s n w3.heap.size gf vc s2 w4 F4 _ ⟨fun h => by omega, fun h => by omega⟩)
    (fun _ => rfl)
    (fun pre W => W.cell? ⟨w1.heap.size, 0, none⟩ = some (.slice (some ⟨g', 0, none⟩) n c') ∧ W.ownsRow (w.heap.size + 1) 2 1 (.slice (some ⟨g', 0, none⟩) n c') n (ints (wav (s - pre.length) n X)) ∧ Below w.heap.size w W)
    ?stable ?start
    (fun l k a' W => a' = { tmps := #[.agg #[.int .i64 (s : Int)], .slice (some ⟨g, 0, none⟩) n cap, .pointer (some ⟨w.heap.size, 0, none⟩), undef, .slice none 0 0, .pointer (some ⟨w1.heap.size, 0, none⟩), undef, .int .i64 (ft k n : Int), .slice (some ⟨g, 0, none⟩) n cap, .slice (some ⟨g', 0, none⟩) n c', .agg #[.int .i64 (s : Int)], .slice (some ⟨g, 0, none⟩) n cap, .int .i64 (n : Int), .slice (some ⟨gf, 0, none⟩) s vc, .func (.func 54) #[] #[.pointer (some ⟨w3.heap.size, 0, none⟩)], .int .i64 (k : Int), .int .i64 (ft k n : Int), undef, undef, undef, undef, undef], defers := [] })
    ?keeps ?assign ?body ?done
  case stable =>
    rintro pre A C ⟨h1, h2, h3⟩ hg
    have hh := (h2.lt g' rfl).2
    have hl1 := World.block_lt_of_cell? A _ h1
    refine ⟨(World.cell?_of_block (hg.block _ hl1 (fun q => by simp at q; omega))).trans h1, h2.kept hg (.inr (by simp [Value.ownBlock]; omega)), h3.grown hg h3.size (fun k e => by cases e; omega)⟩
  case start => exact ⟨l4, O4.out, B4.out⟩
  case keeps => intro l k a' A C h _; exact h
  case assign =>
    intro l k W K hl hK
    gi_wp2
    exact hK _ _ (Below.refl _ _) rfl
  case body =>
    rintro l pre k a' W rfl hlW ⟨h1, h2, h3⟩ rfl hpre
    obtain ⟨p1, p2⟩ := xs_pre hpre
    have ep : s - pre.length = k + 1 := by omega
    rw [ep, wav_snoc] at h2
    have hff := ft_le k n
    have PP : Hid (Calls Try.prog 53 #[.slice (some ⟨g', 0, none⟩) (ft k n) c'] W fun e w' => e = .returned (.tuple #[]) ∧ w'.ownsRow (w.heap.size + 1) 2 1 (.slice (some ⟨g', 0, none⟩) n c') n (ints (wav k n X)) ∧ W.grownBy w' (some g')) :=
      joinf_any W (w.heap.size + 1) g' (ft k n) n c' c' (wav k n X) (by rw [wav_len, HX.out]) hl hff (by omega) q3 (wav_bnd (by rw [HX.out]; exact Nat.le_refl _) HB.out) h2
    have EK : Hid (s - (pre ++ [k]).length = k) := (by show _ = _; simp; omega)
    have H3 : Hid (Below w.heap.size w W) := h3
    have G8 : Hid (g' < W.heap.size ∧ w1.heap.size < W.heap.size) := ⟨(h2.lt g' rfl).2, World.block_lt_of_cell? W _ h1⟩
    obtain ⟨f, hf⟩ : ∃ f, f = ft k n := ⟨_, rfl⟩
    rw [← hf] at PP hff ⊢
    have a3 : (f : Int) ≤ (c' : Int) := by omega
    have a4 : (0 : Int) ≤ (f : Int) := by omega
    clear h2 h3 hf hpre F4
    unfold maxLen at q3
    refine wpIn_block ?_
    gi_wp2_with fail
    refine (callsIn_wide.2 PP.out).mono ?_
    rintro e w5 ⟨rfl, o5, g5⟩
    have BN : Hid (Rf.But (fun k => k = g' ∨ w4.heap.size + 2 ≤ k) W w5) := ⟨g5.size, fun kk k1 k2 => g5.block kk k1 (fun e => k2 (.inl (by cases e; rfl)))⟩
    have C5 : Hid (w5.cell? ⟨w1.heap.size, 0, none⟩ = some (.slice (some ⟨g', 0, none⟩) n c')) := (World.cell?_of_block (g5.block _ G8.out.2 (fun e => absurd (Option.some.inj e) (show ¬ w1.heap.size = g' by omega)))).trans h1
    have O5 : Hid (w5.ownsRow (w.heap.size + 1) 2 1 (.slice (some ⟨g', 0, none⟩) n c') n (ints (wav (s - (pre ++ [k]).length) n X))) := (by show World.ownsRow _ _ _ _ _ _ _; rw [EK.out]; exact o5)
    have B5 : Hid (Below w.heap.size w w5) := H3.out.grown g5 H3.out.size (fun b hb => by simp at hb; omega)
    clear o5 g5 PP h1
    gi_wp2_with fail
    exact ⟨BN.out, C5.out, O5.out, B5.out⟩
  case done =>
    rintro D W hD ⟨h1, h2, h3⟩ hK
    rw [xs_len, Nat.sub_self] at h2
    have BE : Hid (Below w.heap.size w (W.putObj D (.deferred none))) := h3.trans ((Below.refl _ W).grown (grownBy_putObj' W D _) (by have := (Array.getElem?_eq_some_iff.1 hK).1; omega) (fun k e => by cases e; omega))
    have RE : Hid ((W.putObj D (.deferred none)).ownsRow w.heap.size 2 1 (.slice (some ⟨g', 0, none⟩) n c') n (ints X)) := (by
      show World.ownsRow _ _ _ _ _ _ _
      have h7 := ownsRow_putObj h2 (.deferred none) hK rfl
      refine ⟨h7.1, ?_⟩
      rcases h7.2 with h | ⟨gx, cap, cur, q1, q2, q3⟩
      · exact .inl h
      · exact .inr ⟨gx, cap, cur, q1, by omega, q3⟩)
    clear h2 h3
    gi_wp2
    refine ⟨by simp, .inl ⟨_, _, rfl, run_takeDeferred hK, ?_⟩⟩
    exact ⟨_, results_tmp rfl _ _ _, _, _, rfl, by omega, q2, q3, RE.out, BE.out⟩
end Go.Proofs.Ytpokbicnogcijaa.Lists
