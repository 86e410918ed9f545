/- Two lists put together by the library. -/
import Derived.Test.YtefheoafpkghjaaPf
import Derived.Lib.AppendZerosOnto
import Derived.Lib.Walk
import Derived.Lib.SliceRun
namespace Go.Proofs.Ytefheoafpkghjaa.Pe
open Go.ChangeShapes Go.WideShapes Go.ChangeAt Go.RowKit
open Go.Proofs.Ytefheoafpkghjaa.Lists Go.Proofs.Ytefheoafpkghjaa.Al

theorem zero_size (n : Nat) : (Builtin.zeroCells (Value.int .i64 0).cells n).size = n := by simp [Builtin.zeroCells, Value.cells]

set_option maxHeartbeats 1000000 in
theorem grow_any (n : Nat) (h1 : 1 ≤ n) (h2 : n ≤ 16) (w : World) : Calls Try.prog 22 #[.slice none 0 0, .int .i64 (n : Int)] w fun e w' => ∃ G, e = .returned (.slice (some ⟨w.heap.size, 0, none⟩) 0 G) ∧ w'.ownsRow w.heap.size 2 1 (.slice (some ⟨w.heap.size, 0, none⟩) 0 G) 0 (ints []) ∧ Below w.heap.size w w' := by
  obtain ⟨i0, hi, hz0, hz1, hz2⟩ := info_parts Lists.Try.info2
  have hrz : ∀ ty, (Builtin.append_ #[24, 3] ty #[.slice none 0 0, .int .i64 (n : Int)]).run Try.prog w =
      .ok (.slice (some ⟨w.heap.size, 0, none⟩) (0 + n) (grownCap w (0 + n) 0 2)) (w.drew.alloc (.cells (([] : List Value).toArray ++ Builtin.zeroCells (Value.int .i64 0).cells n ++ Builtin.zeroCells (Value.int .i64 0).cells (grownCap w (0 + n) 0 2 - (0 + n))) 2)) := fun ty =>
    Lib.run_append_grow_zeros w 24 3 ty 2 i0 (.int .i64 0) .i64 .i64 Try.underlying24 Try.underlying3 hi hz0 none 0 0 [] (Go.run_firstCells_none w.drew i0.size 0 0 0) n (by omega) (by rw [hz1]; omega) (by omega) (by omega) (by rw [hz2]; omega) (by rw [hz2]; exact growslice_fits (by omega) (by omega))
  have hGn : 0 + n ≤ grownCap w (0 + n) 0 2 := grownCap_ge w _ _ _
  have hG63 : grownCap w (0 + n) 0 2 ≤ maxLen := grownCap_le_maxLen w (0 + n) 0 2 (by unfold maxLen; omega)
  obtain ⟨G, hG⟩ : ∃ G, G = grownCap w (0 + n) 0 2 := ⟨_, rfl⟩
  rw [← hG] at hrz hGn hG63
  obtain ⟨cur, hcur⟩ : ∃ cur, cur = ([] : List Value).toArray ++ Builtin.zeroCells (Value.int .i64 0).cells n ++ Builtin.zeroCells (Value.int .i64 0).cells (G - (0 + n)) := ⟨_, rfl⟩
  have hcs : cur.size = G * 1 := by
    rw [hcur, Array.size_append, Array.size_append, zero_size, zero_size]
    simp
    omega
  rw [← hcur] at hrz
  have R : Hid ((w.drew.alloc (.cells cur 2)).ownsRow w.heap.size 2 1 (.slice (some ⟨w.heap.size, 0, none⟩) 0 G) 0 (ints [])) := ⟨rfl, .inr ⟨w.heap.size, G, cur, rfl, Nat.le_refl _, heap_alloc_new w.drew _, Nat.zero_le _, hG63, hcs, by simp [ints]⟩⟩
  have BB : Hid (Below w.heap.size w (w.drew.alloc (.cells cur 2))) := ((Below.refl w.heap.size w).drew).alloc (Nat.le_refl _) _
  have e1 : ¬ (n : Int) < 0 := by omega
  have e2 : (0 : Int) < (n : Int) := by omega
  unfold maxLen at hG63
  rw [Nat.zero_add] at hrz
  clear hG hcur hcs
  go_enter Try.func22, Try.ntmps22
  go_wp2_with (at_builtin; refine Lib.wpList_append_run _ rfl _ _ _ _ rfl _ _ rfl rfl _ _ (hrz _) ?_)
  go_ret
  exact ⟨G, rfl, R.out, BB.out⟩

theorem one_ints (L : List Int) : ∀ u ∈ ints L, u.oneCell' = true := by
  intro u hu
  simp [ints] at hu
  obtain ⟨a, _, rfl⟩ := hu
  rfl
theorem news_of {w : World} {b o : Nat} {L : List Int} (h : ∀ i, i < L.length → w.cell? ⟨b, o + i, none⟩ = some (.int .i64 (L.getD i 0))) : ∀ j u, (ints L)[j]? = some u → w.cell? ((⟨b, o, none⟩ : Addr).add j) = some u := by
  intro j u hj
  have hl : j < L.length := by
    have := (List.getElem?_eq_some_iff.mp hj).1
    simpa [ints] using this
  have e : (⟨b, o, none⟩ : Addr).add j = ⟨b, o + j, none⟩ := by
    unfold Addr.add
    split
    · rename_i h; subst h; rfl
    · rfl
  rw [e, h j hl]
  simp [ints, hl] at hj
  rw [← hj]
  simp [List.getD_eq_getElem?_getD, hl]

set_option maxHeartbeats 1000000 in
theorem concat_any (A B : List Int) (ba oa ca bb ob cb S : Nat) (w : World) (hA : ∀ i, i < A.length → w.cell? ⟨ba, oa + i, none⟩ = some (.int .i64 (A.getD i 0))) (hB : ∀ i, i < B.length → w.cell? ⟨bb, ob + i, none⟩ = some (.int .i64 (B.getD i 0)))
    (lA : 1 ≤ A.length ∧ A.length ≤ 8) (lB : 1 ≤ B.length ∧ B.length ≤ 8) (sA : ba < w.heap.size) (sB : bb < w.heap.size) (sS : S < w.heap.size)
    (c0 : w.cell? ⟨S, 0, none⟩ = some (.slice (some ⟨ba, oa, none⟩) A.length ca)) (c1 : w.cell? ⟨S, 1, none⟩ = some (.slice (some ⟨bb, ob, none⟩) B.length cb)) :
    Calls Try.prog 15 #[.slice (some ⟨S, 0, none⟩) 2 2] w fun e w' => ∃ v, e = .returned v ∧ w'.ownsRow w.heap.size 2 1 v (A ++ B).length (ints (A ++ B)) ∧ Below w.heap.size w w' := by
  obtain ⟨i0, hi, hz0, hz1, hz2⟩ := info_parts Lists.Try.info2
  have G : Hid (Calls Try.prog 22 #[.slice none 0 0, .int .i64 ((A.length : Int) + (B.length : Int))] w fun e w' => ∃ G, e = .returned (.slice (some ⟨w.heap.size, 0, none⟩) 0 G) ∧ w'.ownsRow w.heap.size 2 1 (.slice (some ⟨w.heap.size, 0, none⟩) 0 G) 0 (ints []) ∧ Below w.heap.size w w') := (by
    have := grow_any (A.length + B.length) (by omega) (by omega) w
    rw [Int.natCast_add] at this
    exact this)
  have NA : Hid (∀ w', Below w.heap.size w w' → ∀ j u, (ints A)[j]? = some u → w'.cell? ((⟨ba, oa, none⟩ : Addr).add j) = some u) := fun w' hb => news_of fun i hi => by rw [hb.cell (p := ⟨ba, oa + i, none⟩) sA]; exact hA i hi
  have NB : Hid (∀ w', Below w.heap.size w w' → ∀ j u, (ints B)[j]? = some u → w'.cell? ((⟨bb, ob, none⟩ : Addr).add j) = some u) := fun w' hb => news_of fun i hi => by rw [hb.cell (p := ⟨bb, ob + i, none⟩) sB]; exact hB i hi
  have D0 : Hid (∀ w', Below w.heap.size w w' → w'.cell? ⟨S, 0, none⟩ = some (.slice (some ⟨ba, oa, none⟩) A.length ca) ∧ w'.cell? ⟨S, 1, none⟩ = some (.slice (some ⟨bb, ob, none⟩) B.length cb)) := fun w' hb => ⟨(hb.cell (p := ⟨S, 0, none⟩) sS).trans c0, (hb.cell (p := ⟨S, 1, none⟩) sS).trans c1⟩
  have LA : Hid ((ints A).length = A.length * 1) := (by show _ = _; simp [ints])
  have LBB : Hid ((ints B).length = B.length * 1) := (by show _ = _; simp [ints])
  have AP : Hid (ints (A ++ B) = ints A ++ ints B ∧ (A ++ B).length = A.length + B.length) := (by show _ ∧ _; simp [ints])
  rw [AP.out.1, AP.out.2]
  clear hA hB
  obtain ⟨n, hn⟩ : ∃ n, n = A.length := ⟨_, rfl⟩
  obtain ⟨m, hm⟩ : ∃ m, m = B.length := ⟨_, rfl⟩
  rw [← hn] at lA c0 G D0 LA ⊢
  rw [← hm] at lB c1 G D0 LBB ⊢
  clear hn hm AP
  go_enter Try.func15, Try.ntmps15
  go_wp2_with fail
  go_loop [3, 11] (fun s i => (i = .int .i64 0 ∧ s = .int .i64 0) ∨ (i = .int .i64 1 ∧ s = .int .i64 (n : Int)) ∨ (i = .int .i64 2 ∧ s = .int .i64 ((n : Int) + (m : Int)))) (fun _ i => 2 - (intOf i).toNat)
  case atStart => exact Or.inl ⟨rfl, rfl⟩
  case round =>
    rcases hrel with ⟨rfl, rfl⟩ | ⟨rfl, rfl⟩ | ⟨rfl, rfl⟩
    · have g1 : ¬ (n : Int) < 0 := by omega
      go_wp2_with fail
      go_round
      case rel => exact Or.inr (Or.inl ⟨rfl, rfl⟩)
      case measure => simp [intOf]
    · have g1 : ¬ (n : Int) + (m : Int) < 0 := by omega
      go_wp2_with fail
      go_round
      case rel => exact Or.inr (Or.inr ⟨rfl, rfl⟩)
      case measure => simp [intOf]
    · go_wp2_with fail
      refine G.out.mono ?_
      rintro e w2 ⟨gc, rfl, r2, b2⟩
      have R2 : Hid (w2.ownsRow w.heap.size 2 1 (.slice (some ⟨w.heap.size, 0, none⟩) 0 gc) 0 (ints [])) := r2
      have B2 : Hid (Below w.heap.size w w2) := b2
      clear r2 b2
      go_wp2_with fail
      go_loopw [6, 27] (fun v i wr => Hid (Below w.heap.size w wr) ∧ ((i = .int .i64 0 ∧ Hid (wr.ownsRow w.heap.size 2 1 v 0 (ints []))) ∨ (i = .int .i64 1 ∧ Hid (wr.ownsRow w.heap.size 2 1 v n (ints A))) ∨ (i = .int .i64 2 ∧ Hid (wr.ownsRow w.heap.size 2 1 v (n + m) (ints A ++ ints B))))) (fun _ i _ => 2 - (intOf i).toNat)
      case atStart => exact ⟨B2, Or.inl ⟨rfl, R2⟩⟩
      case round =>
        obtain ⟨BB, hrel⟩ := hrel
        obtain ⟨v, hv⟩ : ∃ v, v = u6 := ⟨_, rfl⟩
        subst hv
        have zr := BB.out.size
        obtain ⟨d0, d1⟩ := D0.out wr BB.out
        clear c0 c1
        rcases hrel with ⟨rfl, R⟩ | ⟨rfl, R⟩ | ⟨rfl, R⟩
        · go_wp2_with (at_builtin; refine wpList_append_own _ rfl _ _ 24 rfl w.heap.size 2 i0 (.int .i64 0) 1 8 Try.underlying24 hi hz0 hz1 hz2 rfl (by decide) _ _ _ rfl R.out ⟨ba, oa, none⟩ n ca (ints A) rfl LA.out (NA.out wr BB.out) (one_ints A) (by unfold maxLen; omega) (by omega) zr ?_)
          · intro v' w5 hown hgrow _
            have R5 : Hid (w5.ownsRow w.heap.size 2 1 v' n (ints A)) := (by show World.ownsRow _ _ _ _ _ _ _; simpa [ints] using hown)
            have B5 : Hid (Below w.heap.size w w5) := BB.out.grown hgrow zr (fun b hb => (R.out.lt b hb).1)
            clear hown hgrow
            go_wp2_with fail
            go_roundw
            case rel => exact ⟨B5, Or.inr (Or.inl ⟨rfl, R5⟩)⟩
            case measure => simp [intOf]
        · go_wp2_with (at_builtin; refine wpList_append_own _ rfl _ _ 24 rfl w.heap.size 2 i0 (.int .i64 0) 1 8 Try.underlying24 hi hz0 hz1 hz2 rfl (by decide) _ _ _ rfl R.out ⟨bb, ob, none⟩ m cb (ints B) rfl LBB.out (NB.out wr BB.out) (one_ints B) (by unfold maxLen; omega) (by omega) zr ?_)
          · intro v' w5 hown hgrow _
            have R5 : Hid (w5.ownsRow w.heap.size 2 1 v' (n + m) (ints A ++ ints B)) := hown
            have B5 : Hid (Below w.heap.size w w5) := BB.out.grown hgrow zr (fun b hb => (R.out.lt b hb).1)
            clear hown hgrow
            go_wp2_with fail
            go_roundw
            case rel => exact ⟨B5, Or.inr (Or.inr ⟨rfl, R5⟩)⟩
            case measure => simp [intOf]
        · go_wp2_with fail
          go_ret
          exact ⟨_, rfl, R.out, BB.out⟩
end Go.Proofs.Ytefheoafpkghjaa.Pe
