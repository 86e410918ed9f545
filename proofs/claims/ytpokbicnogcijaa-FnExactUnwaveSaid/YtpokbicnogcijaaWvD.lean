/- The program's wavelets: the fronts of all steps, and all steps in place. -/
import Derived.Test.YtpokbicnogcijaaWvC
namespace Go.Proofs.Ytpokbicnogcijaa.Lists
open Go.ChangeShapes Go.WideShapes Go.ChangeAt Go.RowKit

theorem Try.info3 : (Try.prog.info? 3).map (fun i => (i.zero, i.size, i.bytes)) = some (some (.int .i64 0), 1, 8) := by kernel_rfl

theorem ints_snoc (L : List Int) (x : Int) : ints (L ++ [x]) = ints L ++ [.int .i64 x] := by simp [ints]
theorem row_form {w : World} {base n : Nat} {e : TypeId} {v : Value} {xs : List Value} (h : w.ownsRow base e 1 v n xs) : ∃ a cap, v = .slice a n cap := by
  rcases h.2 with ⟨rfl, rfl⟩ | ⟨g, cap, _, rfl, _⟩
  · exact ⟨_, _, rfl⟩
  · exact ⟨_, _, rfl⟩

set_option maxHeartbeats 1000000 in
theorem fronts_any (w : World) (s m : Nat) (hs : s ≤ 12) (hm : m ≤ 4096) :
    Calls Try.prog 47 #[.agg #[.int .i64 (s : Int)], .int .i64 (m : Int)] w fun e w' => ∃ v, e = .returned v ∧ w'.ownsRow w.heap.size 3 1 v s (ints (fr s m)) ∧ Below w.heap.size w w' := by
  obtain ⟨i0, hi, hz0, hz1, hz2⟩ := info_parts Try.info3
  have cb : (w.alloc (.cells #[.int .i64 (s : Int)] 39)).cell? ⟨w.heap.size, 0, none⟩ = some (.int .i64 (s : Int)) := by simp [go_sem]
  have B0 : Hid (Below w.heap.size w (w.alloc (.cells #[.int .i64 (s : Int)] 39))) := (Below.refl _ _).alloc (Nat.le_refl _) _
  go_enter Try.func47, Try.ntmps47
  go_wp2_with fail
  go_loopw [1, 5, 8] (fun c v i wr => ∃ k : Nat, k ≤ s ∧ c = .int .i64 (ft k m) ∧ i = .int .i64 k ∧ Hid (wr.ownsRow w.heap.size 3 1 v k (ints (fr k m))) ∧ Hid (Below w.heap.size w wr)) (fun _ _ i _ => s - (intOf i).toNat)
  case atStart => exact ⟨0, Nat.zero_le _, rfl, rfl, World.ownsRow_nil _ _ _ _, B0⟩
  case round =>
    obtain ⟨k, hk, rfl, rfl, O, BB⟩ := hrel
    obtain ⟨sa, sc, rfl⟩ := row_form O.out
    obtain ⟨f, hf⟩ : ∃ f, f = ft k m := ⟨_, rfl⟩
    have hfm : f ≤ 4096 := by have := ft_le k m; omega
    obtain ⟨f2, hf2⟩ : ∃ f2, f2 = f / 2 := ⟨_, rfl⟩
    have q1 : Int.tdiv (f : Int) 2 = (f2 : Int) := by rw [hf2]; rfl
    obtain ⟨f3, hf3⟩ : ∃ f3, f3 = f - f / 2 := ⟨_, rfl⟩
    have q2 : (f : Int) - (f2 : Int) = (f3 : Int) := by omega
    have F3 : Hid (f3 = ft (k + 1) m) := (by show _ = _; rw [ft_succ, ← hf]; exact hf3)
    have FF : Hid (f = ft k m) := hf
    rw [← hf]
    clear hf hf2 hf3
    by_cases hlt : k < s
    · have a1 : (k : Int) < (s : Int) := by omega
      have hsz := BB.out.size
      go_wp2_with (at_builtin; refine wpList_append_own_at _ rfl _ _ 36 rfl w.heap.size 3 i0 (.int .i64 0) 1 8 Try.underlying36 hi hz0 hz1 hz2 rfl (by decide) _ _ _ rfl (O.out.alloc _) ⟨wr.heap.size, 0, none⟩ 1 1 [.int .i64 (f : Int)] rfl rfl (cell_one_new _ _ _) ?c2 ?c3 ?c4 ?c5 ?_)
      case c2 => intro u hu; simp at hu; subst hu; rfl
      case c3 => unfold maxLen; omega
      case c4 => omega
      case c5 => simp; omega
      intro v' w2 hown hgrow hnil hat
      have O2 : Hid (w2.ownsRow w.heap.size 3 1 v' (k + 1) (ints (fr (k + 1) m))) := (by show World.ownsRow _ _ _ _ _ _ _; rw [fr_snoc, ints_snoc, ← FF.out]; exact hown)
      have B2 : Hid (Below w.heap.size w w2) := (BB.out.alloc BB.out.size _).grown hgrow (by simp; omega) (fun b hb => (O.out.lt b hb).1)
      clear hown hgrow hnil hat O BB
      go_wp2_with fail
      go_roundw
      case rel => exact ⟨k + 1, by omega, (by rw [← F3.out]), by go_num, O2, B2⟩
      case measure => simp [intOf]; omega
    · have hks : k = s := by omega
      subst hks
      go_wp2_with fail
      go_ret
      exact ⟨_, rfl, O.out, BB.out⟩

set_option maxHeartbeats 1000000 in
theorem pack_any (w : World) (s g n cap : Nat) (X : List Int) (hn : X.length = n) (hl : n ≤ 4096) (hg : g < w.heap.size) (hs : s ≤ 12) (hb : bnd n X) (K : ∀ i, i < n → w.cell? ⟨g, i, none⟩ = some (.int .i64 (X.getD i 0))) :
    Calls Try.prog 48 #[.agg #[.int .i64 (s : Int)], .slice (some ⟨g, 0, none⟩) n cap] w fun e w' => ∃ g' c', e = .returned (.slice (some ⟨g', 0, none⟩) n c') ∧ w.heap.size ≤ g' ∧ w'.ownsRow w.heap.size 2 1 (.slice (some ⟨g', 0, none⟩) n c') n (ints (wav s n X)) ∧ Below w.heap.size w w' := by
  have cb : (w.alloc (.cells #[.int .i64 (s : Int)] 39)).cell? ⟨w.heap.size, 0, none⟩ = some (.int .i64 (s : Int)) := by simp [go_sem]
  have B0 : Hid (Below w.heap.size w (w.alloc (.cells #[.int .i64 (s : Int)] 39))) := (Below.refl _ _).alloc (Nat.le_refl _) _
  have CL := clone_any (w.alloc (.cells #[.int .i64 (s : Int)] 39)) g n cap X hn hl (by simp; omega) (fun i hi => by rw [World.cell?_alloc_lt _ _ _ hg]; exact K i hi)
  have HC : Hid (Calls Try.prog 50 #[.slice (some ⟨g, 0, none⟩) n cap] (w.alloc (.cells #[.int .i64 (s : Int)] 39)) fun e w' => ∃ g' c', e = .returned (.slice (some ⟨g', 0, none⟩) n c') ∧ (w.alloc (.cells #[.int .i64 (s : Int)] 39)).heap.size ≤ g' ∧ n ≤ c' ∧ c' ≤ maxLen ∧ w'.ownsRow (w.alloc (.cells #[.int .i64 (s : Int)] 39)).heap.size 2 1 (.slice (some ⟨g', 0, none⟩) n c') n (ints X) ∧ Below (w.alloc (.cells #[.int .i64 (s : Int)] 39)).heap.size (w.alloc (.cells #[.int .i64 (s : Int)] 39)) w') := CL
  have HB : Hid (bnd n X) := hb
  have HX : Hid (X.length = n) := hn
  clear CL K hn hb
  go_enter Try.func48, Try.ntmps48
  go_wp2_with fail
  refine HC.out.mono ?_
  rintro e w1 ⟨g', c', rfl, q1, q2, q3, o1, b1⟩
  have sz : (w.alloc (.cells #[.int .i64 (s : Int)] 39)).heap.size = w.heap.size + 1 := by simp
  rw [sz] at q1 o1 b1
  have cb1 : w1.cell? ⟨w.heap.size, 0, none⟩ = some (.int .i64 (s : Int)) := (b1.cell (p := ⟨w.heap.size, 0, none⟩) (by show w.heap.size < _; omega)).trans cb
  have B1 : Hid (Below w.heap.size w w1) := B0.out.trans (b1.mono (by omega))
  have O1 : Hid (w1.ownsRow (w.heap.size + 1) 2 1 (.slice (some ⟨g', 0, none⟩) n c') n (ints (wav 0 n X))) := o1
  have g1 : g' < w1.heap.size := (o1.lt g' rfl).2
  clear o1 b1 HC B0 cb sz
  unfold maxLen at q3
  go_wp2_with fail
  refine (fronts_any w1 s n hs hl).mono ?_
  rintro e w2 ⟨v2, rfl, o2, b2⟩
  have O2 : Hid (w2.ownsRow (w.heap.size + 1) 2 1 (.slice (some ⟨g', 0, none⟩) n c') n (ints (wav 0 n X))) := O1.out.kept (row := none) (Below.grownBy b2 none) (.inr (by simp [Value.ownBlock]))
  have B2 : Hid (Below w.heap.size w w2) := B1.out.trans (b2.mono B1.out.size)
  obtain ⟨va, vc, rfl⟩ := row_form o2
  have FK : Hid (∀ i, i < s → ∃ gf, va = some ⟨gf, 0, none⟩ ∧ gf ≠ g' ∧ gf < w2.heap.size ∧ w2.cell? ⟨gf, i, none⟩ = some (.int .i64 (ft i n))) := fun i hi => by
    rcases o2.2 with ⟨h1, h2⟩ | ⟨gf, cap, cur, h1, h2, h3, h4, h5, h6⟩
    · omega
    · injection h1 with h1 _ h1c
      subst h1 h1c
      refine ⟨gf, rfl, by omega, (o2.lt gf rfl).2, ?_⟩
      have := o2.cellAt i (by omega)
      rw [this]
      have hl : i < (fr s n).length := by rw [fr_len]; exact hi
      have e := fr_get s n i hi
      simp [List.getD_eq_getElem?_getD, List.getElem?_eq_getElem hl] at e
      simp [ints, List.getElem?_map, List.getElem?_eq_getElem hl, e]
  clear o2 b2 O1 B1 cb1
  go_wp2_with fail
  go_loopw [7, 15] (fun _ i wr => ∃ k : Nat, k ≤ s ∧ i = .int .i64 k ∧ Hid (wr.ownsRow (w.heap.size + 1) 2 1 (.slice (some ⟨g', 0, none⟩) n c') n (ints (wav k n X))) ∧ Hid (Below w.heap.size w wr) ∧ Hid (w2.grownBy wr (some g'))) (fun _ i _ => s - (intOf i).toNat)
  case atStart => exact ⟨0, Nat.zero_le _, rfl, O2, B2, World.grownBy.refl _ _⟩
  case round =>
    obtain ⟨k, hk, rfl, O, BB, GG⟩ := hrel
    by_cases hlt : k < s
    · have a1 : (k : Int) < (s : Int) := by omega
      have a0 : (0 : Int) ≤ (k : Int) := by omega
      obtain ⟨gf, rfl, f1, f2, f3⟩ := FK.out k hlt
      have r1 : wr.cell? ⟨gf, k, none⟩ = some (.int .i64 (ft k n)) := GG.out.cell f3 (fun e => by simp at e; omega)
      have PP : Hid (∀ c, Calls Try.prog 51 #[.slice (some ⟨g', 0, none⟩) (ft k n) c] wr fun e w' => e = .returned (.tuple #[]) ∧ w'.ownsRow (w.heap.size + 1) 2 1 (.slice (some ⟨g', 0, none⟩) n c') n (ints (wav (k + 1) n X)) ∧ wr.grownBy w' (some g')) := fun c => by
        rw [wav_snoc]
        exact part_any wr (w.heap.size + 1) g' (ft k n) n c c' (wav k n X) (by rw [wav_len, HX.out]) hl (ft_le k n) (wav_bnd (by rw [HX.out]; exact Nat.le_refl _) HB.out) O.out
      have ffl := ft_le k n
      obtain ⟨f, hf⟩ : ∃ f, f = ft k n := ⟨_, rfl⟩
      rw [← hf] at r1 PP ffl
      clear hf f3
      have a3 : (f : Int) ≤ (c' : Int) := by omega
      have a4 : (0 : Int) ≤ (f : Int) := by omega
      go_wp2_with fail
      refine (PP.out _).mono ?_
      rintro e w3 ⟨rfl, o3, g3⟩
      have O3 : Hid (w3.ownsRow (w.heap.size + 1) 2 1 (.slice (some ⟨g', 0, none⟩) n c') n (ints (wav (k + 1) n X))) := o3
      have B3 : Hid (Below w.heap.size w w3) := BB.out.grown g3 BB.out.size (fun b hb => by simp at hb; omega)
      have G3 : Hid (w2.grownBy w3 (some g')) := GG.out.trans g3
      clear o3 g3 O BB GG PP
      go_wp2_with fail
      go_roundw
      case rel => exact ⟨k + 1, by omega, by go_num, O3, B3, G3⟩
      case measure => simp [intOf]; omega
    · have hks : k = s := by omega
      subst hks
      have a1 : ¬ ((k : Int) < (k : Int)) := by omega
      have OE : Hid (wr.ownsRow w.heap.size 2 1 (.slice (some ⟨g', 0, none⟩) n c') n (ints (wav k n X))) := (by
        refine ⟨O.out.1, ?_⟩
        rcases O.out.2 with h | ⟨gx, cap, cur, h1, h2, h3⟩
        · exact .inl h
        · exact .inr ⟨gx, cap, cur, h1, by omega, h3⟩)
      go_wp2_with fail
      go_ret
      exact ⟨_, _, rfl, by omega, OE.out, BB.out⟩
end Go.Proofs.Ytpokbicnogcijaa.Lists
