/- The differences, in the program. -/
import Derived.Test.YtmopkbkdfipglaaLn
namespace Go.Proofs.Ytmopkbkdfipglaa.Lists
open Go.ChangeShapes Go.WideShapes Go.ChangeAt Go.RowKit
open Go.Proofs.Ytmopkbkdfipglaa.Bytes (bys)

set_option maxHeartbeats 1000000 in
theorem idiff_any (w : World) (v : Value) (L : List Int) (h : Reads w v L) (hr : Rg L) :
    Calls Try.prog 64 #[v] w fun e w' => ∃ v', e = .returned v' ∧ w'.ownsRow w.heap.size 2 1 v' L.length (ints (dif L)) ∧ Below w.heap.size w w' := by
  obtain ⟨i2, hi, hz0, hz1, hz2⟩ := info_parts Try.info2
  obtain ⟨a, cap, rfl⟩ := h.form
  have hl := hr.1
  have HC : Hid (∀ W, Below w.heap.size w W → ∀ i, i < L.length → ∃ b o, a = some ⟨b, o, none⟩ ∧ L.length ≤ cap ∧ cap ≤ maxLen ∧ W.cell? ⟨b, o + i, none⟩ = some (.int .i64 (L.getD i 0))) := fun W hW i hi => by
    rcases h with ⟨rfl, _⟩ | ⟨b, o, cap', h1, h2, h3, h4, h5⟩
    · simp at hi
    · injection h1 with q1 q2 q3
      subst q3
      exact ⟨b, o, q1, h2, h3, (hW.cell (p := ⟨b, o + i, none⟩) h4).trans (h5 i hi)⟩
  have HR : Hid (Rg L) := hr
  obtain ⟨n, hn⟩ : ∃ n, n = L.length := ⟨_, rfl⟩
  have HN : Hid (n = L.length) := hn
  rw [← hn] at hl HC ⊢
  have R0 : Hid (w.ownsRow w.heap.size 2 1 (.slice none 0 0) 0 (ints (difk L 0))) := ⟨rfl, .inl ⟨rfl, rfl⟩⟩
  have B0 : Hid (Below w.heap.size w w) := Below.refl _ _
  clear h hr hn
  go_enter Try.func64, Try.ntmps64
  go_wp2_with fail
  go_loopw [3, 4, 6, 9] (fun v l _ i wr => ∃ k : Nat, k ≤ n ∧ i = .int .i64 (k : Int) ∧ l = .int .i64 (ah L k) ∧ Hid (wr.ownsRow w.heap.size 2 1 v k (ints (difk L k))) ∧ Hid (Below w.heap.size w wr)) (fun _ _ _ i _ => n - (intOf i).toNat)
  case atStart => exact ⟨0, Nat.zero_le _, rfl, rfl, R0, B0⟩
  case round =>
    clear R0 B0
    obtain ⟨k, hk, rfl, rfl, O, BB⟩ := hrel
    obtain ⟨sa, sc, ev⟩ := row_form O.out
    obtain ⟨vv, hvv⟩ : ∃ vv, vv = u3 := ⟨_, rfl⟩
    subst hvv
    subst ev
    by_cases hlt : k < n
    · obtain ⟨b, o, rfl, x1, x2, q0⟩ := HC.out wr BB.out k hlt
      unfold maxLen at x2
      have i0 : (0 : Int) ≤ (k : Int) := by omega
      have i1 : (k : Int) < (n : Int) := by omega
      have az := ah_b HR.out k (by have := HN.out; omega)
      have bz := HR.out.2 k (by have := HN.out; omega)
      obtain ⟨z, hz⟩ : ∃ z, z = L.getD k 0 := ⟨_, rfl⟩
      obtain ⟨y, hy⟩ : ∃ y, y = ah L k := ⟨_, rfl⟩
      rw [← hz] at q0 bz
      rw [← hy] at az ⊢
      have DA : Hid (z - y = difA L k) := (by rw [hz, hy]; rfl)
      have AS : Hid (z = ah L (k + 1)) := (by show _ = _; rw [ah_succ]; exact hz)
      have hsz := BB.out.size
      clear hz hy
      go_wp2_with (at_builtin; refine wpList_append_own_at _ rfl _ _ 22 rfl w.heap.size 2 i2 (.int .i64 0) 1 8 Try.underlying22 hi hz0 hz1 hz2 rfl (by decide) _ _ _ rfl (O.out.alloc _) ⟨wr.heap.size, 0, none⟩ 1 1 [.int .i64 (z - y)] rfl rfl (cell_one_new _ _ _) (by intro u hu; simp at hu; subst hu; rfl) (by unfold maxLen; omega) (by omega) (by simp; omega) ?_)
      intro v' w2 hown hgrow hnil hat
      have O2 : Hid (w2.ownsRow w.heap.size 2 1 v' (k + 1) (ints (difk L (k + 1)))) := (by show World.ownsRow _ _ _ _ _ _ _; rw [difk_snoc, ints_snoc, ← DA.out]; exact hown)
      have B2 : Hid (Below w.heap.size w w2) := (BB.out.alloc BB.out.size _).grown hgrow (by simp; omega) (fun b hb => (O.out.lt b hb).1)
      clear hown hgrow hnil hat O BB
      go_wp2_with fail
      go_roundw
      case rel => exact ⟨k + 1, by omega, by go_num, (by rw [← AS.out]), O2, B2⟩
      case measure => simp [intOf]; omega
    · have ek : k = n := by omega
      subst ek
      have a1 : ¬ (k : Int) < (k : Int) := by omega
      have FN : Hid (wr.ownsRow w.heap.size 2 1 (.slice sa k sc) k (ints (dif L))) := (by show World.ownsRow _ _ _ _ _ _ _; rw [show dif L = difk L k by rw [HN.out]]; exact O.out)
      clear O
      go_wp2_with fail
      go_ret
      exact ⟨_, rfl, FN.out, BB.out⟩
end Go.Proofs.Ytmopkbkdfipglaa.Lists
