/- Lists of lists of int64: marked. -/
import Derived.Test.YtjoijffjnlencaaLl
namespace Go.Proofs.Ytjoijffjnlencaa.Ll
open Go.ChangeShapes Go.WideShapes Go.ChangeAt Go.RowKit
open Go.Proofs.Ytjoijffjnlencaa.Lists

def RowT (w : World) (base T : Nat) (v : Value) (L : Ls) : Prop := ∃ xs gi g0, v = .slice (some ⟨g0, 0, none⟩) L.length L.length ∧ base ≤ g0 ∧ w.ownsRow base 24 1 v L.length xs ∧ Good w (g0 + 1) xs gi L L.length ∧ ∀ i, i < L.length → gi i < T
theorem Row.up {w : World} {base : Nat} {v : Value} {L : Ls} (h : Row w base v L) : RowT w base w.heap.size v L := by
  obtain ⟨xs, gi, g0, e, hg, h1, h2⟩ := h
  exact ⟨xs, gi, g0, e, hg, h1, h2, fun i hi => ((h2 i hi).2.1.lt (gi i) rfl).2⟩
theorem RowT.row {w : World} {base T : Nat} {v : Value} {L : Ls} (h : RowT w base T v L) : Row w base v L := by
  obtain ⟨xs, gi, g0, e, hg, h1, h2, _⟩ := h
  exact ⟨xs, gi, g0, e, hg, h1, h2⟩
theorem RowT.on {w w' : World} {base T : Nat} {v : Value} {L : Ls} (h : RowT w base T v L) (hb : Below w.heap.size w w') : RowT w' base T v L := by
  obtain ⟨xs, gi, g0, e, hg, h1, h2, h3⟩ := h
  exact ⟨xs, gi, g0, e, hg, row_below h1 hb, h2.on hb, h3⟩
def Mk (B T : Nat) (w w' : World) : Prop := Below B w w' ∧ ∀ k, T ≤ k → k < w.heap.size → w'.heap[k]? = w.heap[k]?
theorem Mk.row {B T : Nat} {w w' : World} {base n : Nat} {v : Value} {xs : List Value} (m : Mk B T w w') (h : w.ownsRow base 2 1 v n xs) (hne : ∀ k, v.ownBlock = some k → k < B ∨ T ≤ k) : w'.ownsRow base 2 1 v n xs := by
  refine ⟨h.1, ?_⟩
  rcases h.2 with h2 | ⟨g, cap, cur, h1, h2, h3, h4⟩
  · exact .inl h2
  · have hg : g < w.heap.size := by
      rcases Nat.lt_or_ge g w.heap.size with x | x
      · exact x
      · rw [Array.getElem?_eq_none x] at h3; cases h3
    have e : w'.heap[g]? = w.heap[g]? := by
      rcases hne g (by rw [h1]; rfl) with x | x
      · exact m.1.block g x
      · exact m.2 g x hg
    exact .inr ⟨g, cap, cur, h1, h2, e.trans h3, h4⟩
theorem row_off {w w' : World} {base n : Nat} {row : Option Nat} {v : Value} {xs : List Value} (h : w.ownsRow base 2 1 v n xs) (hg : w.grownBy w' row) (hne : ∀ k j, v.ownBlock = some k → row = some j → k ≠ j) : w'.ownsRow base 2 1 v n xs := by
  refine h.kept hg ?_
  cases e : v.ownBlock with
  | none => exact Or.inl rfl
  | some k => exact Or.inr fun x => hne k k e x.symm rfl
set_option maxHeartbeats 1000000 in
theorem markS_any (w : World) (base T : Nat) (v : Value) (L : Ls) (h : RowT w base T v L) (hl : L.length ≤ 1048576) (hs : tl L L.length ≤ 1048576) :
    Calls Try.prog 10 #[v, .int .i64 1] w fun e w' => e = .returned (.int .i64 (1 + (tl L L.length : Int))) ∧ Mk base T w w' := by
  obtain ⟨xs, gi, g0, rfl, hg, h1, h2, h3⟩ := h
  have HG : Hid (Good w (g0 + 1) xs gi L L.length) := h2
  have H3 : Hid (∀ i, i < L.length → gi i < T) := h3
  have HC : Hid (∀ i, i < L.length → w.cell? ⟨g0, i, none⟩ = some (hd gi L i)) := fun i hi => by
    rw [h1.cellAt i (by omega)]
    exact (h2 i hi).1
  have HT : Hid (∀ k, k ≤ L.length → tl L k ≤ 1048576) := fun k hk => Nat.le_trans (tl_mono L hk) hs
  have HLE : Hid (∀ i, i < L.length → (cl L i).length ≤ 1048576) := fun i hi => Nat.le_trans (tl_at L hi) hs
  have gl := (h1.lt g0 rfl).2
  have HBG : Hid (base ≤ g0 + 1) := (by show _ ≤ _; omega)
  obtain ⟨n, hn⟩ : ∃ n, n = L.length := ⟨_, rfl⟩
  rw [← hn] at hl ⊢
  have HN : Hid (n = L.length) := hn
  have M0 : Hid (Mk (g0 + 1) T w w) := ⟨Below.refl _ _, fun _ _ _ => rfl⟩
  have HF : Hid (∀ wr, Mk (g0 + 1) T w wr → Mk base T w wr) := fun wr m => ⟨m.1.mono HBG.out, m.2⟩
  have I0 : Hid (∀ i, 0 ≤ i → i < n → w.ownsRow (g0 + 1) 2 1 (hd gi L i) (cl L i).length (ints (cl L i))) := fun i _ hi => (h2 i (by omega)).2.1
  clear h1 h2 h3 hs hn hg
  go_enter Try.func10, Try.ntmps10
  go_wp2_with fail
  go_loopw [1, 5] (fun q i wr => ∃ k : Nat, k ≤ n ∧ i = .int .i64 k ∧ q = .int .i64 (1 + (tl L k : Int)) ∧ Hid (Mk (g0 + 1) T w wr) ∧ Hid (∀ i, k ≤ i → i < n → wr.ownsRow (g0 + 1) 2 1 (hd gi L i) (cl L i).length (ints (cl L i)))) (fun _ i _ => n - (intOf i).toNat)
  case atStart => exact ⟨0, Nat.zero_le _, rfl, rfl, M0, I0⟩
  case round =>
    obtain ⟨k, hk, rfl, rfl, MR, IR⟩ := hrel
    by_cases hlt : k < n
    · have i0 : (0 : Int) ≤ (k : Int) := by omega
      have i1 : (k : Int) < (n : Int) := by omega
      have hkl : k < L.length := by rw [← HN.out]; exact hlt
      have q : wr.cell? ⟨g0, k, none⟩ = some (hd gi L k) := (MR.out.1.cell (p := ⟨g0, k, none⟩) (Nat.lt_succ_self _)).trans (HC.out k hkl)
      have tk := HT.out k (by omega)
      have C : Hid (Calls Try.prog 11 #[hd gi L k, .int .i64 (1 + (tl L k : Int))] wr fun e w' => e = .returned (.int .i64 (1 + (tl L k : Int) + (cl L k).length)) ∧ w'.ownsRow (g0 + 1) 2 1 (hd gi L k) (cl L k).length (ints (sq (1 + (tl L k : Int)) (cl L k).length)) ∧ wr.grownBy w' (hd gi L k).ownBlock) := Lists.mark_any wr (g0 + 1) (hd gi L k) (cl L k) _ (by omega) (by omega) (by have := HLE.out k hkl; omega) (IR.out k (Nat.le_refl _) hlt)
      have ET : Hid (tl L (k + 1) = tl L k + (cl L k).length) := rfl
      have gk := (IR.out k (Nat.le_refl _) hlt).lt (gi k) rfl
      have HGK : Hid (g0 + 1 ≤ gi k) := gk.1
      clear gk
      generalize hv : hd gi L k = uv at *
      have HV : Hid (hd gi L k = uv) := hv
      clear hv
      go_wp2_with fail
      refine C.out.mono ?_
      rintro e w2 ⟨rfl, _, g⟩
      rw [← HV.out] at g
      have M2 : Hid (Mk (g0 + 1) T w w2) := (by
        refine ⟨MR.out.1.grown g (by have := MR.out.1.size; omega) (fun b hb => ?_), fun j h1 h2 => ?_⟩
        · simp [hd, Value.ownBlock] at hb
          rw [← hb]; exact HGK.out
        · refine (g.block j (Nat.lt_of_lt_of_le h2 MR.out.1.size) (fun e => ?_)).trans (MR.out.2 j h1 h2)
          simp [hd, Value.ownBlock] at e
          have := H3.out k hkl
          omega)
      have I2 : Hid (∀ i, k + 1 ≤ i → i < n → w2.ownsRow (g0 + 1) 2 1 (hd gi L i) (cl L i).length (ints (cl L i))) := fun i x1 x2 => row_off (IR.out i (by omega) x2) g (fun a b ha hb => by
        simp [hd, Value.ownBlock] at ha hb
        have := (HG.out k hkl).2.2 i (by omega) (by rw [← HN.out]; exact x2)
        omega)
      clear g
      go_wp2_with fail
      go_roundw
      case rel => exact ⟨k + 1, by omega, by go_num, by rw [ET.out]; congr 1; omega, M2, I2⟩
      case measure => simp [intOf]; omega
    · have hkn : k = n := by omega
      subst hkn
      go_wp2_with fail
      go_ret
      exact ⟨rfl, HF.out _ MR.out⟩
end Go.Proofs.Ytjoijffjnlencaa.Ll
