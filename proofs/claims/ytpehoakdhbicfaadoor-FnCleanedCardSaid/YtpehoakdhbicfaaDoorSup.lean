/- Upper in the model: for every text. -/
import Derived.Test.YtpehoakdhbicfaaDoorRns
import Derived.Test.YtpehoakdhbicfaaDoorImp
import Derived.Laws.BytesArg
namespace Go.Proofs.YtpehoakdhbicfaaDoor.Uq
open Go.Proofs.YtpehoakdhbicfaaDoor.Ru
open Go.ChangeShapes Go.WideShapes Go.ChangeAt Go.RowKit

theorem row_below {w w' : World} {base n : Nat} {e : TypeId} {v : Value} {xs : List Value} (h : w.ownsRow base e 1 v n xs) (hb : Below w.heap.size w w') : w'.ownsRow base e 1 v n xs := by
  refine ⟨h.1, ?_⟩
  rcases h.2 with h | ⟨g, cap, cur, h1, h2, h3, h4⟩
  · exact .inl h
  · refine .inr ⟨g, cap, cur, h1, h2, ?_, h4⟩
    rw [hb.block g (Array.getElem?_eq_some_iff.1 h3).1]
    exact h3
theorem row_low {w : World} {base base' n : Nat} {e : TypeId} {v : Value} {xs : List Value} (h : w.ownsRow base e 1 v n xs) (hb : base' ≤ base) : w.ownsRow base' e 1 v n xs := by
  refine ⟨h.1, ?_⟩
  rcases h.2 with h | ⟨g, cap, cur, h1, h2, h3⟩
  · exact .inl h
  · exact .inr ⟨g, cap, cur, h1, Nat.le_trans hb h2, h3⟩
theorem rows_apart {w : World} {b1 b2 n1 n2 : Nat} {e1 e2 : TypeId} {v1 v2 : Value} {x1 x2 : List Value} (h1 : w.ownsRow b1 e1 1 v1 n1 x1) (h2 : w.ownsRow b2 e2 1 v2 n2 x2) (he : e1 ≠ e2) : v2.ownBlock = none ∨ v2.ownBlock ≠ v1.ownBlock := by
  rcases h2.2 with ⟨rfl, _⟩ | ⟨g, cap, cur, rfl, _, h3, _⟩
  · exact .inl rfl
  · rcases h1.2 with ⟨rfl, _⟩ | ⟨g', cap', cur', rfl, _, h3', _⟩
    · exact .inr (by simp [Value.ownBlock])
    · refine .inr ?_
      intro e
      simp [Value.ownBlock] at e
      subst e
      rw [h3] at h3'
      simp at h3'
      exact he h3'.2.symm

theorem conv_row {w : World} {base : Nat} {a : Option Addr} {cap : Nat} {l : List UInt8} (h : w.ownsRow base 5 1 (.slice a l.length cap) l.length (Lib.byteCells l)) :
    (convert 22 9 (.slice a l.length cap)).run Tryd.prog w = .ok (.string ⟨l.toArray⟩) w := by
  rcases h.2 with ⟨hv, hn⟩ | ⟨g, cap', cur, hv, _, hb, hc, _, hsz, hx⟩
  · have : l = [] := List.eq_nil_of_length_eq_zero hn
    subst this
    simp at hv
    rw [hv.1]
    exact run_convert_bytes_nil (P := Tryd.prog) w 22 5 Tryd.underlying22 Tryd.underlying5 _ cap 9 Tryd.underlying9
  · simp at hv
    obtain ⟨rfl, rfl⟩ := hv
    refine run_convert_bytes_back (P := Tryd.prog) w 22 9 5 ⟨g, 0, none⟩ cap l Tryd.underlying22 Tryd.underlying5 Tryd.underlying9 ?_
    intro j hj
    have := h.cells (g := g) rfl j (.int .u8 (l[j].toNat : Int)) (by simp [Lib.byteCells, hj])
    exact this

set_option maxHeartbeats 2000000 in
set_option maxRecDepth 1000000 in
theorem supper (s : ByteArray) (w : World) (hs : s.size ≤ 20000) (RA : RuneAt s) :
    Calls Tryd.prog 10 #[.string s] w fun e w' => ∃ k, Ends s k ∧ e = .returned (.string ⟨(outs s k).toArray⟩) ∧ Below w.heap.size w w' := by
  obtain ⟨i0, hi, hz0, hz1, hz2⟩ := info_parts Tryd.info5
  have SR : Hid (∀ w, Calls Tryd.prog 24 #[.string s] w fun e w' => ∃ k v, Ends s k ∧ e = .returned v ∧ w'.ownsRow w.heap.size 9 1 v k (pieces s k) ∧ Below w.heap.size w w') := fun w => srunes s w (by omega) RA
  have R0 : Hid ((w.alloc (.cells #[] 5)).ownsRow w.heap.size 5 1 (.slice (some ⟨w.heap.size, 0, none⟩) 0 0) 0 (Lib.byteCells (outs s 0))) := empty_row 5 w _ (Nat.le_refl _)
  clear RA
  go_enter Tryd.func10, Tryd.ntmps10
  go_wp2_with fail
  refine (SR.out _).mono ?_
  rintro e w1 ⟨K, pv, EN, rfl, PR, PB⟩
  have ENh : Hid (Ends s K) := EN
  have R1 : Hid (w1.ownsRow w.heap.size 5 1 (.slice (some ⟨w.heap.size, 0, none⟩) 0 0) (outs s 0).length (Lib.byteCells (outs s 0))) := row_below R0.out PB
  have P1 : Hid (w1.ownsRow w.heap.size 9 1 pv K (pieces s K)) := row_low PR (by simp)
  have B1 : Hid (Below w.heap.size w w1) := ((Below.refl _ w).alloc (Nat.le_refl _) _).trans (PB.mono (by simp))
  have kb := pos_ge EN.2
  obtain ⟨pa, pc, hpv⟩ := row_form PR
  subst hpv
  clear PR PB EN R0
  go_wp2_with fail
  go_loopw [3, 5] (fun v x wr => ∃ i : Nat, i ≤ K ∧ x = .int .i64 (i : Nat) ∧ Hid (wr.ownsRow w.heap.size 5 1 v (outs s i).length (Lib.byteCells (outs s i))) ∧ Hid (wr.ownsRow w.heap.size 9 1 (.slice pa K pc) K (pieces s K)) ∧ Hid (Below w.heap.size w wr)) (fun _ x _ => (K - intOf x).toNat)
  case atStart => exact ⟨0, by omega, rfl, R1, P1, B1⟩
  case round =>
    obtain ⟨i, hiK, rfl, R, PR, BW⟩ := hrel
    obtain ⟨aa, cap, hv⟩ := row_form R.out
    subst hv
    by_cases hik : i < K
    · have hp : pos s i < s.size := ENh.out.2 i hik
      have hpa : ∃ g, pa = some ⟨g, 0, none⟩ := by
        rcases PR.out.2 with ⟨_, h⟩ | ⟨g, cap', cur, h, _⟩
        · omega
        · simp at h; exact ⟨g, h.1⟩
      obtain ⟨g, rfl⟩ := hpa
      have hc : wr.cell? ⟨g, i, none⟩ = some (piece s i) := by
        rw [PR.out.cellAt i (by omega)]
        simp [pieces, hik]
      have hc' : wr.cell? ⟨g, i, none⟩ = some (.string (s.extract (pos s i) (pos s i + wd s (pos s i)))) := hc
      have UP : Hid (∀ w, Calls Tryd.prog 25 #[.string (s.extract (pos s i) (pos s i + wd s (pos s i)))] w fun e w' => e = .returned (.string ⟨(ol s (pos s i)).toArray⟩) ∧ Below w.heap.size w w') := fun w => up_any s (pos s i) w hp
      have os := outs_size s i
      have oz := ol_size s (pos s i)
      have HO : Hid (outs s (i + 1) = outs s i ++ ol s (pos s i)) := rfl
      clear hc hp
      generalize s.extract (pos s i) (pos s i + wd s (pos s i)) = pc0 at *
      generalize ol s (pos s i) = lo at *
      go_wp2_with fail
      refine (UP.out _).mono ?_
      rintro e w2 ⟨rfl, b2⟩
      have R2 : Hid (w2.ownsRow w.heap.size 5 1 (.slice aa (outs s i).length cap) (outs s i).length (Lib.byteCells (outs s i))) := row_below R.out b2
      have P2 : Hid (w2.ownsRow w.heap.size 9 1 (.slice (some ⟨g, 0, none⟩) K pc) K (pieces s K)) := row_below PR.out b2
      have B2 : Hid (Below w.heap.size w w2) := BW.out.trans (b2.mono BW.out.size)
      have AP := rows_apart R2.out P2.out (by decide)
      have lz : (⟨lo.toArray⟩ : ByteArray).size = lo.length := by simp [ByteArray.size]
      clear R PR BW b2 hc'
      go_wp2_with (at_builtin; refine Lib.wpList_append_own_string _ rfl _ _ 22 9 rfl w.heap.size 5 i0 Tryd.underlying22 Tryd.underlying9 hi hz0 hz1 hz2 _ _ _ rfl R2.out ⟨lo.toArray⟩ rfl ?c1 ?c2 ?c3 ?_)
      case c1 => unfold maxLen; omega
      case c2 => omega
      case c3 => exact B2.out.size
      · intro v' w3 hown' hgrow _
        have R' : Hid (w3.ownsRow w.heap.size 5 1 v' (outs s (i + 1)).length (Lib.byteCells (outs s (i + 1)))) := by
          show World.ownsRow _ _ _ _ _ _ _
          rw [HO.out, Lib.byteCells_append, ← str_cells lo, List.length_append, ← lz]
          exact hown'
        have P' : Hid (w3.ownsRow w.heap.size 9 1 (.slice (some ⟨g, 0, none⟩) K pc) K (pieces s K)) := P2.out.kept hgrow AP
        have B' : Hid (Below w.heap.size w w3) := B2.out.grown hgrow B2.out.size (fun b hb => (R2.out.lt b hb).1)
        clear hown' hgrow R2 P2 B2 AP
        go_wp2_with fail
        go_roundw
        case rel => exact ⟨i + 1, by omega, rfl, R', P', B'⟩
        case measure => simp [intOf]; omega
    · have ei : i = K := by omega
      subst ei
      have CV : Hid (∀ w', w'.ownsRow w.heap.size 5 1 (.slice aa (outs s i).length cap) (outs s i).length (Lib.byteCells (outs s i)) → (convert 22 9 (.slice aa (outs s i).length cap)).run Tryd.prog w' = .ok (.string ⟨(outs s i).toArray⟩) w') := fun w' h => conv_row h
      have cv := CV.out wr R.out
      have EN' : Hid (Ends s i) := ENh.out
      clear CV
      go_wp2_with fail
      go_ret
      exact ⟨i, EN'.out, rfl, BW.out⟩
end Go.Proofs.YtpehoakdhbicfaaDoor.Uq
