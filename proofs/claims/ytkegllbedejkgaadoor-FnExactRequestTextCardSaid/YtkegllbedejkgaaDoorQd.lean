/- Numbers told in a list (l25Decs). -/
import Derived.Test.YtkegllbedejkgaaDoorQp
import Derived.OwnWalk
namespace Go.Proofs.YtkegllbedejkgaaDoor.Ix
open Go.ChangeShapes Go.WideShapes Go.ChangeAt Go.RowKit
open Lists (ints)
theorem taken (f : Int → ByteArray) (L : List Int) (k : Nat) (h : k < L.length) : (L.take (k + 1)).map f = (L.take k).map f ++ [f (L.getD k 0)] := by
  have e : L[k]? = some (L.getD k 0) := by simp [List.getD_eq_getElem?_getD, h]
  rw [List.take_add_one, e, List.map_append]
  rfl
theorem ireads_cells {w : World} {a : Option Addr} {cap n : Nat} {L : List Int} (h : Lists.Reads w (.slice a n cap) L) (hn : n = L.length) : ∀ wr, Below w.heap.size w wr → ∀ i, i < n → ∃ b o, a = some ⟨b, o, none⟩ ∧ wr.cell? ⟨b, o + i, none⟩ = some (.int .i64 (L.getD i 0)) := by
  intro wr hb i hi
  have h' := h.on hb
  subst hn
  rcases h' with ⟨rfl, _⟩ | ⟨b, o, c, e, _, _, x, y⟩
  · simp at hi
  · simp at e; exact ⟨b, o, e.1, y i hi⟩
theorem lit_cell (w : World) (s : ByteArray) : ∀ (j : Nat) u, [Value.string s][j]? = some u → (w.alloc (.cells #[.string s] 9)).cell? ((⟨w.heap.size, 0, none⟩ : Addr).add j) = some u := by
  intro j u hj
  match j, hj with
  | 0, hj => simp at hj; subst hj; simp [Addr.add]
set_option maxHeartbeats 1000000 in
theorem sdecs_any (f : Int → ByteArray) (v : Value) (L : List Int) (w : World) (h : Lists.Reads w v L) (hl : L.length ≤ 40)
    (C : ∀ i, i < L.length → ∀ w, Calls Tryd.prog 32 #[.int .i64 (L.getD i 0)] w fun e w' => e = .returned (.string (f (L.getD i 0))) ∧ Below w.heap.size w w') :
    Calls Tryd.prog 14 #[v] w fun e w' => (∃ v', e = .returned v' ∧ w'.ownsRow w.heap.size 9 1 v' (L.map f).length (strs (L.map f))) ∧ Below w.heap.size w w' := by
  obtain ⟨a, cap, rfl⟩ := h.form
  obtain ⟨n, hn⟩ : ∃ n, n = L.length := ⟨_, rfl⟩
  have HN : Hid (n = L.length) := hn
  rw [← hn] at h hl C
  have HC : Hid (∀ wr, Below w.heap.size w wr → ∀ i, i < n → ∃ b o, a = some ⟨b, o, none⟩ ∧ wr.cell? ⟨b, o + i, none⟩ = some (.int .i64 (L.getD i 0))) := ireads_cells h hn
  have HT : Hid (∀ k, k < n → (L.take (k + 1)).map f = (L.take k).map f ++ [f (L.getD k 0)]) := fun k hk => taken f L k (by omega)
  have CC : Hid (∀ i, i < n → ∀ w, Calls Tryd.prog 32 #[.int .i64 (L.getD i 0)] w fun e w' => e = .returned (.string (f (L.getD i 0))) ∧ Below w.heap.size w w') := C
  have HE : Hid (n = (L.map f).length ∧ (L.take n).map f = L.map f) := ⟨by rw [List.length_map]; exact hn, by rw [hn, List.take_length]⟩
  rw [← hn]
  obtain ⟨i0, hi, hz0, hz1, hz2⟩ := info_parts Tryd.info9
  have R0 : Hid ((w.alloc (Obj.cells #[] 9)).ownsRow w.heap.size 9 1 (.slice (some ⟨w.heap.size, 0, none⟩) 0 0) 0 (strs [])) := World.ownsRow_lit w #[] 0 (Nat.le_refl _) (Nat.zero_le _) rfl
  have B0 : Hid (Below w.heap.size w (w.alloc (Obj.cells #[] 9))) := (Below.refl _ _).alloc (Nat.le_refl _) _
  clear h hn C
  go_enter Tryd.func14, Tryd.ntmps14
  go_wp2_with fail
  go_loopw [3, 4] (fun u i wr => ∃ (k : Nat) (W : List ByteArray), k ≤ n ∧ i = .int .i64 k ∧ Hid (W = (L.take k).map f) ∧ W.length = k ∧ Hid (wr.ownsRow w.heap.size 9 1 u k (strs W)) ∧ Hid (Below w.heap.size w wr)) (fun _ i _ => n - (intOf i).toNat)
  case atStart => exact ⟨0, [], Nat.zero_le _, rfl, by show _ = _; simp, rfl, R0, B0⟩
  case round =>
    clear R0 B0
    obtain ⟨k, W, hk, rfl, hW, hWl, R, BB⟩ := hrel
    obtain ⟨v, hv⟩ : ∃ v, v = u3 := ⟨_, rfl⟩
    subst hv
    obtain ⟨sa, sc, hv⟩ : ∃ a c, v = .slice a k c := by
      have := sreads_row (L := W) (by rw [hWl]; exact R.out)
      obtain ⟨a, c, e⟩ := this.form
      rw [hWl] at e
      exact ⟨a, c, e⟩
    subst hv
    by_cases hlt : k < n
    · have i2 : (k : Int) < (n : Int) := by omega
      have i1 : (0 : Int) ≤ (k : Int) := by omega
      obtain ⟨b, o, rfl, q0⟩ := HC.out wr BB.out k hlt
      have C1 : Hid (∀ w, Calls Tryd.prog 32 #[.int .i64 (L.getD k 0)] w fun e w' => e = .returned (.string (f (L.getD k 0))) ∧ Below w.heap.size w w') := CC.out k hlt
      have HT1 : Hid ((L.take (k + 1)).map f = (L.take k).map f ++ [f (L.getD k 0)]) := HT.out k hlt
      generalize f (L.getD k 0) = y at *
      generalize L.getD k 0 = x at *
      go_wp2_with fail
      refine (C1.out _).mono ?_
      rintro e w2 ⟨rfl, hb⟩
      have B2 : Hid (Below w.heap.size w w2) := BB.out.trans (hb.mono BB.out.size)
      have R2 : Hid (w2.ownsRow w.heap.size 9 1 (.slice sa k sc) k (strs W)) := En.row_below R.out hb
      have z2 := B2.out.size
      clear hb R BB C1
      go_wp2_with (at_builtin; refine wpList_append_own _ rfl _ _ 22 rfl w.heap.size 9 i0 (.string ⟨#[]⟩) 1 16 Tryd.underlying22 hi hz0 hz1 hz2 rfl (by decide) _ _ _ rfl (R2.out.alloc _) ⟨w2.heap.size, 0, none⟩ 1 1 [.string y] rfl rfl (lit_cell w2 y) (by intro u hu; simp at hu; subst hu; rfl) (by unfold maxLen; omega) (by omega) (by simp; omega) ?_)
      · intro v' w3 hown hgrow _
        have R3 : Hid (w3.ownsRow w.heap.size 9 1 v' (k + 1) (strs (W ++ [y]))) := (by show World.ownsRow _ _ _ _ _ _ _; rw [strs, List.map_append]; exact hown)
        have B3 : Hid (Below w.heap.size w w3) := (B2.out.alloc B2.out.size _).grown hgrow (by have := B2.out.size; simp; omega) (fun b hb => (R2.out.lt b hb).1)
        have W3 : Hid (W ++ [y] = (L.take (k + 1)).map f) := (by show _ = _; rw [HT1.out, hW.out])
        clear hown hgrow R2 B2 hW HT1
        go_wp2_with fail
        go_roundw
        case rel => exact ⟨k + 1, W ++ [y], by omega, by go_num, W3, by simp [hWl], R3, B3⟩
        case measure => simp [intOf]; omega
    · have hkn : k = n := by omega
      subst hkn
      have RE : Hid (wr.ownsRow w.heap.size 9 1 (.slice sa k sc) (L.map f).length (strs (L.map f))) := (by
        show World.ownsRow _ _ _ _ _ _ _
        rw [← HE.out.1, ← HE.out.2, ← hW.out]; exact R.out)
      clear R
      go_wp2_with fail
      go_ret
      exact ⟨⟨_, rfl, RE.out⟩, BB.out⟩
end Go.Proofs.YtkegllbedejkgaaDoor.Ix
