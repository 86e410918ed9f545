/- The law FnExactReadHeading walked: both tell the same of every line. -/
import Derived.Test.YtepofpmdkphhdaaDoorRhV
import Derived.Test.YtepofpmdkphhdaaDoorRhK
namespace Go.Proofs.YtepofpmdkphhdaaDoor.Head
open Go.ChangeShapes Go.WideShapes Go.ChangeAt Go.RowKit Mk Fig

theorem last_ans {a b c M : ByteArray} (h6 : a.size = 6) (g6 : c.size = 6) (hl : lets (a.extract 0 4) = true) (hf : 0 ≤ fig (a.extract 4 6)) (hc : cen b = true) :
    (if decide (fl a b c em = 0) = false then out 4 else if decide (fl a b c M = 0) = false then out 5 else .tuple #[hd (a.extract 0 2) (a.extract 2 4) (fig (a.extract 4 6)) b (fig (c.extract 0 2)) (fig (c.extract 2 4)) (fig (c.extract 4 6)) M, .int .i64 0]) = ansOf a b c M := by
  by_cases e : fl a b c em = 0
  · rw [decide_eq_true e, if_neg (by decide)]
    by_cases e2 : fl a b c M = 0
    · rw [decide_eq_true e2, if_neg (by decide)]
      exact ans_right ⟨if_pos h6, if_pos h6, if_pos h6⟩ ⟨if_pos g6, if_pos g6, if_pos g6⟩ e2
    · rw [decide_eq_false e2, if_pos rfl]
      exact ans_of (em_five e e2) (by decide)
  · rw [decide_eq_false e, if_pos rfl]
    exact ans_of (em_four h6 hl hf hc e) (by decide)

theorem sok_fl (a b c M : ByteArray) (h6 : a.size = 6) (g6 : c.size = 6) (w : World) :
    Calls Tryd.prog 14 #[hd (a.extract 0 2) (a.extract 2 4) (fig (a.extract 4 6)) b (fig (c.extract 0 2)) (fig (c.extract 2 4)) (fig (c.extract 4 6)) M] w fun e w' => e = .returned (.bool (decide (fl a b c M = 0))) ∧ Below w.heap.size w w' := by
  have h := sok_any (a.extract 0 2) (a.extract 2 4) (fig (a.extract 4 6)) b (fig (c.extract 0 2)) (fig (c.extract 2 4)) (fig (c.extract 4 6)) M w (by rw [ByteArray.size_append, ext_size h6 (by omega), ext_size h6 (by omega)]; omega)
  have e : fl a b c M = fault (a.extract 0 2) (a.extract 2 4) (fig (a.extract 4 6)) b (fig (c.extract 0 2)) (fig (c.extract 2 4)) (fig (c.extract 4 6)) M := by
    unfold fl K0 A0 N0 D0 H0 I0
    rw [if_pos h6, if_pos h6, if_pos h6, if_pos g6, if_pos g6, if_pos g6]
  rw [e]
  exact h

theorem sread_n (s : ByteArray) (w : World) (hs : s.size ≤ 1048576) (n : Nat) (p : Nat → ByteArray) (M : ByteArray) (hn : n = 3 ∨ n = 4) (hM : n = 3 ∧ M = em ∨ n = 4 ∧ M = p 3) (hp : pcs s = (List.range n).map p) (hz : ∀ j, j < n → (p j).size ≠ 0) :
    Calls Tryd.prog 10 #[.string s] w fun e w' => e = .returned (ansOf (p 0) (p 1) (p 2) M) ∧ Below w.heap.size w w' := by
  by_cases hx : (p 0).size = 6 ∧ lets ((p 0).extract 0 4) = true ∧ 0 ≤ fig ((p 0).extract 4 6) ∧ cen (p 1) = true ∧ (p 2).size = 6 ∧ 0 ≤ fig (p 2)
  · obtain ⟨h6, hl, hf, hc, g6, hf2⟩ := hx
    have z0 : ((p 0).extract 4 6).size = 2 := ext_size h6 (by omega)
    have z1 : ((p 2).extract 0 2).size = 2 := ext_size g6 (by omega)
    have z2 : ((p 2).extract 2 4).size = 2 := ext_size g6 (by omega)
    have z3 : ((p 2).extract 4 6).size = 2 := ext_size g6 (by omega)
    have z4 : ((p 0).extract 0 4).size = 4 := ext_size h6 (by omega)
    rw [← last_ans h6 g6 hl hf hc]
    exact sread_last s w hs n p (p 0) (p 1) (p 2) M rfl rfl rfl hn hM hp hz _ _ _ _ _ _ h6 g6
      (fun w => by have := sletters_any ((p 0).extract 0 4) w (by omega); rw [hl] at this; exact this)
      (fun w => sfig _ w (by omega) (by omega)) hf
      (fun w => by have := scen_any (p 1) w; rw [hc] at this; exact this)
      _ hf2 (fun w => sfig _ w (by omega) (by omega))
      (fun w => sfig _ w (by omega) (by omega)) (fun w => sfig _ w (by omega) (by omega)) (fun w => sfig _ w (by omega) (by omega))
      (fun w => sok_fl (p 0) (p 1) (p 2) em h6 g6 w) (fun w => sok_fl (p 0) (p 1) (p 2) M h6 g6 w)
  · exact sread_bad s w hs n p (p 0) (p 1) (p 2) M rfl rfl rfl hn hM hp hz hx

/-- Both tell of a line what its pieces say. -/
theorem both_rd (s : ByteArray) (hs : s.size ≤ 1048576) : ∃ v, (v = rd (pcs s)) ∧ (∀ w, Calls Tryd.prog 10 #[.string s] w fun e w' => e = .returned v ∧ Below w.heap.size w w') ∧ (∀ w, Calls Tryd.prog 8 #[.string s] w fun e w' => e = .returned v ∧ Below w.heap.size w w') := by
  refine ⟨_, rfl, ?_⟩
  have len : (pcs s).length ≠ 3 → (pcs s).length ≠ 4 → rd (pcs s) = out 1 → (∀ w, Calls Tryd.prog 10 #[.string s] w fun e w' => e = .returned (rd (pcs s)) ∧ Below w.heap.size w w') ∧ (∀ w, Calls Tryd.prog 8 #[.string s] w fun e w' => e = .returned (rd (pcs s)) ∧ Below w.heap.size w w') := fun h3 h4 e => by
    rw [e]
    exact ⟨fun w => sread_len s w hs h3 h4, fun w => iread_len s w hs h3 h4⟩
  match hp : pcs s with
  | [] => rw [hp] at len; exact len (by decide) (by decide) rfl
  | [a] => rw [hp] at len; exact len (by simp) (by simp) rfl
  | [a, b] => rw [hp] at len; exact len (by simp) (by simp) rfl
  | a :: b :: c :: d :: e :: l => rw [hp] at len; exact len (by simp) (by simp) rfl
  | [a, b, c] =>
    have hr : [a, b, c] = (List.range 3).map (fun j => ([a, b, c] : List ByteArray).getD j em) := rfl
    by_cases hz : a.size = 0 ∨ b.size = 0 ∨ c.size = 0
    · have e : rd [a, b, c] = out 1 := if_pos hz
      rw [e]
      refine ⟨fun w => sread_empty s w hs 3 (fun j => ([a, b, c] : List ByteArray).getD j em) (.inl rfl) (hp.trans hr) ?_, fun w => iread_empty3 s w a b c hs hp hz⟩
      rcases hz with h | h | h
      · exact ⟨0, by decide, h⟩
      · exact ⟨1, by decide, h⟩
      · exact ⟨2, by decide, h⟩
    · have e : rd [a, b, c] = ansOf a b c em := if_neg hz
      rw [e]
      have nz : ∀ j, j < 3 → (([a, b, c] : List ByteArray).getD j em).size ≠ 0 := fun j hj h => hz (match j, hj, h with
        | 0, _, h => .inl h
        | 1, _, h => .inr (.inl h)
        | 2, _, h => .inr (.inr h))
      exact ⟨fun w => sread_n s w hs 3 (fun j => ([a, b, c] : List ByteArray).getD j em) em (.inl rfl) (.inl ⟨rfl, rfl⟩) (hp.trans hr) nz, fun w => iread_full3 s w a b c hs hp (fun ⟨j, h1, h2⟩ => nz j h1 h2)⟩
  | [a, b, c, d] =>
    have hr : [a, b, c, d] = (List.range 4).map (fun j => ([a, b, c, d] : List ByteArray).getD j em) := rfl
    by_cases hz : a.size = 0 ∨ b.size = 0 ∨ c.size = 0 ∨ d.size = 0
    · have e : rd [a, b, c, d] = out 1 := if_pos hz
      rw [e]
      refine ⟨fun w => sread_empty s w hs 4 (fun j => ([a, b, c, d] : List ByteArray).getD j em) (.inr rfl) (hp.trans hr) ?_, fun w => iread_empty4 s w a b c d hs hp hz⟩
      rcases hz with h | h | h | h
      · exact ⟨0, by decide, h⟩
      · exact ⟨1, by decide, h⟩
      · exact ⟨2, by decide, h⟩
      · exact ⟨3, by decide, h⟩
    · have e : rd [a, b, c, d] = ansOf a b c d := if_neg hz
      rw [e]
      have nz : ∀ j, j < 4 → (([a, b, c, d] : List ByteArray).getD j em).size ≠ 0 := fun j hj h => hz (match j, hj, h with
        | 0, _, h => .inl h
        | 1, _, h => .inr (.inl h)
        | 2, _, h => .inr (.inr (.inl h))
        | 3, _, h => .inr (.inr (.inr h)))
      exact ⟨fun w => sread_n s w hs 4 (fun j => ([a, b, c, d] : List ByteArray).getD j em) d (.inr rfl) (.inr ⟨rfl, rfl⟩) (hp.trans hr) nz, fun w => iread_full4 s w a b c d hs hp (fun ⟨j, h1, h2⟩ => nz j h1 h2)⟩

theorem ans_form (a b c M : ByteArray) : ∃ (K A : ByteArray) (n : Int) (C : ByteArray) (d h m : Int) (M' : ByteArray) (f : Int), ansOf a b c M = .tuple #[hd K A n C d h m M', .int .i64 f] := by
  unfold ansOf
  split
  · exact ⟨_, _, _, _, _, _, _, _, _, rfl⟩
  · exact ⟨_, _, _, _, _, _, _, _, _, rfl⟩
theorem out_form (x : Int) : ∃ (K A : ByteArray) (n : Int) (C : ByteArray) (d h m : Int) (M' : ByteArray) (f : Int), out x = .tuple #[hd K A n C d h m M', .int .i64 f] := ⟨_, _, _, _, _, _, _, _, _, rfl⟩
theorem rd_form (l : List ByteArray) : ∃ (K A : ByteArray) (n : Int) (C : ByteArray) (d h m : Int) (M : ByteArray) (f : Int), rd l = .tuple #[hd K A n C d h m M, .int .i64 f] := by
  unfold rd
  split
  · split
    · exact out_form 1
    · exact ans_form _ _ _ _
  · split
    · exact out_form 1
    · exact ans_form _ _ _ _
  · exact out_form 1

end Go.Proofs.YtepofpmdkphhdaaDoor.Head
