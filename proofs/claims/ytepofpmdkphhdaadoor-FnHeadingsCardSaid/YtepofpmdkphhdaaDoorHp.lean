/- Headings, plainly: a right one is read back from its text; a line that is read is the text of what was read. -/
import Derived.Test.YtepofpmdkphhdaaDoorRhF
import Derived.Test.YtepofpmdkphhdaaDoorHtL
namespace Go.Proofs.YtepofpmdkphhdaaDoor.Head
open Go.ChangeShapes Go.WideShapes Go.ChangeAt Go.RowKit Mk Fig Dec
theorem cutB_no (x : List UInt8) : ∀ acc, (∀ b ∈ x, b ≠ 32) → cutB acc x = [acc ++ x] := by
  induction x with
  | nil => intro acc _; simp [cutB]
  | cons b l ih =>
    intro acc h
    have hb := h b (by simp)
    rw [cutB, if_neg hb, ih _ (fun c hc => h c (by simp [hc]))]
    simp
theorem cutB_at (x l : List UInt8) : ∀ acc, (∀ b ∈ x, b ≠ 32) → cutB acc (x ++ 32 :: l) = (acc ++ x) :: cutB [] l := by
  induction x with
  | nil => intro acc _; simp [cutB]
  | cons b r ih =>
    intro acc h
    have hb := h b (by simp)
    rw [List.cons_append, cutB, if_neg hb, ih _ (fun c hc => h c (by simp [hc]))]
    simp
/-- pieces put together again -/
def glue : List (List UInt8) → List UInt8
  | [] => []
  | [x] => x
  | x :: y :: r => x ++ 32 :: glue (y :: r)
theorem cutB_ne (l : List UInt8) : ∀ acc, cutB acc l ≠ [] := by
  induction l with
  | nil => intro acc; simp [cutB]
  | cons b r ih =>
    intro acc
    rw [cutB]
    split
    · simp
    · exact ih _
theorem glue_cut (l : List UInt8) : ∀ acc, glue (cutB acc l) = acc ++ l := by
  induction l with
  | nil => intro acc; simp [cutB, glue]
  | cons b r ih =>
    intro acc
    rw [cutB]
    split
    · rename_i hb
      have hne := cutB_ne r []
      have e := ih []
      revert hne e
      generalize cutB [] r = q
      intro hne e
      cases q with
      | nil => exact absurd rfl hne
      | cons y t =>
        rw [glue, e, hb]; simp
    · rw [ih]; simp
theorem q2_all : ∀ n : Fin 100, (q2 n.val).length = 2 ∧ (q2 n.val).all isD = true ∧ fig ⟨(q2 n.val).toArray⟩ = (n.val : Int) := by decide +kernel
theorem q2_is (n : Nat) (h : n ≤ 99) : (q2 n).length = 2 ∧ (q2 n).all isD = true ∧ fig ⟨(q2 n).toArray⟩ = (n : Int) := q2_all ⟨n, by omega⟩
theorem isD_ne {b : UInt8} (h : isD b = true) : b ≠ 32 := by intro e; subst e; exact absurd h (by decide)
theorem isL_ne {b : UInt8} (h : isL b = true) : b ≠ 32 := by intro e; subst e; exact absurd h (by decide)
theorem ld_ne {b : UInt8} (h : ld b = true) : b ≠ 32 := by intro e; subst e; exact absurd h (by decide)
theorem all_ne {p : UInt8 → Bool} (hp : ∀ b, p b = true → b ≠ 32) {l : List UInt8} (h : l.all p = true) : ∀ b ∈ l, b ≠ 32 := fun b hb => hp b (List.all_eq_true.1 h b hb)
theorem mark_lets (M : ByteArray) (h : 0 ≤ (markOf M).1) : ∀ b ∈ M.data.toList, b ≠ 32 := by
  by_cases h0 : M.size = 0
  · intro b hb
    have : M.data.toList = [] := List.eq_nil_of_length_eq_zero (by rw [len_of]; exact h0)
    rw [this] at hb; simp at hb
  by_cases h3 : M.size = 3
  · obtain ⟨x, y, z, rfl⟩ := Mk.three M h3
    unfold markOf mkOf at h
    rw [if_neg h0, if_neg (by simpa using h3)] at h
    split at h
    · rename_i hl
      simp [lt] at hl
      intro b hb
      simp at hb
      rcases hb with rfl | rfl | rfl
      all_goals
        intro e
        subst e
        simp at hl
    · exact absurd h (by decide)
  · unfold markOf mkOf at h
    rw [if_neg h0, if_pos (by simpa using h3)] at h
    exact absurd h (by decide)
theorem fault_is {K A : ByteArray} {n : Int} {C : ByteArray} {d h m : Int} {M : ByteArray} (hz : fault K A n C d h m M = 0) : two K = true ∧ two A = true ∧ cen C = true ∧ 0 ≤ (markOf M).1 := by
  unfold fault at hz
  split at hz
  · exact absurd hz (by decide)
  · rename_i c1
    split at hz
    · exact absurd hz (by decide)
    · rename_i c2
      split at hz
      · exact absurd hz (by decide)
      · split at hz
        · exact absurd hz (by decide)
        · rename_i c4
          simp at c1 c2
          exact ⟨c1.1.1, c1.1.2, c2, by omega⟩
/-- the text of a heading -/
def htx (K A : ByteArray) (n : Int) (C : ByteArray) (d h m : Int) (M : ByteArray) : List UInt8 := text K.data.toList A.data.toList n.toNat C.data.toList d.toNat h.toNat m.toNat M.data.toList
theorem ba (s : ByteArray) : (⟨s.data.toList.toArray⟩ : ByteArray) = s := by simp
theorem six (x y z : List UInt8) (hx : x.length = 2) (hy : y.length = 2) (hz : z.length = 2) : (⟨(x ++ y ++ z).toArray⟩ : ByteArray).size = 6 ∧ (⟨(x ++ y ++ z).toArray⟩ : ByteArray).extract 0 2 = ⟨x.toArray⟩ ∧ (⟨(x ++ y ++ z).toArray⟩ : ByteArray).extract 2 4 = ⟨y.toArray⟩ ∧ (⟨(x ++ y ++ z).toArray⟩ : ByteArray).extract 4 6 = ⟨z.toArray⟩ := by
  match x, hx, y, hy, z, hz with
  | [a, b], _, [c, d], _, [e, f], _ => exact ⟨rfl, rfl, rfl, rfl⟩
theorem read_text {K A : ByteArray} {n : Int} {C : ByteArray} {d h m : Int} {M : ByteArray} (hz : fault K A n C d h m M = 0) :
    rd (pcs ⟨(htx K A n C d h m M).toArray⟩) = .tuple #[hd K A n C d h m M, .int .i64 0] := by
  obtain ⟨f1, f2, ⟨f3, f4⟩, f5, ⟨f6, f7⟩, ⟨f8, f9⟩, ⟨f10, f11⟩, f12⟩ := fault_zero hz
  obtain ⟨t1, t2, t3, t4⟩ := fault_is hz
  have qn := q2_is n.toNat (by omega)
  have qd := q2_is d.toNat (by omega)
  have qh := q2_is h.toNat (by omega)
  have qm := q2_is m.toNat (by omega)
  have bK : ∀ b ∈ K.data.toList, b ≠ 32 := all_ne (fun b => isL_ne) (by unfold two lets at t1; simp only [Bool.and_eq_true] at t1; exact t1.1)
  have bA : ∀ b ∈ A.data.toList, b ≠ 32 := all_ne (fun b => isL_ne) (by unfold two lets at t2; simp only [Bool.and_eq_true] at t2; exact t2.1)
  have bC : ∀ b ∈ C.data.toList, b ≠ 32 := all_ne (fun b => ld_ne) (by unfold cen at t3; simp only [Bool.and_eq_true] at t3; exact t3.2.2)
  have bM := mark_lets M t4
  have bn := all_ne (fun b => isD_ne) qn.2.1
  have bd := all_ne (fun b => isD_ne) qd.2.1
  have bh := all_ne (fun b => isD_ne) qh.2.1
  have bm := all_ne (fun b => isD_ne) qm.2.1
  obtain ⟨a, ha⟩ : ∃ a, a = K.data.toList ++ A.data.toList ++ q2 n.toNat := ⟨_, rfl⟩
  obtain ⟨c, hc⟩ : ∃ c, c = q2 d.toNat ++ q2 h.toNat ++ q2 m.toNat := ⟨_, rfl⟩
  have na : ∀ b ∈ a, b ≠ 32 := by intro b hb; rw [ha] at hb; simp only [List.mem_append] at hb; rcases hb with (hb | hb) | hb; exact bK b hb; exact bA b hb; exact bn b hb
  have nc : ∀ b ∈ c, b ≠ 32 := by intro b hb; rw [hc] at hb; simp only [List.mem_append] at hb; rcases hb with (hb | hb) | hb; exact bd b hb; exact bh b hb; exact bm b hb
  have lK : K.data.toList.length = 2 := by rw [len_of]; exact f1
  have lA : A.data.toList.length = 2 := by rw [len_of]; exact f2
  have sa := six K.data.toList A.data.toList (q2 n.toNat) lK lA qn.1
  have sc := six (q2 d.toNat) (q2 h.toNat) (q2 m.toNat) qd.1 qh.1 qm.1
  rw [← ha] at sa
  rw [← hc] at sc
  have e1 : K0 ⟨a.toArray⟩ = K := by unfold K0; rw [if_pos sa.1, sa.2.1, ba]
  have e2 : A0 ⟨a.toArray⟩ = A := by unfold A0; rw [if_pos sa.1, sa.2.2.1, ba]
  have e3 : N0 ⟨a.toArray⟩ = n := by unfold N0; rw [if_pos sa.1, sa.2.2.2, qn.2.2]; omega
  have e4 : D0 ⟨c.toArray⟩ = d := by unfold D0; rw [if_pos sc.1, sc.2.1, qd.2.2]; omega
  have e5 : H0 ⟨c.toArray⟩ = h := by unfold H0; rw [if_pos sc.1, sc.2.2.1, qh.2.2]; omega
  have e6 : I0 ⟨c.toArray⟩ = m := by unfold I0; rw [if_pos sc.1, sc.2.2.2, qm.2.2]; omega
  have ans : ∀ M', M' = M → ansOf ⟨a.toArray⟩ C ⟨c.toArray⟩ M' = .tuple #[hd K A n C d h m M, .int .i64 0] := by
    intro M' hM
    subst hM
    unfold ansOf fl
    rw [e1, e2, e3, e4, e5, e6, if_pos hz]
  have fr : front K.data.toList A.data.toList n.toNat C.data.toList d.toNat h.toNat m.toNat = a ++ 32 :: (C.data.toList ++ 32 :: c) := by
    unfold front; rw [ha, hc]; simp [List.append_assoc]
  have sC : C.size ≠ 0 := by omega
  unfold htx text
  by_cases hM : M.data.toList = []
  · rw [if_pos hM, fr]
    have p : pcs ⟨(a ++ 32 :: (C.data.toList ++ 32 :: c)).toArray⟩ = [⟨a.toArray⟩, C, ⟨c.toArray⟩] := by
      unfold pcs
      show (cutB [] (a ++ 32 :: (C.data.toList ++ 32 :: c))).map _ = _
      rw [cutB_at _ _ _ na, cutB_at _ _ _ bC, cutB_no _ _ nc]
      simp
    rw [p]
    have eM : em = M := by rw [← ba M, hM]
    show (if (⟨a.toArray⟩ : ByteArray).size = 0 ∨ C.size = 0 ∨ (⟨c.toArray⟩ : ByteArray).size = 0 then out 1 else ansOf ⟨a.toArray⟩ C ⟨c.toArray⟩ em) = _
    rw [if_neg (by rw [sa.1, sc.1]; omega)]
    exact ans em eM
  · rw [if_neg hM, fr]
    have p : pcs ⟨(a ++ 32 :: (C.data.toList ++ 32 :: c) ++ [32] ++ M.data.toList).toArray⟩ = [⟨a.toArray⟩, C, ⟨c.toArray⟩, M] := by
      unfold pcs
      have ee : a ++ 32 :: (C.data.toList ++ 32 :: c) ++ [32] ++ M.data.toList = a ++ 32 :: (C.data.toList ++ 32 :: (c ++ 32 :: M.data.toList)) := by simp
      show (cutB [] (a ++ 32 :: (C.data.toList ++ 32 :: c) ++ [32] ++ M.data.toList)).map _ = _
      rw [ee, cutB_at _ _ _ na, cutB_at _ _ _ bC, cutB_at _ _ _ nc, cutB_no _ _ bM]
      simp
    rw [p]
    have sM : M.size ≠ 0 := fun e => hM (List.eq_nil_of_length_eq_zero (by rw [len_of]; exact e))
    show (if (⟨a.toArray⟩ : ByteArray).size = 0 ∨ C.size = 0 ∨ (⟨c.toArray⟩ : ByteArray).size = 0 ∨ M.size = 0 then out 1 else ansOf ⟨a.toArray⟩ C ⟨c.toArray⟩ M) = _
    rw [if_neg (by rw [sa.1, sc.1]; omega)]
    exact ans M rfl
theorem two_back : ∀ x y : UInt8, isD x = true → isD y = true → q2 (fig ⟨#[x, y]⟩).toNat = [x, y] := by
  intro x y hx hy
  have h : ∀ i j : Fin 10, q2 (fig ⟨#[UInt8.ofNat (48 + i.val), UInt8.ofNat (48 + j.val)]⟩).toNat = [UInt8.ofNat (48 + i.val), UInt8.ofNat (48 + j.val)] := by decide +kernel
  simp [isD] at hx hy
  have ex : x = UInt8.ofNat (48 + (x.toNat - 48)) := by apply UInt8.toNat_inj.1; simp; omega
  have ey : y = UInt8.ofNat (48 + (y.toNat - 48)) := by apply UInt8.toNat_inj.1; simp; omega
  have := h ⟨x.toNat - 48, by omega⟩ ⟨y.toNat - 48, by omega⟩
  simp only at this
  rw [← ex, ← ey] at this
  exact this
theorem q2_fig (s : ByteArray) (h : s.size = 2) (hf : 0 ≤ fig s) : q2 (fig s).toNat = s.data.toList := by
  have hd : s.data.toList.all isD = true := by
    cases e : s.data.toList.all isD
    · have := (fig_neg s (by omega)).2 e; omega
    · rfl
  obtain ⟨x, y, rfl⟩ : ∃ x y : UInt8, s = ⟨#[x, y]⟩ := by
    obtain ⟨⟨l⟩⟩ := s
    match l, h with
    | [x, y], _ => exact ⟨x, y, rfl⟩
  simp at hd
  exact two_back x y hd.1 hd.2
theorem split6 (s : ByteArray) (h : s.size = 6) : s.data.toList = (s.extract 0 2).data.toList ++ (s.extract 2 4).data.toList ++ (s.extract 4 6).data.toList := by
  obtain ⟨⟨l⟩⟩ := s
  match l, h with
  | [a, b, c, d, e, f], _ => rfl
theorem tuple_inj {K A : ByteArray} {n : Int} {C : ByteArray} {d h m : Int} {M : ByteArray} {f : Int} {K' A' : ByteArray} {n' : Int} {C' : ByteArray} {d' h' m' : Int} {M' : ByteArray} {f' : Int}
    (e : Value.tuple #[hd K A n C d h m M, .int .i64 f] = .tuple #[hd K' A' n' C' d' h' m' M', .int .i64 f']) : K = K' ∧ A = A' ∧ n = n' ∧ C = C' ∧ d = d' ∧ h = h' ∧ m = m' ∧ M = M' ∧ f = f' := by
  simp at e
  obtain ⟨⟨a1, a2, a3, a4, a5, a6, a7, a8⟩, a9⟩ := e
  exact ⟨a1, a2, a3, a4, a5, a6, a7, a8, a9⟩
/-- what an answer without a fault says -/
theorem ans_text {a b c M : ByteArray} {K A : ByteArray} {n : Int} {C : ByteArray} {d h m : Int} {M' : ByteArray} (e : ansOf a b c M = .tuple #[hd K A n C d h m M', .int .i64 0]) :
    fault K A n C d h m M' = 0 ∧ M' = M ∧ front K.data.toList A.data.toList n.toNat C.data.toList d.toNat h.toNat m.toNat = a.data.toList ++ 32 :: (b.data.toList ++ 32 :: c.data.toList) := by
  unfold ansOf at e
  by_cases hz : fl a b c M = 0
  · rw [if_pos hz] at e
    obtain ⟨rfl, rfl, rfl, rfl, rfl, rfl, rfl, rfl, _⟩ := tuple_inj e
    refine ⟨hz, rfl, ?_⟩
    unfold fl at hz
    obtain ⟨f1, f2, ⟨f3, f4⟩, f5, ⟨f6, f7⟩, ⟨f8, f9⟩, ⟨f10, f11⟩, f12⟩ := fault_zero hz
    have a6 : a.size = 6 := by
      by_cases c6 : a.size = 6
      · exact c6
      · unfold K0 at f1; rw [if_neg c6] at f1; exact absurd f1 (by decide)
    have c6 : c.size = 6 := by
      by_cases c6 : c.size = 6
      · exact c6
      · unfold D0 at f6; rw [if_neg c6] at f6; exact absurd f6 (by decide)
    unfold K0 A0 N0 D0 H0 I0 front
    unfold N0 at f3
    unfold D0 at f6
    unfold H0 at f8
    unfold I0 at f10
    rw [if_pos a6] at f3
    rw [if_pos c6] at f6 f8 f10
    rw [if_pos a6, if_pos a6, if_pos a6, if_pos c6, if_pos c6, if_pos c6]
    rw [q2_fig _ (by rw [ext_size a6 (by omega)]) f3, q2_fig _ (by rw [ext_size c6 (by omega)]) (by omega), q2_fig _ (by rw [ext_size c6 (by omega)]) f8, q2_fig _ (by rw [ext_size c6 (by omega)]) f10]
    rw [split6 a a6, split6 c c6]
    simp [List.append_assoc]
  · rw [if_neg hz] at e
    have := (tuple_inj e).2.2.2.2.2.2.2.2
    exact absurd this hz
theorem pcs_glue (s : ByteArray) : glue ((pcs s).map (·.data.toList)) = s.data.toList := by
  unfold pcs
  rw [List.map_map]
  have e : (cutB [] s.data.toList).map ((fun x : ByteArray => x.data.toList) ∘ fun l => (⟨l.toArray⟩ : ByteArray)) = cutB [] s.data.toList := by
    conv => rhs; rw [← List.map_id (cutB [] s.data.toList)]
    exact List.map_congr_left fun x _ => by simp
  rw [e, glue_cut]
  simp
theorem text_read {s K A : ByteArray} {n : Int} {C : ByteArray} {d h m : Int} {M : ByteArray} (e : rd (pcs s) = .tuple #[hd K A n C d h m M, .int .i64 0]) :
    fault K A n C d h m M = 0 ∧ (⟨(htx K A n C d h m M).toArray⟩ : ByteArray) = s := by
  have g := pcs_glue s
  have no1 : ∀ {x : Prop}, out 1 = .tuple #[hd K A n C d h m M, .int .i64 0] → x := fun z => absurd (tuple_inj z).2.2.2.2.2.2.2.2 (by decide)
  revert e g
  generalize pcs s = q
  intro e g
  match q, e, g with
  | [], e, _ => exact no1 e
  | [_], e, _ => exact no1 e
  | [_, _], e, _ => exact no1 e
  | [a, b, c], e, g =>
    replace e : (if a.size = 0 ∨ b.size = 0 ∨ c.size = 0 then out 1 else ansOf a b c em) = .tuple #[hd K A n C d h m M, .int .i64 0] := e
    split at e
    · exact no1 e
    · obtain ⟨z, hM, fr⟩ := ans_text e
      refine ⟨z, ?_⟩
      unfold htx text
      rw [hM, if_pos (by simp), fr, ← ba s, ← g]
      simp [glue]
  | [a, b, c, x], e, g =>
    replace e : (if a.size = 0 ∨ b.size = 0 ∨ c.size = 0 ∨ x.size = 0 then out 1 else ansOf a b c x) = .tuple #[hd K A n C d h m M, .int .i64 0] := e
    split at e
    · exact no1 e
    · rename_i hs
      obtain ⟨z, hM, fr⟩ := ans_text e
      have x0 : x.size ≠ 0 := fun y => hs (by simp [y])
      refine ⟨z, ?_⟩
      unfold htx text
      rw [hM, if_neg (fun y => x0 (by rw [← len_of, y]; rfl)), fr, ← ba s, ← g]
      simp [glue]
  | _ :: _ :: _ :: _ :: _ :: _, e, _ => exact no1 e
end Go.Proofs.YtepofpmdkphhdaaDoor.Head
