/- Tied tasks: ready, behind a stuck one, ended; the groups made. -/
import Derived.Test.YtfhpomfdkpfooaaTy
import Derived.Test.YtfhpomfdkpfooaaJobOk
namespace Go.Proofs.Ytfhpomfdkpfooaa.Ty
open Go.ChangeShapes Go.WideShapes Go.ChangeAt Go.RowKit
open Go.Proofs.Ytfhpomfdkpfooaa.Lists Go.Proofs.Ytfhpomfdkpfooaa.Tm Go.Proofs.Ytfhpomfdkpfooaa.Rk Go.Proofs.Ytfhpomfdkpfooaa.Ru

/-- what task i comes behind, as it lies -/
theorem aft_at {w : World} {B : Nat} {R : Tk.Ls} {X : List Int} {h jb : Nat} {u a : Nat → Value} {P : Nat → Nat} {run : Int → Int} {st : Nat → Bool} {k : Nat} (t : Td w B R X h jb u a P run st k) (i : Nat) (hi : i < k) :
    ((Tk.cl R i).length = 0 ∧ a i = .slice none 0 0) ∨ ∃ g cap, a i = .slice (some ⟨g, 0, none⟩) (Tk.cl R i).length cap ∧ ∀ m, m < (Tk.cl R i).length → w.cell? ⟨g, m, none⟩ = some (.pointer (some ⟨P ((Tk.cl R i).getD m 0 - 1).toNat, 0, none⟩)) := by
  rcases Tk.row_cases (t.aft i hi) with ⟨h1, h2⟩ | ⟨g, cap, h1, _⟩
  · exact Or.inl ⟨h1, h2⟩
  · refine Or.inr ⟨g, cap, h1, fun m hm => ?_⟩
    have r := t.aft i hi
    rw [h1] at r
    rw [r.cellAt m (by omega)]
    simp [ptrs, List.getD, hm]

theorem ready_td {w : World} {B : Nat} {R : Tk.Ls} {X : List Int} {h jb : Nat} {u a : Nat → Value} {P : Nat → Nat} {run : Int → Int} {st : Nat → Bool} {k : Nat} (t : Td w B R X h jb u a P run st k) (J : Jb.Ls)
    (hj : ∀ i, i < k → w.cell? ⟨jb, i * 2, none⟩ = some (.int .i64 (hw J i))) (i : Nat) (hi : i < k) (h60 : (Tk.cl R i).length ≤ 60) (ha : ∀ m, m < (Tk.cl R i).length → 1 ≤ (Tk.cl R i).getD m 0 ∧ (Tk.cl R i).getD m 0 ≤ (i : Int)) :
    Calls Try.prog 37 #[.pointer (some ⟨P i, 0, none⟩)] w fun e w' => e = .returned (.bool (fr R J i)) ∧ w' = w := by
  have c6 : w.cell? ⟨P i, 6, none⟩ = some (a i) := ((t.tsk i hi).cell 6).trans rfl
  rcases aft_at t i hi with ⟨h1, h2⟩ | ⟨g, cap, h1, h2⟩
  · have e : fr R J i = true := by unfold fr; rw [h1]; rfl
    rw [e]
    rw [h2] at c6
    clear t hj ha h1 h2 e
    go_enter Try.func37, Try.ntmps37
    go_wp2_with fail
    go_loop [10] (fun i => i = .int .i64 0) (fun _ => 0)
    case atStart => rfl
    case round =>
      subst hrel
      go_wp2_with fail
      go_ret
      exact ⟨rfl, rfl⟩
  · refine Gr.ready_any w (P i) 0 (Tk.cl R i).length (fun m => hw J ((Tk.cl R i).getD m 0 - 1).toNat) ⟨g, 0, cap, by omega, ?_, fun m hm => ?_⟩ (fr R J i) ?_
    · rw [h1] at c6; exact c6
    · have hz := ha m hm
      have hlt : ((Tk.cl R i).getD m 0 - 1).toNat < k := by omega
      refine ⟨P ((Tk.cl R i).getD m 0 - 1).toNat, 0, jb, ((Tk.cl R i).getD m 0 - 1).toNat * 2, by rw [Nat.zero_add]; exact h2 m hm, ?_, hj _ hlt⟩
      exact ((t.tsk _ hlt).cell 5).trans rfl
    · unfold fr
      rw [List.all_eq_true]
      constructor
      · intro q m hm
        have := q m (by simpa using hm)
        unfold dn at this
        simpa using this
      · intro q m hm
        have := q m (by simpa using hm)
        unfold dn
        simpa using this

/-- Is one of those that task i comes behind stuck? -/
def bst (R : Tk.Ls) (st : Nat → Bool) (i : Nat) : Bool := (List.range (Tk.cl R i).length).any fun m => st ((Tk.cl R i).getD m 0 - 1).toNat
set_option maxHeartbeats 1000000 in
theorem behind_td {w : World} {B : Nat} {R : Tk.Ls} {X : List Int} {h jb : Nat} {u a : Nat → Value} {P : Nat → Nat} {run : Int → Int} {st : Nat → Bool} {k : Nat} (t : Td w B R X h jb u a P run st k)
    (i : Nat) (hi : i < k) (h60 : (Tk.cl R i).length ≤ 60) (ha : ∀ m, m < (Tk.cl R i).length → 1 ≤ (Tk.cl R i).getD m 0 ∧ (Tk.cl R i).getD m 0 ≤ (i : Int)) :
    Calls Try.prog 39 #[.pointer (some ⟨P i, 0, none⟩)] w fun e w' => e = .returned (.bool (bst R st i)) ∧ w' = w := by
  have c6 : w.cell? ⟨P i, 6, none⟩ = some (a i) := ((t.tsk i hi).cell 6).trans rfl
  rcases aft_at t i hi with ⟨h1, h2⟩ | ⟨g, cap, h1, h2⟩
  · have e : bst R st i = false := by unfold bst; rw [h1]; rfl
    rw [e]
    rw [h2] at c6
    clear t ha h1 h2 e
    go_enter Try.func39, Try.ntmps39
    go_wp2_with fail
    go_loop [10] (fun i => i = .int .i64 0) (fun _ => 0)
    case atStart => rfl
    case round =>
      subst hrel
      go_wp2_with fail
      go_ret
      exact ⟨rfl, rfl⟩
  · rw [h1] at c6
    have H2 : Hid (∀ m, m < (Tk.cl R i).length → ∃ p : Nat, w.cell? ⟨g, m, none⟩ = some (.pointer (some ⟨p, 0, none⟩)) ∧ w.cell? ⟨p, 8, none⟩ = some (.bool (st ((Tk.cl R i).getD m 0 - 1).toNat))) := fun m hm => by
      have hz := ha m hm
      exact ⟨_, h2 m hm, ((t.tsk _ (by omega)).cell 8).trans rfl⟩
    have HB : Hid (bst R st i = true ↔ ∃ m, m < (Tk.cl R i).length ∧ st ((Tk.cl R i).getD m 0 - 1).toNat = true) := by
      show _ ↔ _
      unfold bst
      rw [List.any_eq_true]
      simp
    generalize bst R st i = bo at *
    obtain ⟨f, hf⟩ : ∃ f : Nat → Bool, f = fun m => st ((Tk.cl R i).getD m 0 - 1).toNat := ⟨_, rfl⟩
    have H3 : Hid (∀ m, m < (Tk.cl R i).length → ∃ p : Nat, w.cell? ⟨g, m, none⟩ = some (.pointer (some ⟨p, 0, none⟩)) ∧ w.cell? ⟨p, 8, none⟩ = some (.bool (f m))) := by rw [hf]; exact H2.out
    have HC : Hid (bo = true ↔ ∃ m, m < (Tk.cl R i).length ∧ f m = true) := by rw [hf]; exact HB.out
    generalize (Tk.cl R i).length = n at *
    clear H2 HB hf h1 h2 ha t
    go_enter Try.func39, Try.ntmps39
    go_wp2_with fail
    go_loopw [10, 4] (fun i _ wr => ∃ j : Nat, j ≤ n ∧ i = .int .i64 j ∧ wr = w ∧ Hid (∀ m, m < j → f m = false)) (fun i _ _ => n - (intOf i).toNat)
    case atStart => exact ⟨0, Nat.zero_le _, rfl, rfl, fun m hm => absurd hm (by omega)⟩
    case round =>
      obtain ⟨j, hj, rfl, rfl, OK⟩ := hrel
      by_cases hlt : j < n
      · have i1 : (0 : Int) ≤ (j : Int) := by omega
        have i2 : (j : Int) < (n : Int) := by omega
        obtain ⟨p, q1, q2⟩ := H3.out j hlt
        cases hs : f j
        · rw [hs] at q2
          have OK2 : Hid (∀ m, m < j + 1 → f m = false) := fun m hm => (by
            by_cases e : m = j
            · rw [e]; exact hs
            · exact OK.out m (by omega))
          clear OK hs
          go_wp2_with fail
          go_roundw
          case rel => exact ⟨j + 1, by omega, by go_num, trivial, OK2⟩
          case measure => simp [intOf]; omega
        · rw [hs] at q2
          have HF : Hid (bo = true) := HC.out.2 ⟨j, hlt, hs⟩
          clear hs
          go_wp2_with fail
          go_ret
          exact ⟨by rw [HF.out]; rfl, rfl⟩
      · have HT : Hid (bo = false) := (by
          show bo = false
          cases hbo : bo
          · rfl
          · obtain ⟨m, hm, hm2⟩ := HC.out.1 hbo
            have := OK.out m (by omega)
            rw [hm2] at this
            cases this)
        have i2 : ¬ (j : Int) < (n : Int) := by omega
        go_wp2_with fail
        go_ret
        exact ⟨by rw [HT.out]; rfl, rfl⟩

/-- how a task ends -/
def ez (ok : Bool) (t m : Int) : Int := if ok = true then 2 else if t = m then 3 else 0
set_option maxHeartbeats 1000000 in
theorem end_any (w : World) (p jb jo : Nat) (ok : Bool) (s t m : Int) (h4 : w.cell? ⟨p, 4, none⟩ = some (.int .i64 m)) (h5 : w.cell? ⟨p, 5, none⟩ = some (.pointer (some ⟨jb, jo, none⟩))) (j0 : w.cell? ⟨jb, jo, none⟩ = some (.int .i64 s)) (j1 : w.cell? ⟨jb, jo + 1, none⟩ = some (.int .i64 t)) (jf : w.frozen? ⟨jb, jo, none⟩ = false) :
    Calls Try.prog 30 #[.pointer (some ⟨p, 0, none⟩), .bool ok] w fun e w' => e = .returned (.tuple #[]) ∧ ∃ n, w' = (w.drewN n).setCell ⟨jb, jo, none⟩ (.int .i64 (ez ok t m)) := by
  cases ok
  · by_cases hm : t = m
    · have e : ez false t m = 3 := by unfold ez; rw [if_neg (by decide), if_pos hm]
      rw [e]
      subst hm
      clear e
      go_enter Try.func30, Try.ntmps30
      go_wp2_with fail
      go_quiet (fail)
      go_wp2_with fail
      go_end0
      exact ⟨rfl, _, rfl⟩
    · have e : ez false t m = 0 := by unfold ez; rw [if_neg (by decide), if_neg hm]
      rw [e]
      have hm2 : (t == m) = false := by simpa using hm
      clear e
      go_enter Try.func30, Try.ntmps30
      go_wp2_with fail
      go_quiet (fail)
      go_wp2_with fail
      go_end0
      exact ⟨rfl, _, rfl⟩
  · have e : ez true t m = 2 := rfl
    rw [e]
    clear e
    go_enter Try.func30, Try.ntmps30
    go_wp2_with fail
    go_end0
    exact ⟨rfl, 0, rfl⟩
end Go.Proofs.Ytfhpomfdkpfooaa.Ty
