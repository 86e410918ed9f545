/- Lists cloned: numbers, tasks. -/
import Derived.Test.YtfhpomfdkpfooaaBm
import Derived.Maps.AppendAt
namespace Go.Proofs.Ytfhpomfdkpfooaa.Cp
open Go.ChangeShapes Go.WideShapes Go.ChangeAt Go.RowKit
open Go.Proofs.Ytfhpomfdkpfooaa.Lists Go.Proofs.Ytfhpomfdkpfooaa.Tm

theorem empty_row {W : World} (e : TypeId) (k : Nat) : (W.alloc (.cells #[] e)).ownsRow W.heap.size e k (.slice (some ⟨W.heap.size, 0, none⟩) 0 0) 0 [] := by
  refine ⟨by simp, .inr ⟨W.heap.size, 0, #[], rfl, Nat.le_refl _, ?_, Nat.le_refl _, Nat.zero_le _, by simp, by simp⟩⟩
  exact heap_alloc_new W _
theorem row_some {w : World} {base n k : Nat} {e : TypeId} {v : Value} {xs : List Value} (h : w.ownsRow base e k v n xs) (hn : v ≠ .slice none 0 0) : ∃ g cap, v = .slice (some ⟨g, 0, none⟩) n cap ∧ base ≤ g ∧ g < w.heap.size ∧ n ≤ cap ∧ cap ≤ maxLen := by
  rcases h.2 with ⟨h1, _⟩ | ⟨g, cap, cur, h1, hb, hh, hc, hm, _⟩
  · exact absurd h1 hn
  · refine ⟨g, cap, h1, hb, ?_, hc, hm⟩
    by_cases x : g < w.heap.size
    · exact x
    · rw [Array.getElem?_eq_none (by omega)] at hh; cases hh
theorem one_cell (X : List Int) : ∀ u ∈ ints X, u.oneCell' = true := by intro u hu; simp [ints] at hu; obtain ⟨z, _, rfl⟩ := hu; rfl
theorem add_eq (g o j : Nat) : (⟨g, o, none⟩ : Addr).add j = ⟨g, o + j, none⟩ := by
  unfold Addr.add
  split
  · rename_i h; subst h; rfl
  · rfl
theorem ints_at' {w : World} {g o n : Nat} {X : List Int} (hn : X.length = n) (K : ∀ i, i < n → w.cell? ⟨g, o + i, none⟩ = some (.int .i64 (X.getD i 0))) : ∀ j u, (ints X)[j]? = some u → w.cell? ((⟨g, o, none⟩ : Addr).add j) = some u := by
  intro j u hj
  have hl : j < X.length := by
    have := (List.getElem?_eq_some_iff.1 hj).1
    simpa [ints] using this
  rw [add_eq, K j (by omega)]
  simp [ints, List.getElem?_map, List.getElem?_eq_getElem hl] at hj
  rw [← hj]
  simp [List.getD_eq_getElem?_getD, hl]

set_option maxHeartbeats 1000000 in
theorem clone_any (w : World) (v : Value) (X : List Int) (h : Lists.Reads w v X) (hl : X.length ≤ 1048576) :
    Calls Try.prog 53 #[v] w fun e w' => ∃ v', e = .returned v' ∧ w'.ownsRow w.heap.size 2 1 v' X.length (ints X) ∧ Below w.heap.size w w' := by
  rcases h with ⟨rfl, a, cap, rfl⟩ | ⟨g, o, cap, rfl, h1, h2, hg, K⟩
  · rcases a with _ | a
    · have hnil : ∀ w, (binOp .eql 25 (.slice none 0 cap) (.slice none 0 0)).run Try.prog w = .ok (.bool true) w := fun _ => by kernel_rfl
      go_enter Try.func53, Try.ntmps53
      go_wp2_with fail
      go_ret
      exact ⟨_, rfl, ⟨rfl, .inl ⟨rfl, rfl⟩⟩, Below.refl _ _⟩
    · have hnil : ∀ w, (binOp .eql 25 (.slice (some a) 0 cap) (.slice none 0 0)).run Try.prog w = .ok (.bool false) w := fun _ => by kernel_rfl
      have ER : Hid ((w.alloc (.cells #[] 2)).ownsRow w.heap.size 2 1 (.slice (some ⟨w.heap.size, 0, none⟩) 0 0) 0 []) := empty_row 2 1
      have BB : Hid (Below w.heap.size w (w.alloc (.cells #[] 2))) := (Below.refl _ _).alloc (Nat.le_refl _) _
      go_enter Try.func53, Try.ntmps53
      go_wp2
      go_ret
      exact ⟨_, rfl, ER.out, BB.out⟩
  · obtain ⟨i0, hi, hz0, hz1, hz2⟩ := info_parts Lists.Try.info2
    have HK : Hid (∀ j u, (ints X)[j]? = some u → (w.alloc (.cells #[] 2)).cell? ((⟨g, o, none⟩ : Addr).add j) = some u) := ints_at' rfl fun i hi => by rw [World.cell?_alloc_lt _ _ _ hg]; exact K i hi
    obtain ⟨n, hn⟩ : ∃ n, n = X.length := ⟨_, rfl⟩
    have HX : Hid (X.length = n) := hn.symm
    rw [← hn] at hl ⊢
    have ER : Hid ((w.alloc (.cells #[] 2)).ownsRow w.heap.size 2 1 (.slice (some ⟨w.heap.size, 0, none⟩) 0 0) 0 []) := empty_row 2 1
    have hnil : ∀ w, (binOp .eql 25 (.slice (some ⟨g, o, none⟩) n cap) (.slice none 0 0)).run Try.prog w = .ok (.bool false) w := fun _ => by kernel_rfl
    clear K hn h1
    go_enter Try.func53, Try.ntmps53
    go_wp2_with (at_builtin; refine wpList_append_own_at _ rfl _ _ 25 rfl w.heap.size 2 i0 (.int .i64 0) 1 8 Try.underlying25 hi hz0 hz1 hz2 rfl (by decide) _ _ _ rfl ER.out ⟨g, o, none⟩ n cap (ints X) rfl (by rw [List.length_map, HX.out]; omega) HK.out (one_cell X) ?c3 ?c4 ?c5 ?_)
    case c3 => unfold maxLen; omega
    case c4 => omega
    case c5 => simp
    intro v' w2 hown hgrow hnil hat
    have O : Hid (w2.ownsRow w.heap.size 2 1 v' n (ints X)) := hown
    have BB : Hid (Below w.heap.size w w2) := ((Below.refl _ _).alloc (Nat.le_refl _) _).grown hgrow (by simp) (fun k hk => by simp [Value.ownBlock] at hk; omega)
    clear hown hgrow hnil hat
    go_wp2_with fail
    go_ret
    exact ⟨_, rfl, O.out, BB.out⟩

/-- The values of a list of tasks, as they lie. -/
def vals (w : World) (b o n : Nat) : List Value := (List.range (n * 4)).map fun p => (w.cell? ⟨b, o + p, none⟩).getD (.slice none 0 0)
theorem vals_len (w : World) (b o n : Nat) : (vals w b o n).length = n * 4 := by simp [vals]
theorem vals_at {w : World} {b o n p : Nat} (hp : p < n * 4) : (vals w b o n)[p]? = some ((w.cell? ⟨b, o + p, none⟩).getD (.slice none 0 0)) := by
  unfold vals
  rw [List.getElem?_map, List.getElem?_range hp]
  rfl
/-- Tasks whose lists are somebody else's. -/
def Shr (w : World) (xs : List Value) (R : Tk.Ls) (lo : Nat) : Prop := ∀ i, lo ≤ i → i < R.length → xs[i * 4 + 1]? = some (.int .i64 (Tk.cz R i 1)) ∧ xs[i * 4 + 2]? = some (.int .i64 (Tk.cz R i 2)) ∧ xs[i * 4 + 3]? = some (.int .i64 (Tk.cz R i 3)) ∧ ∃ u, xs[i * 4]? = some u ∧ Lists.Reads w u (Tk.cl R i)
theorem Shr.on {w w' : World} {xs : List Value} {R : Tk.Ls} {lo : Nat} (h : Shr w xs R lo) (hb : Below w.heap.size w w') : Shr w' xs R lo := fun i h1 h2 => by
  obtain ⟨a, b, c, u, hu, hr⟩ := h i h1 h2
  exact ⟨a, b, c, u, hu, hr.on hb⟩
theorem Try.infoT : (Try.prog.info? 50).map (fun i => (i.zero, i.size, i.bytes)) = some (some (.agg #[.slice none 0 0, .int .i64 0, .int .i64 0, .int .i64 0]), 4, 48) := by kernel_rfl
theorem vals_shr {w : World} {b o : Nat} {R : Tk.Ls} (h : ∀ i, i < R.length → Tk.Cs w b o R i) : Shr w (vals w b o R.length) R 0 ∧ (∀ p, p < R.length * 4 → ∃ u, w.cell? ⟨b, o + p, none⟩ = some u ∧ u.oneCell' = true) := by
  refine ⟨fun i _ hi => ?_, fun p hp => ?_⟩
  · obtain ⟨h1, h2, h3, u, hu, hr⟩ := h i hi
    rw [vals_at (by omega), vals_at (by omega), vals_at (by omega), vals_at (by omega)]
    rw [← Nat.add_assoc, ← Nat.add_assoc, ← Nat.add_assoc, h1, h2, h3, hu]
    exact ⟨rfl, rfl, rfl, u, rfl, hr⟩
  · obtain ⟨h1, h2, h3, u, hu, hr⟩ := h (p / 4) (by omega)
    have hc : p = p / 4 * 4 ∨ p = p / 4 * 4 + 1 ∨ p = p / 4 * 4 + 2 ∨ p = p / 4 * 4 + 3 := by omega
    rcases hc with e | e | e | e
    · refine ⟨u, by rw [e]; simpa using hu, ?_⟩
      obtain ⟨a, c, hx⟩ := hr.form
      rw [hx]; rfl
    · exact ⟨_, by rw [e, ← Nat.add_assoc]; simpa using h1, rfl⟩
    · exact ⟨_, by rw [e, ← Nat.add_assoc]; simpa using h2, rfl⟩
    · exact ⟨_, by rw [e, ← Nat.add_assoc]; simpa using h3, rfl⟩

set_option maxHeartbeats 1000000 in
theorem cloneT_any (w00 w : World) (hb0 : Below w00.heap.size w00 w) (v : Value) (R : Tk.Ls) (h : Tk.Reads w00 v R) (h0 : 0 < R.length) (hl : R.length ≤ 1048576) :
    Calls Try.prog 52 #[v] w fun e w' => ∃ g c xs, e = .returned (.slice (some ⟨g, 0, none⟩) R.length c) ∧ w'.ownsRow w.heap.size 50 4 (.slice (some ⟨g, 0, none⟩) R.length c) R.length xs ∧ Shr w00 xs R 0 ∧ Below w.heap.size w w' := by
  rcases h with ⟨e, _⟩ | ⟨g, o, cap, rfl, h1, h2, hg0, K0⟩
  · rw [e] at h0; exact absurd h0 (by simp)
  · obtain ⟨i0, hi, hz0, hz1, hz2⟩ := info_parts Try.infoT
    have hg : g < w.heap.size := Nat.lt_of_lt_of_le hg0 hb0.size
    have K : ∀ i, i < R.length → Tk.Cs w g o R i := fun i hi => (K0 i hi).on hb0 hg0
    obtain ⟨sh, _⟩ := vals_shr K0
    obtain ⟨_, K'⟩ := vals_shr K
    have ev : vals w00 g o R.length = vals w g o R.length := by
      unfold vals
      refine List.map_congr_left fun p _ => ?_
      rw [hb0.cell (p := ⟨g, o + p, none⟩) hg0]
    rw [ev] at sh
    have HS : Hid (Shr w00 (vals w g o R.length) R 0) := sh
    have HK : Hid (∀ j u, (vals w g o R.length)[j]? = some u → (w.alloc (.cells #[] 50)).cell? ((⟨g, o, none⟩ : Addr).add j) = some u) := fun j u hj => by
      have hl : j < R.length * 4 := by
        have := (List.getElem?_eq_some_iff.1 hj).1
        rw [vals_len] at this
        exact this
      obtain ⟨x, hx, _⟩ := K' j hl
      rw [vals_at hl, hx] at hj
      rw [add_eq, World.cell?_alloc_lt _ _ _ hg, hx]
      simpa using hj
    have H1 : Hid (∀ u ∈ vals w g o R.length, u.oneCell' = true) := fun u hu => by
      obtain ⟨j, hj⟩ := List.getElem?_of_mem hu
      have hl : j < R.length * 4 := by
        have := (List.getElem?_eq_some_iff.1 hj).1
        rw [vals_len] at this
        exact this
      obtain ⟨x, hx, ho⟩ := K' j hl
      rw [vals_at hl, hx] at hj
      simp at hj
      rw [← hj]; exact ho
    have HL : Hid ((vals w g o R.length).length = R.length * 4) := vals_len _ _ _ _
    clear ev
    generalize vals w g o R.length = xs at *
    obtain ⟨n, hn⟩ : ∃ n, n = R.length := ⟨_, rfl⟩
    have HX : Hid (R.length = n) := hn.symm
    rw [← hn] at hl h0 HL ⊢
    have ER : Hid ((w.alloc (.cells #[] 50)).ownsRow w.heap.size 50 4 (.slice (some ⟨w.heap.size, 0, none⟩) 0 0) 0 []) := empty_row 50 4
    have hnil : ∀ w, (binOp .eql 24 (.slice (some ⟨g, o, none⟩) n cap) (.slice none 0 0)).run Try.prog w = .ok (.bool false) w := fun _ => by kernel_rfl
    clear K K0 hn h1 sh K' hb0 hg0
    go_enter Try.func52, Try.ntmps52
    go_wp2_with (at_builtin; refine wpList_append_own_at _ rfl _ _ 24 rfl w.heap.size 50 i0 (.agg #[.slice none 0 0, .int .i64 0, .int .i64 0, .int .i64 0]) 4 48 Try.underlying24 hi hz0 hz1 hz2 rfl (by decide) _ _ _ rfl ER.out ⟨g, o, none⟩ n cap xs rfl (by rw [HL.out]) HK.out H1.out ?c3 ?c4 ?c5 ?_)
    case c3 => unfold maxLen; omega
    case c4 => omega
    case c5 => simp
    intro v' w2 hown hgrow hnil hat
    obtain ⟨g', c', rfl, q1, q2, q3, q4⟩ := row_some hown hnil
    have O : Hid (w2.ownsRow w.heap.size 50 4 (.slice (some ⟨g', 0, none⟩) n c') n xs) := hown
    have BB : Hid (Below w.heap.size w w2) := ((Below.refl _ _).alloc (Nat.le_refl _) _).grown hgrow (by simp) (fun k hk => by simp [Value.ownBlock] at hk; omega)
    clear hown hgrow hnil hat
    go_wp2_with fail
    go_ret
    exact ⟨_, _, _, rfl, O.out, HS.out, BB.out⟩
end Go.Proofs.Ytfhpomfdkpfooaa.Cp
