/- Jobs cloned; jobs changed in their place. -/
import Derived.Test.YtfhpomfdkpfooaaTy
import Derived.Maps.AppendAt
namespace Go.Proofs.Ytfhpomfdkpfooaa.Ty
open Go.ChangeShapes Go.WideShapes Go.ChangeAt Go.RowKit
open Go.Proofs.Ytfhpomfdkpfooaa.Lists Go.Proofs.Ytfhpomfdkpfooaa.Tm Go.Proofs.Ytfhpomfdkpfooaa.Rk Go.Proofs.Ytfhpomfdkpfooaa.Ru

theorem Try.info34 : (Try.prog.info? 34).map (fun i => (i.zero, i.size, i.bytes)) = some (some (.agg #[.int .i64 0, .int .i64 0]), 2, 16) := by kernel_rfl
/-- the cells of jobs -/
def jvs (J : Jb.Ls) : List Value := (List.range (J.length * 2)).map fun p => .int .i64 (if p % 2 = 0 then Jb.c0 J (p / 2) else Jb.c1 J (p / 2))
theorem jvs_len (J : Jb.Ls) : (jvs J).length = J.length * 2 := by simp [jvs]
theorem jvs_good (J : Jb.Ls) : Jb.Good (jvs J) J J.length := by
  intro i hi
  have h1 : i * 2 < J.length * 2 := by omega
  have h2 : i * 2 + 1 < J.length * 2 := by omega
  have e1 : i * 2 % 2 = 0 := by omega
  have e2 : i * 2 / 2 = i := by omega
  have e3 : (i * 2 + 1) % 2 = 1 := by omega
  have e4 : (i * 2 + 1) / 2 = i := by omega
  constructor
  · simp [jvs, h1]
  · simp [jvs, h2, e3, e4]
theorem jvs_one (J : Jb.Ls) : ∀ u ∈ jvs J, u.oneCell' = true := by
  intro u hu
  simp [jvs] at hu
  obtain ⟨p, _, rfl⟩ := hu
  rfl
theorem jvs_at {w : World} {g o : Nat} {J : Jb.Ls} (K : ∀ i, i < J.length → Jb.Cs w g o J i) : ∀ j u, (jvs J)[j]? = some u → w.cell? ((⟨g, o, none⟩ : Addr).add j) = some u := by
  intro j u hj
  have hl : j < J.length * 2 := by
    have := (List.getElem?_eq_some_iff.1 hj).1
    rw [jvs_len] at this
    exact this
  obtain ⟨k0, k1⟩ := K (j / 2) (by omega)
  rw [Cp.add_eq]
  simp [jvs, hl] at hj
  by_cases e : j % 2 = 0
  · rw [if_pos e] at hj
    have : o + j / 2 * 2 = o + j := by omega
    rw [this] at k0
    rw [k0, hj]
  · rw [if_neg e] at hj
    have : o + j / 2 * 2 + 1 = o + j := by omega
    rw [this] at k1
    rw [k1, hj]

set_option maxHeartbeats 1000000 in
theorem cloneJ_any (w00 w : World) (hb0 : Below w00.heap.size w00 w) (v : Value) (J : Jb.Ls) (h : Jb.Reads w00 v J) (h0 : 0 < J.length) (hl : J.length ≤ 1048576) :
    Calls Try.prog 44 #[v] w fun e w' => ∃ g c, e = .returned (.slice (some ⟨g, 0, none⟩) J.length c) ∧ Jb.Row w' w.heap.size (.slice (some ⟨g, 0, none⟩) J.length c) J ∧ Below w.heap.size w w' := by
  rcases h with ⟨e, _⟩ | ⟨g, o, cap, rfl, h1, h2, hg0, K0⟩
  · rw [e] at h0; exact absurd h0 (by simp)
  · obtain ⟨i0, hi, hz0, hz1, hz2⟩ := info_parts Try.info34
    have hg : g < w.heap.size := Nat.lt_of_lt_of_le hg0 hb0.size
    have K : ∀ i, i < J.length → Jb.Cs (w.alloc (.cells #[] 34)) g o J i := fun i hi => ((K0 i hi).below hb0 hg0).below ((Below.refl _ w).alloc (Nat.le_refl _) _) hg
    have HK : Hid (∀ j u, (jvs J)[j]? = some u → (w.alloc (.cells #[] 34)).cell? ((⟨g, o, none⟩ : Addr).add j) = some u) := jvs_at K
    have H1 : Hid (∀ u ∈ jvs J, u.oneCell' = true) := jvs_one J
    have HL : Hid ((jvs J).length = J.length * 2) := jvs_len J
    have HG : Hid (Jb.Good (jvs J) J J.length) := jvs_good J
    obtain ⟨n, hn⟩ : ∃ n, n = J.length := ⟨_, rfl⟩
    have HX : Hid (J.length = n) := hn.symm
    rw [← hn] at hl h0 HL HG ⊢
    have ER : Hid ((w.alloc (.cells #[] 34)).ownsRow w.heap.size 34 2 (.slice (some ⟨w.heap.size, 0, none⟩) 0 0) 0 []) := Cp.empty_row 34 2
    have hnil : ∀ w, (binOp .eql 28 (.slice (some ⟨g, o, none⟩) n cap) (.slice none 0 0)).run Try.prog w = .ok (.bool false) w := fun _ => by kernel_rfl
    generalize jvs J = xs at *
    clear K K0 hn h1 hb0 hg0
    go_enter Try.func44, Try.ntmps44
    go_wp2_with (at_builtin; refine wpList_append_own_at _ rfl _ _ 28 rfl w.heap.size 34 i0 (.agg #[.int .i64 0, .int .i64 0]) 2 16 Try.underlying28 hi hz0 hz1 hz2 rfl (by decide) _ _ _ rfl ER.out ⟨g, o, none⟩ n cap xs rfl (by rw [HL.out]) HK.out H1.out ?c3 ?c4 ?c5 ?_)
    case c3 => unfold maxLen; omega
    case c4 => omega
    case c5 => simp
    intro v' w2 hown hgrow hnil hat
    have hn2 : v' ≠ .slice none 0 0 := hnil
    obtain ⟨g', c', rfl, q1, q2, q3, q4⟩ := Cp.row_some hown hn2
    have O : Hid (Jb.Row w2 w.heap.size (.slice (some ⟨g', 0, none⟩) n c') J) := (by
      refine ⟨xs, ?_, by rw [HX.out]; exact HG.out⟩
      rw [HX.out]
      simpa using hown)
    have BB : Hid (Below w.heap.size w w2) := ((Below.refl _ _).alloc (Nat.le_refl _) _).grown hgrow (by simp) (fun k hk => by simp [Value.ownBlock] at hk; omega)
    clear hown hgrow hnil hat hn2 q1 q2 q3 q4
    go_wp2_with fail
    go_ret
    exact ⟨_, _, rfl, O.out, BB.out⟩

/-- job i changed -/
def js (J : Jb.Ls) (i : Nat) (s t : Int) : Jb.Ls := J.set i (s, t)
theorem js_len (J : Jb.Ls) (i : Nat) (s t : Int) : (js J i s t).length = J.length := by simp [js]
theorem js_hit {J : Jb.Ls} {i : Nat} {s t : Int} (h : i < J.length) : Jb.c0 (js J i s t) i = s ∧ Jb.c1 (js J i s t) i = t := by
  unfold js Jb.c0 Jb.c1
  simp [List.getD, h]
theorem js_off {J : Jb.Ls} {i k : Nat} {s t : Int} (h : k ≠ i) : Jb.c0 (js J i s t) k = Jb.c0 J k ∧ Jb.c1 (js J i s t) k = Jb.c1 J k := by
  unfold js Jb.c0 Jb.c1
  simp [List.getD, Ne.symm h]
theorem jrow_set0 {w : World} {base g c : Nat} {J : Jb.Ls} {i : Nat} (h : Jb.Row w base (.slice (some ⟨g, 0, none⟩) J.length c) J) (hi : i < J.length) (s : Int) :
    Jb.Row (w.setCell ⟨g, i * 2, none⟩ (.int .i64 s)) base (.slice (some ⟨g, 0, none⟩) J.length c) (js J i s (Jb.c1 J i)) := by
  obtain ⟨xs, hx, hg⟩ := h
  have hl : xs.length = J.length * 2 := hx.1
  refine ⟨xs.set (i * 2) (.int .i64 s), ?_, ?_⟩
  · rw [js_len]; exact (hx.stored (i * 2) _).1
  · rw [js_len]
    intro k hk
    obtain ⟨g0, g1⟩ := hg k hk
    by_cases e : k = i
    · subst e
      obtain ⟨a0, a1⟩ := js_hit (s := s) (t := Jb.c1 J k) hi
      rw [a0, a1]
      have hlt : k * 2 < xs.length := by omega
      have hne : k * 2 ≠ k * 2 + 1 := by omega
      exact ⟨by simp [hlt], by rw [List.getElem?_set_ne hne]; exact g1⟩
    · obtain ⟨a0, a1⟩ := js_off (J := J) (s := s) (t := Jb.c1 J i) e
      rw [a0, a1]
      exact ⟨by rw [List.getElem?_set_ne (by omega)]; exact g0, by rw [List.getElem?_set_ne (by omega)]; exact g1⟩
theorem jrow_set1 {w : World} {base g c : Nat} {J : Jb.Ls} {i : Nat} (h : Jb.Row w base (.slice (some ⟨g, 0, none⟩) J.length c) J) (hi : i < J.length) (t : Int) :
    Jb.Row (w.setCell ⟨g, i * 2 + 1, none⟩ (.int .i64 t)) base (.slice (some ⟨g, 0, none⟩) J.length c) (js J i (Jb.c0 J i) t) := by
  obtain ⟨xs, hx, hg⟩ := h
  have hl : xs.length = J.length * 2 := hx.1
  refine ⟨xs.set (i * 2 + 1) (.int .i64 t), ?_, ?_⟩
  · rw [js_len]; exact (hx.stored (i * 2 + 1) _).1
  · rw [js_len]
    intro k hk
    obtain ⟨g0, g1⟩ := hg k hk
    by_cases e : k = i
    · subst e
      obtain ⟨a0, a1⟩ := js_hit (s := Jb.c0 J k) (t := t) hi
      rw [a0, a1]
      have hlt : k * 2 + 1 < xs.length := by omega
      exact ⟨by rw [List.getElem?_set_ne (by omega)]; exact g0, by simp [hlt]⟩
    · obtain ⟨a0, a1⟩ := js_off (J := J) (s := Jb.c0 J i) (t := t) e
      rw [a0, a1]
      exact ⟨by rw [List.getElem?_set_ne (by omega)]; exact g0, by rw [List.getElem?_set_ne (by omega)]; exact g1⟩
theorem jrow_cell {w : World} {base g c : Nat} {J : Jb.Ls} (h : Jb.Row w base (.slice (some ⟨g, 0, none⟩) J.length c) J) (i : Nat) (hi : i < J.length) : w.cell? ⟨g, i * 2, none⟩ = some (.int .i64 (Jb.c0 J i)) ∧ w.cell? ⟨g, i * 2 + 1, none⟩ = some (.int .i64 (Jb.c1 J i)) := by
  obtain ⟨xs, hx, hg⟩ := h
  obtain ⟨g0, g1⟩ := hg i hi
  exact ⟨(hx.cellAt _ (by omega)).trans g0, (hx.cellAt _ (by omega)).trans g1⟩
theorem jrow_fz {w : World} {base g c : Nat} {J : Jb.Ls} (h : Jb.Row w base (.slice (some ⟨g, 0, none⟩) J.length c) J) (j : Nat) : w.frozen? ⟨g, j, none⟩ = false := by
  obtain ⟨xs, hx, _⟩ := h
  exact hx.frozenAt j
theorem jrow_ty {w : World} {base g c : Nat} {J : Jb.Ls} (h : Jb.Row w base (.slice (some ⟨g, 0, none⟩) J.length c) J) : Ty w g 34 := by
  obtain ⟨xs, hx, _⟩ := h
  exact row_ty hx g rfl
/-- the run with job i changed in its place -/
theorem ro_jobs {w w' : World} {base g c : Nat} {r x : Value} {xs : List Value} {R : Tk.Ls} {X : List Int} {J J' : Jb.Ls} (h : RO w base r x (.slice (some ⟨g, 0, none⟩) J.length c) xs R X J) (hb : KB (fun b => b = g) w w')
    (hj : Jb.Row w' base (.slice (some ⟨g, 0, none⟩) J.length c) J') : RO w' base r x (.slice (some ⟨g, 0, none⟩) J.length c) xs R X J' := by
  refine ⟨h.1.kb hb (fun b hb2 hx => ?_), hj⟩
  have hx' : b = g := hx
  have t57 := jrow_ty h.2
  rcases hb2 with (hg | ⟨i, hi, hg⟩) | hg
  · exact (row_ty h.1.1.1 b hg).ne t57 (by decide) hx'
  · obtain ⟨_, _, _, u, hu, hr⟩ := h.1.1.2.1 i hi
    refine (row_ty hr b ?_).ne t57 (by decide) hx'
    unfold bk at hg
    rw [hu] at hg
    exact hg
  · exact (row_ty h.1.2.1 b hg).ne t57 (by decide) hx'
end Go.Proofs.Ytfhpomfdkpfooaa.Ty
