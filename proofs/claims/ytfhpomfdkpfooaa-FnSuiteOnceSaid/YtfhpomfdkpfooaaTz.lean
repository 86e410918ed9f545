/- Tc, Tg, Gg, Tn, To -/
import Derived.Test.YtfhpomfdkpfooaaTy
import Derived.Maps.AppendAt
import Derived.Test.YtfhpomfdkpfooaaRj
import Derived.Deep.RegionHeldLaw
import Derived.Deep.AppendLies
import Derived.Deep.Onto
/- Jobs cloned; jobs changed in their place. -/
namespace Go.Proofs.Ytfhpomfdkpfooaa.Ty
open Go.ChangeShapes Go.WideShapes Go.ChangeAt Go.RowKit
open Go.Proofs.Ytfhpomfdkpfooaa.Lists Go.Proofs.Ytfhpomfdkpfooaa.Tm Go.Proofs.Ytfhpomfdkpfooaa.Rk Go.Proofs.Ytfhpomfdkpfooaa.Ru

theorem Try.info34 : (Try.prog.info? 34).map (fun i => (i.zero, i.size, i.bytes)) = some (some (.agg #[.int .i64 0, .int .i64 0]), 2, 16) := by kernel_rfl
/-- the cells of jobs -/
def jvs (J : Jb.Ls) : List Value := (List.range (J.length * 2)).map fun p => .int .i64 (if p % 2 = 0 then Jb.c0 J (p / 2) else Jb.c1 J (p / 2))
theorem jvs_len (J : Jb.Ls) : (jvs J).length = J.length * 2 := by simp [jvs]
theorem jvs_good (J : Jb.Ls) : Jb.Good (jvs J) J J.length := by
  intro i hi
  have h1 : i * 2 < J.length * 2 := by omega
  have h2 : i * 2 + 1 < J.length * 2 := by omega
  have e1 : i * 2 % 2 = 0 := by omega
  have e2 : i * 2 / 2 = i := by omega
  have e3 : (i * 2 + 1) % 2 = 1 := by omega
  have e4 : (i * 2 + 1) / 2 = i := by omega
  constructor
  · simp [jvs, h1]
  · simp [jvs, h2, e3, e4]
theorem jvs_one (J : Jb.Ls) : ∀ u ∈ jvs J, u.oneCell' = true := by
  intro u hu
  simp [jvs] at hu
  obtain ⟨p, _, rfl⟩ := hu
  rfl
theorem jvs_at {w : World} {g o : Nat} {J : Jb.Ls} (K : ∀ i, i < J.length → Jb.Cs w g o J i) : ∀ j u, (jvs J)[j]? = some u → w.cell? ((⟨g, o, none⟩ : Addr).add j) = some u := by
  intro j u hj
  have hl : j < J.length * 2 := by
    have := (List.getElem?_eq_some_iff.1 hj).1
    rw [jvs_len] at this
    exact this
  obtain ⟨k0, k1⟩ := K (j / 2) (by omega)
  rw [Cp.add_eq]
  simp [jvs, hl] at hj
  by_cases e : j % 2 = 0
  · rw [if_pos e] at hj
    have : o + j / 2 * 2 = o + j := by omega
    rw [this] at k0
    rw [k0, hj]
  · rw [if_neg e] at hj
    have : o + j / 2 * 2 + 1 = o + j := by omega
    rw [this] at k1
    rw [k1, hj]

set_option maxHeartbeats 1000000 in
theorem cloneJ_any (w00 w : World) (hb0 : Below w00.heap.size w00 w) (v : Value) (J : Jb.Ls) (h : Jb.Reads w00 v J) (h0 : 0 < J.length) (hl : J.length ≤ 1048576) :
    Calls Try.prog 44 #[v] w fun e w' => ∃ g c, e = .returned (.slice (some ⟨g, 0, none⟩) J.length c) ∧ Jb.Row w' w.heap.size (.slice (some ⟨g, 0, none⟩) J.length c) J ∧ Below w.heap.size w w' := by
  rcases h with ⟨e, _⟩ | ⟨g, o, cap, rfl, h1, h2, hg0, K0⟩
  · rw [e] at h0; exact absurd h0 (by simp)
  · obtain ⟨i0, hi, hz0, hz1, hz2⟩ := info_parts Try.info34
    have hg : g < w.heap.size := Nat.lt_of_lt_of_le hg0 hb0.size
    have K : ∀ i, i < J.length → Jb.Cs (w.alloc (.cells #[] 34)) g o J i := fun i hi => ((K0 i hi).below hb0 hg0).below ((Below.refl _ w).alloc (Nat.le_refl _) _) hg
    have HK : Hid (∀ j u, (jvs J)[j]? = some u → (w.alloc (.cells #[] 34)).cell? ((⟨g, o, none⟩ : Addr).add j) = some u) := jvs_at K
    have H1 : Hid (∀ u ∈ jvs J, u.oneCell' = true) := jvs_one J
    have HL : Hid ((jvs J).length = J.length * 2) := jvs_len J
    have HG : Hid (Jb.Good (jvs J) J J.length) := jvs_good J
    obtain ⟨n, hn⟩ : ∃ n, n = J.length := ⟨_, rfl⟩
    have HX : Hid (J.length = n) := hn.symm
    rw [← hn] at hl h0 HL HG ⊢
    have ER : Hid ((w.alloc (.cells #[] 34)).ownsRow w.heap.size 34 2 (.slice (some ⟨w.heap.size, 0, none⟩) 0 0) 0 []) := Cp.empty_row 34 2
    have hnil : ∀ w, (binOp .eql 28 (.slice (some ⟨g, o, none⟩) n cap) (.slice none 0 0)).run Try.prog w = .ok (.bool false) w := fun _ => by kernel_rfl
    generalize jvs J = xs at *
    clear K K0 hn h1 hb0 hg0
    go_enter Try.func44, Try.ntmps44
    go_wp2_with (at_builtin; refine wpList_append_own_at _ rfl _ _ 28 rfl w.heap.size 34 i0 (.agg #[.int .i64 0, .int .i64 0]) 2 16 Try.underlying28 hi hz0 hz1 hz2 rfl (by decide) _ _ _ rfl ER.out ⟨g, o, none⟩ n cap xs rfl (by rw [HL.out]) HK.out H1.out ?c3 ?c4 ?c5 ?_)
    case c3 => unfold maxLen; omega
    case c4 => omega
    case c5 => simp
    intro v' w2 hown hgrow hnil hat
    have hn2 : v' ≠ .slice none 0 0 := hnil
    obtain ⟨g', c', rfl, q1, q2, q3, q4⟩ := Cp.row_some hown hn2
    have O : Hid (Jb.Row w2 w.heap.size (.slice (some ⟨g', 0, none⟩) n c') J) := (by
      refine ⟨xs, ?_, by rw [HX.out]; exact HG.out⟩
      rw [HX.out]
      simpa using hown)
    have BB : Hid (Below w.heap.size w w2) := ((Below.refl _ _).alloc (Nat.le_refl _) _).grown hgrow (by simp) (fun k hk => by simp [Value.ownBlock] at hk; omega)
    clear hown hgrow hnil hat hn2 q1 q2 q3 q4
    go_wp2_with fail
    go_ret
    exact ⟨_, _, rfl, O.out, BB.out⟩

/-- job i changed -/
def js (J : Jb.Ls) (i : Nat) (s t : Int) : Jb.Ls := J.set i (s, t)
theorem js_len (J : Jb.Ls) (i : Nat) (s t : Int) : (js J i s t).length = J.length := by simp [js]
theorem js_hit {J : Jb.Ls} {i : Nat} {s t : Int} (h : i < J.length) : Jb.c0 (js J i s t) i = s ∧ Jb.c1 (js J i s t) i = t := by
  unfold js Jb.c0 Jb.c1
  simp [List.getD, h]
theorem js_off {J : Jb.Ls} {i k : Nat} {s t : Int} (h : k ≠ i) : Jb.c0 (js J i s t) k = Jb.c0 J k ∧ Jb.c1 (js J i s t) k = Jb.c1 J k := by
  unfold js Jb.c0 Jb.c1
  simp [List.getD, Ne.symm h]
theorem jrow_set0 {w : World} {base g c : Nat} {J : Jb.Ls} {i : Nat} (h : Jb.Row w base (.slice (some ⟨g, 0, none⟩) J.length c) J) (hi : i < J.length) (s : Int) :
    Jb.Row (w.setCell ⟨g, i * 2, none⟩ (.int .i64 s)) base (.slice (some ⟨g, 0, none⟩) J.length c) (js J i s (Jb.c1 J i)) := by
  obtain ⟨xs, hx, hg⟩ := h
  have hl : xs.length = J.length * 2 := hx.1
  refine ⟨xs.set (i * 2) (.int .i64 s), ?_, ?_⟩
  · rw [js_len]; exact (hx.stored (i * 2) _).1
  · rw [js_len]
    intro k hk
    obtain ⟨g0, g1⟩ := hg k hk
    by_cases e : k = i
    · subst e
      obtain ⟨a0, a1⟩ := js_hit (s := s) (t := Jb.c1 J k) hi
      rw [a0, a1]
      have hlt : k * 2 < xs.length := by omega
      have hne : k * 2 ≠ k * 2 + 1 := by omega
      exact ⟨by simp [hlt], by rw [List.getElem?_set_ne hne]; exact g1⟩
    · obtain ⟨a0, a1⟩ := js_off (J := J) (s := s) (t := Jb.c1 J i) e
      rw [a0, a1]
      exact ⟨by rw [List.getElem?_set_ne (by omega)]; exact g0, by rw [List.getElem?_set_ne (by omega)]; exact g1⟩
theorem jrow_set1 {w : World} {base g c : Nat} {J : Jb.Ls} {i : Nat} (h : Jb.Row w base (.slice (some ⟨g, 0, none⟩) J.length c) J) (hi : i < J.length) (t : Int) :
    Jb.Row (w.setCell ⟨g, i * 2 + 1, none⟩ (.int .i64 t)) base (.slice (some ⟨g, 0, none⟩) J.length c) (js J i (Jb.c0 J i) t) := by
  obtain ⟨xs, hx, hg⟩ := h
  have hl : xs.length = J.length * 2 := hx.1
  refine ⟨xs.set (i * 2 + 1) (.int .i64 t), ?_, ?_⟩
  · rw [js_len]; exact (hx.stored (i * 2 + 1) _).1
  · rw [js_len]
    intro k hk
    obtain ⟨g0, g1⟩ := hg k hk
    by_cases e : k = i
    · subst e
      obtain ⟨a0, a1⟩ := js_hit (s := Jb.c0 J k) (t := t) hi
      rw [a0, a1]
      have hlt : k * 2 + 1 < xs.length := by omega
      exact ⟨by rw [List.getElem?_set_ne (by omega)]; exact g0, by simp [hlt]⟩
    · obtain ⟨a0, a1⟩ := js_off (J := J) (s := Jb.c0 J i) (t := t) e
      rw [a0, a1]
      exact ⟨by rw [List.getElem?_set_ne (by omega)]; exact g0, by rw [List.getElem?_set_ne (by omega)]; exact g1⟩
theorem jrow_cell {w : World} {base g c : Nat} {J : Jb.Ls} (h : Jb.Row w base (.slice (some ⟨g, 0, none⟩) J.length c) J) (i : Nat) (hi : i < J.length) : w.cell? ⟨g, i * 2, none⟩ = some (.int .i64 (Jb.c0 J i)) ∧ w.cell? ⟨g, i * 2 + 1, none⟩ = some (.int .i64 (Jb.c1 J i)) := by
  obtain ⟨xs, hx, hg⟩ := h
  obtain ⟨g0, g1⟩ := hg i hi
  exact ⟨(hx.cellAt _ (by omega)).trans g0, (hx.cellAt _ (by omega)).trans g1⟩
theorem jrow_fz {w : World} {base g c : Nat} {J : Jb.Ls} (h : Jb.Row w base (.slice (some ⟨g, 0, none⟩) J.length c) J) (j : Nat) : w.frozen? ⟨g, j, none⟩ = false := by
  obtain ⟨xs, hx, _⟩ := h
  exact hx.frozenAt j
theorem jrow_ty {w : World} {base g c : Nat} {J : Jb.Ls} (h : Jb.Row w base (.slice (some ⟨g, 0, none⟩) J.length c) J) : Ty w g 34 := by
  obtain ⟨xs, hx, _⟩ := h
  exact row_ty hx g rfl
/-- the run with job i changed in its place -/
theorem ro_jobs {w w' : World} {base g c : Nat} {r x : Value} {xs : List Value} {R : Tk.Ls} {X : List Int} {J J' : Jb.Ls} (h : RO w base r x (.slice (some ⟨g, 0, none⟩) J.length c) xs R X J) (hb : KB (fun b => b = g) w w')
    (hj : Jb.Row w' base (.slice (some ⟨g, 0, none⟩) J.length c) J') : RO w' base r x (.slice (some ⟨g, 0, none⟩) J.length c) xs R X J' := by
  refine ⟨h.1.kb hb (fun b hb2 hx => ?_), hj⟩
  have hx' : b = g := hx
  have t57 := jrow_ty h.2
  rcases hb2 with (hg | ⟨i, hi, hg⟩) | hg
  · exact (row_ty h.1.1.1 b hg).ne t57 (by decide) hx'
  · obtain ⟨_, _, _, u, hu, hr⟩ := h.1.1.2.1 i hi
    refine (row_ty hr b ?_).ne t57 (by decide) hx'
    unfold bk at hg
    rw [hu] at hg
    exact hg
  · exact (row_ty h.1.2.1 b hg).ne t57 (by decide) hx'
end Go.Proofs.Ytfhpomfdkpfooaa.Ty

/- Tied tasks: ready, behind a stuck one, ended; the groups made. -/
namespace Go.Proofs.Ytfhpomfdkpfooaa.Ty
open Go.ChangeShapes Go.WideShapes Go.ChangeAt Go.RowKit
open Go.Proofs.Ytfhpomfdkpfooaa.Lists Go.Proofs.Ytfhpomfdkpfooaa.Tm Go.Proofs.Ytfhpomfdkpfooaa.Rk Go.Proofs.Ytfhpomfdkpfooaa.Ru

/-- what task i comes behind, as it lies -/
theorem aft_at {w : World} {B : Nat} {R : Tk.Ls} {X : List Int} {h jb : Nat} {u a : Nat → Value} {P : Nat → Nat} {run : Int → Int} {st : Nat → Bool} {k : Nat} (t : Td w B R X h jb u a P run st k) (i : Nat) (hi : i < k) :
    ((Tk.cl R i).length = 0 ∧ a i = .slice none 0 0) ∨ ∃ g cap, a i = .slice (some ⟨g, 0, none⟩) (Tk.cl R i).length cap ∧ ∀ m, m < (Tk.cl R i).length → w.cell? ⟨g, m, none⟩ = some (.pointer (some ⟨P ((Tk.cl R i).getD m 0 - 1).toNat, 0, none⟩)) := by
  rcases Tk.row_cases (t.aft i hi) with ⟨h1, h2⟩ | ⟨g, cap, h1, _⟩
  · exact Or.inl ⟨h1, h2⟩
  · refine Or.inr ⟨g, cap, h1, fun m hm => ?_⟩
    have r := t.aft i hi
    rw [h1] at r
    rw [r.cellAt m (by omega)]
    simp [ptrs, List.getD, hm]

theorem ready_td {w : World} {B : Nat} {R : Tk.Ls} {X : List Int} {h jb : Nat} {u a : Nat → Value} {P : Nat → Nat} {run : Int → Int} {st : Nat → Bool} {k : Nat} (t : Td w B R X h jb u a P run st k) (J : Jb.Ls)
    (hj : ∀ i, i < k → w.cell? ⟨jb, i * 2, none⟩ = some (.int .i64 (hw J i))) (i : Nat) (hi : i < k) (h60 : (Tk.cl R i).length ≤ 60) (ha : ∀ m, m < (Tk.cl R i).length → 1 ≤ (Tk.cl R i).getD m 0 ∧ (Tk.cl R i).getD m 0 ≤ (i : Int)) :
    Calls Try.prog 37 #[.pointer (some ⟨P i, 0, none⟩)] w fun e w' => e = .returned (.bool (fr R J i)) ∧ w' = w := by
  have c6 : w.cell? ⟨P i, 6, none⟩ = some (a i) := ((t.tsk i hi).cell 6).trans rfl
  rcases aft_at t i hi with ⟨h1, h2⟩ | ⟨g, cap, h1, h2⟩
  · have e : fr R J i = true := by unfold fr; rw [h1]; rfl
    rw [e]
    rw [h2] at c6
    clear t hj ha h1 h2 e
    go_enter Try.func37, Try.ntmps37
    go_wp2_with fail
    go_loop [10] (fun i => i = .int .i64 0) (fun _ => 0)
    case atStart => rfl
    case round =>
      subst hrel
      go_wp2_with fail
      go_ret
      exact ⟨rfl, rfl⟩
  · refine Gr.ready_any w (P i) 0 (Tk.cl R i).length (fun m => hw J ((Tk.cl R i).getD m 0 - 1).toNat) ⟨g, 0, cap, by omega, ?_, fun m hm => ?_⟩ (fr R J i) ?_
    · rw [h1] at c6; exact c6
    · have hz := ha m hm
      have hlt : ((Tk.cl R i).getD m 0 - 1).toNat < k := by omega
      refine ⟨P ((Tk.cl R i).getD m 0 - 1).toNat, 0, jb, ((Tk.cl R i).getD m 0 - 1).toNat * 2, by rw [Nat.zero_add]; exact h2 m hm, ?_, hj _ hlt⟩
      exact ((t.tsk _ hlt).cell 5).trans rfl
    · unfold fr
      rw [List.all_eq_true]
      constructor
      · intro q m hm
        have := q m (by simpa using hm)
        unfold dn at this
        simpa using this
      · intro q m hm
        have := q m (by simpa using hm)
        unfold dn
        simpa using this

/-- Is one of those that task i comes behind stuck? -/
def bst (R : Tk.Ls) (st : Nat → Bool) (i : Nat) : Bool := (List.range (Tk.cl R i).length).any fun m => st ((Tk.cl R i).getD m 0 - 1).toNat
set_option maxHeartbeats 1000000 in
theorem behind_td {w : World} {B : Nat} {R : Tk.Ls} {X : List Int} {h jb : Nat} {u a : Nat → Value} {P : Nat → Nat} {run : Int → Int} {st : Nat → Bool} {k : Nat} (t : Td w B R X h jb u a P run st k)
    (i : Nat) (hi : i < k) (h60 : (Tk.cl R i).length ≤ 60) (ha : ∀ m, m < (Tk.cl R i).length → 1 ≤ (Tk.cl R i).getD m 0 ∧ (Tk.cl R i).getD m 0 ≤ (i : Int)) :
    Calls Try.prog 39 #[.pointer (some ⟨P i, 0, none⟩)] w fun e w' => e = .returned (.bool (bst R st i)) ∧ w' = w := by
  have c6 : w.cell? ⟨P i, 6, none⟩ = some (a i) := ((t.tsk i hi).cell 6).trans rfl
  rcases aft_at t i hi with ⟨h1, h2⟩ | ⟨g, cap, h1, h2⟩
  · have e : bst R st i = false := by unfold bst; rw [h1]; rfl
    rw [e]
    rw [h2] at c6
    clear t ha h1 h2 e
    go_enter Try.func39, Try.ntmps39
    go_wp2_with fail
    go_loop [10] (fun i => i = .int .i64 0) (fun _ => 0)
    case atStart => rfl
    case round =>
      subst hrel
      go_wp2_with fail
      go_ret
      exact ⟨rfl, rfl⟩
  · rw [h1] at c6
    have H2 : Hid (∀ m, m < (Tk.cl R i).length → ∃ p : Nat, w.cell? ⟨g, m, none⟩ = some (.pointer (some ⟨p, 0, none⟩)) ∧ w.cell? ⟨p, 8, none⟩ = some (.bool (st ((Tk.cl R i).getD m 0 - 1).toNat))) := fun m hm => by
      have hz := ha m hm
      exact ⟨_, h2 m hm, ((t.tsk _ (by omega)).cell 8).trans rfl⟩
    have HB : Hid (bst R st i = true ↔ ∃ m, m < (Tk.cl R i).length ∧ st ((Tk.cl R i).getD m 0 - 1).toNat = true) := by
      show _ ↔ _
      unfold bst
      rw [List.any_eq_true]
      simp
    generalize bst R st i = bo at *
    obtain ⟨f, hf⟩ : ∃ f : Nat → Bool, f = fun m => st ((Tk.cl R i).getD m 0 - 1).toNat := ⟨_, rfl⟩
    have H3 : Hid (∀ m, m < (Tk.cl R i).length → ∃ p : Nat, w.cell? ⟨g, m, none⟩ = some (.pointer (some ⟨p, 0, none⟩)) ∧ w.cell? ⟨p, 8, none⟩ = some (.bool (f m))) := by rw [hf]; exact H2.out
    have HC : Hid (bo = true ↔ ∃ m, m < (Tk.cl R i).length ∧ f m = true) := by rw [hf]; exact HB.out
    generalize (Tk.cl R i).length = n at *
    clear H2 HB hf h1 h2 ha t
    go_enter Try.func39, Try.ntmps39
    go_wp2_with fail
    go_loopw [10, 4] (fun i _ wr => ∃ j : Nat, j ≤ n ∧ i = .int .i64 j ∧ wr = w ∧ Hid (∀ m, m < j → f m = false)) (fun i _ _ => n - (intOf i).toNat)
    case atStart => exact ⟨0, Nat.zero_le _, rfl, rfl, fun m hm => absurd hm (by omega)⟩
    case round =>
      obtain ⟨j, hj, rfl, rfl, OK⟩ := hrel
      by_cases hlt : j < n
      · have i1 : (0 : Int) ≤ (j : Int) := by omega
        have i2 : (j : Int) < (n : Int) := by omega
        obtain ⟨p, q1, q2⟩ := H3.out j hlt
        cases hs : f j
        · rw [hs] at q2
          have OK2 : Hid (∀ m, m < j + 1 → f m = false) := fun m hm => (by
            by_cases e : m = j
            · rw [e]; exact hs
            · exact OK.out m (by omega))
          clear OK hs
          go_wp2_with fail
          go_roundw
          case rel => exact ⟨j + 1, by omega, by go_num, trivial, OK2⟩
          case measure => simp [intOf]; omega
        · rw [hs] at q2
          have HF : Hid (bo = true) := HC.out.2 ⟨j, hlt, hs⟩
          clear hs
          go_wp2_with fail
          go_ret
          exact ⟨by rw [HF.out]; rfl, rfl⟩
      · have HT : Hid (bo = false) := (by
          show bo = false
          cases hbo : bo
          · rfl
          · obtain ⟨m, hm, hm2⟩ := HC.out.1 hbo
            have := OK.out m (by omega)
            rw [hm2] at this
            cases this)
        have i2 : ¬ (j : Int) < (n : Int) := by omega
        go_wp2_with fail
        go_ret
        exact ⟨by rw [HT.out]; rfl, rfl⟩

/-- how a task ends -/
def ez (ok : Bool) (t m : Int) : Int := if ok = true then 2 else if t = m then 3 else 0
set_option maxHeartbeats 1000000 in
theorem end_any (w : World) (p jb jo : Nat) (ok : Bool) (s t m : Int) (h4 : w.cell? ⟨p, 4, none⟩ = some (.int .i64 m)) (h5 : w.cell? ⟨p, 5, none⟩ = some (.pointer (some ⟨jb, jo, none⟩))) (j0 : w.cell? ⟨jb, jo, none⟩ = some (.int .i64 s)) (j1 : w.cell? ⟨jb, jo + 1, none⟩ = some (.int .i64 t)) (jf : w.frozen? ⟨jb, jo, none⟩ = false) :
    Calls Try.prog 30 #[.pointer (some ⟨p, 0, none⟩), .bool ok] w fun e w' => e = .returned (.tuple #[]) ∧ ∃ n, w' = (w.drewN n).setCell ⟨jb, jo, none⟩ (.int .i64 (ez ok t m)) := by
  cases ok
  · by_cases hm : t = m
    · have e : ez false t m = 3 := by unfold ez; rw [if_neg (by decide), if_pos hm]
      rw [e]
      subst hm
      clear e
      go_enter Try.func30, Try.ntmps30
      go_wp2_with fail
      go_quiet (fail)
      go_wp2_with fail
      go_end0
      exact ⟨rfl, _, rfl⟩
    · have e : ez false t m = 0 := by unfold ez; rw [if_neg (by decide), if_neg hm]
      rw [e]
      have hm2 : (t == m) = false := by simpa using hm
      clear e
      go_enter Try.func30, Try.ntmps30
      go_wp2_with fail
      go_quiet (fail)
      go_wp2_with fail
      go_end0
      exact ⟨rfl, _, rfl⟩
  · have e : ez true t m = 2 := rfl
    rw [e]
    clear e
    go_enter Try.func30, Try.ntmps30
    go_wp2_with fail
    go_end0
    exact ⟨rfl, 0, rfl⟩
end Go.Proofs.Ytfhpomfdkpfooaa.Ty

/- The groups made. -/
namespace Go.Proofs.Ytfhpomfdkpfooaa.Ty
open Go.ChangeShapes Go.WideShapes Go.ChangeAt Go.RowKit
open Go.Proofs.Ytfhpomfdkpfooaa.Lists Go.Proofs.Ytfhpomfdkpfooaa.Tm Go.Proofs.Ytfhpomfdkpfooaa.Rk Go.Proofs.Ytfhpomfdkpfooaa.Ru

theorem Try.info63 : (Try.prog.info? 63).map (fun i => (i.zero, i.size, i.bytes)) = some (some (.pointer none), 1, 8) := by kernel_rfl
def gmid (h n k : Nat) : List Value := (List.range n).map fun g => if g < k then .pointer (some ⟨h + 1 + g, 0, none⟩) else .pointer none
def gptrs (h n : Nat) : List Value := (List.range n).map fun g => .pointer (some ⟨h + 1 + g, 0, none⟩)
theorem gmid_zero (h n : Nat) : (madeCells (Value.pointer none).cells (n * 1)).toList = gmid h n 0 := by
  apply List.ext_getElem
  · simp [madeCells, gmid]
  · intro i h1 h2
    simp [madeCells, gmid, Value.cells, Nat.mod_one]
theorem gmid_all (h n : Nat) : gmid h n n = gptrs h n := by
  unfold gmid gptrs
  exact List.map_congr_left (fun g hg => by rw [if_pos (by simpa using hg)])
theorem gmid_set (h n k : Nat) : (gmid h n k).set k (.pointer (some ⟨h + 1 + k, 0, none⟩)) = gmid h n (k + 1) := by
  apply List.ext_getElem (by simp [gmid])
  intro i h1 h2
  rw [List.getElem_set]
  by_cases e : k = i
  · subst e; simp [gmid]
  · rw [if_neg e]
    simp only [gmid, List.getElem_map, List.getElem_range]
    by_cases x : i < k
    · rw [if_pos x, if_pos (by omega)]
    · rw [if_neg x, if_neg (by omega)]
theorem gmid_at (h n k : Nat) (hk : k < n) : (gmid h n k)[k]? = some (.pointer none) := by simp [gmid, hk]

set_option maxHeartbeats 2000000 in
theorem groups_any (X : List Int) (vx : Value) (w : World) (hX : Lists.Reads w vx X) (h6 : X.length ≤ 6) :
    Calls Try.prog 45 #[vx] w fun e w' => e = .returned (.slice (some ⟨w.heap.size, 0, none⟩) X.length X.length) ∧ w'.ownsRow w.heap.size 63 1 (.slice (some ⟨w.heap.size, 0, none⟩) X.length X.length) X.length (gptrs w.heap.size X.length) ∧
      (∀ g, g < X.length → Bl w' (w.heap.size + 1 + g) 99 (gcs (X.getD g 0) 0)) ∧ w'.heap.size = w.heap.size + 1 + X.length ∧ Below w.heap.size w w' := by
  obtain ⟨i0, hi, hz0, hz1, hz2⟩ := info_parts Try.info63
  obtain ⟨b, o, hc, hv⟩ : ∃ b o, (∀ w', Below w.heap.size w w' → ∀ i, i < X.length → w'.cell? ⟨b, o + i, none⟩ = some (.int .i64 (X.getD i 0))) ∧ (0 < X.length → b < w.heap.size ∧ ∃ cap, vx = .slice (some ⟨b, o, none⟩) X.length cap) := by
    rcases hX with ⟨rfl, _⟩ | ⟨b, o, cap, h1, h2, h3, h4, h5⟩
    · exact ⟨0, 0, fun _ _ i hi => by simp at hi, fun hi => by simp at hi⟩
    · exact ⟨b, o, fun w' hb i hi => (hb.cell (p := ⟨b, o + i, none⟩) h4).trans (h5 i hi), fun _ => ⟨h4, cap, h1⟩⟩
  obtain ⟨a, cap, rfl⟩ := hX.form
  have HC : Hid (∀ w', Below w.heap.size w w' → ∀ i, i < X.length → w'.cell? ⟨b, o + i, none⟩ = some (.int .i64 (X.getD i 0))) := hc
  have HV : Hid (0 < X.length → b < w.heap.size ∧ a = some ⟨b, o, none⟩) := fun hi => by
    obtain ⟨h1, c, h2⟩ := hv hi
    simp at h2
    exact ⟨h1, h2.1⟩
  have FZ : Hid ((madeCells (Value.pointer none).cells (X.length * 1)).toList = gmid w.heap.size X.length 0) := gmid_zero _ _
  have FA : Hid (gmid w.heap.size X.length X.length = gptrs w.heap.size X.length) := gmid_all _ _
  obtain ⟨n, hn⟩ : ∃ n, X.length = n := ⟨_, rfl⟩
  rw [hn] at HC HV FZ FA h6 ⊢
  clear hc hv hX hn
  obtain ⟨ZC, hZC⟩ : ∃ ZC, ZC = madeCells (Value.pointer none).cells (n * 1) := ⟨_, rfl⟩
  have hmk : ∀ w, (Instr.makeSlice 80 (.int .i64 (n : Int)) (.int .i64 (n : Int))).run Try.prog w = .ok (.slice (some ⟨w.heap.size, 0, none⟩) n n) (w.alloc (.cells ZC 63)) := fun w => by
    have := run_make (P := Try.prog) w 80 63 i0 (.pointer none) Try.underlying80 hi hz0 .i64 .i64 (n : Int) (n : Int) (by omega) (Int.le_refl _) (by rw [hz2]; omega) (by omega)
    rw [hz1] at this
    simp only [Int.toNat_natCast] at this
    rw [hZC]
    exact this
  obtain ⟨w4, hw4⟩ : ∃ y, y = w.alloc (.cells ZC 63) := ⟨_, rfl⟩
  have HW4 : Hid (w4 = w.alloc (.cells ZC 63)) := hw4
  have R0 : Hid (w4.ownsRow w.heap.size 63 1 (.slice (some ⟨w.heap.size, 0, none⟩) n n) n (gmid w.heap.size n 0)) := (by
    show World.ownsRow _ _ _ _ _ _ _
    have hl : ZC.size = n * 1 := by rw [hZC]; simp [madeCells]
    refine ⟨by simp [gmid], Or.inr ⟨w.heap.size, n, ZC, rfl, Nat.le_refl _, by rw [hw4]; exact Bl.new w 63 ZC, Nat.le_refl _, by unfold maxLen; omega, hl, ?_⟩⟩
    rw [← FZ.out, ← hZC]
    exact List.take_of_length_le (by simp [hl]))
  have B0 : Hid (Below w.heap.size w w4) := (by show Below _ _ _; rw [hw4]; exact (Below.refl _ _).alloc (Nat.le_refl _) _)
  have Z0 : Hid (w4.heap.size = w.heap.size + 1 + 0) := (by show _ = _; rw [hw4]; simp)
  clear hZC hw4 FZ
  go_enter Try.func45, Try.ntmps45
  go_upto_region 2 with fail
  rw [← HW4.out]
  clear hmk HW4
  go_wp2_with fail
  go_loopw [11] (fun c wr => ∃ j : Nat, j ≤ n ∧ c = .int .i64 j ∧ Hid (wr.ownsRow w.heap.size 63 1 (.slice (some ⟨w.heap.size, 0, none⟩) n n) n (gmid w.heap.size n j)) ∧ Hid (∀ g, g < j → Bl wr (w.heap.size + 1 + g) 99 (gcs (X.getD g 0) 0)) ∧ Hid (wr.heap.size = w.heap.size + 1 + j) ∧ Hid (Below w.heap.size w wr)) (fun c _ => n - (intOf c).toNat)
  case atStart => exact ⟨0, Nat.zero_le _, rfl, R0, fun g hg => absurd hg (by omega), Z0, B0⟩
  case round =>
    clear R0 B0 Z0
    obtain ⟨j, hj, rfl, RW, GS, ZW, BB⟩ := hrel
    by_cases hlt : j < n
    · obtain ⟨v1, v2⟩ := HV.out (by omega)
      subst v2
      have i0 : (0 : Int) ≤ (j : Int) := by omega
      have i1 : (j : Int) < (n : Int) := by omega
      have q0 := HC.out wr BB.out j hlt
      have GN : Hid (∀ g, g < j + 1 → Bl (wr.alloc (.cells (gcs (X.getD j 0) 0) 99)) (w.heap.size + 1 + g) 99 (gcs (X.getD g 0) 0)) := fun g hg => (by
        by_cases e : g = j
        · subst e
          have := Bl.new wr 99 (gcs (X.getD g 0) 0)
          rw [ZW.out] at this
          exact this
        · exact (GS.out g (by omega)).on ((Below.refl _ _).alloc (Nat.le_refl _) _))
      generalize X.getD j 0 = lim at *
      obtain ⟨W, hW⟩ : ∃ W, W = wr.alloc (.cells (gcs lim 0) 99) := ⟨_, rfl⟩
      have HW : Hid (W = wr.alloc (.cells (gcs lim 0) 99)) := hW
      have RA : Hid (W.ownsRow w.heap.size 63 1 (.slice (some ⟨w.heap.size, 0, none⟩) n n) n (gmid w.heap.size n j)) := (by show World.ownsRow _ _ _ _ _ _ _; rw [hW]; exact RW.out.alloc _)
      have ZA : Hid (W.heap.size = w.heap.size + 1 + (j + 1)) := (by show _ = _; rw [hW]; simp; rw [ZW.out]; omega)
      have BA : Hid (Below w.heap.size w W) := (by show Below _ _ _; rw [hW]; exact BB.out.alloc BB.out.size _)
      have GA : Hid (∀ g, g < j + 1 → Bl W (w.heap.size + 1 + g) 99 (gcs (X.getD g 0) 0)) := (by rw [hW]; exact GN.out)
      have PV : Hid (Value.pointer (some ⟨wr.heap.size, 0, none⟩) = Value.pointer (some ⟨w.heap.size + 1 + j, 0, none⟩)) := (by show _ = _; rw [ZW.out])
      have q1 : W.cell? ⟨w.heap.size, j, none⟩ = some (.pointer none) := (RA.out.cellAt j (by omega)).trans (gmid_at _ _ _ hlt)
      have q2 : W.frozen? ⟨w.heap.size, j, none⟩ = false := RA.out.frozenAt j
      have RB : Hid ((W.setCell ⟨w.heap.size, j, none⟩ (.pointer (some ⟨wr.heap.size, 0, none⟩))).ownsRow w.heap.size 63 1 (.slice (some ⟨w.heap.size, 0, none⟩) n n) n (gmid w.heap.size n (j + 1))) := (by
        show World.ownsRow _ _ _ _ _ _ _
        rw [PV.out, ← gmid_set]
        exact (RA.out.stored j _).1)
      have ZB : Hid ((W.setCell ⟨w.heap.size, j, none⟩ (.pointer (some ⟨wr.heap.size, 0, none⟩))).heap.size = w.heap.size + 1 + (j + 1)) := (by show _ = _; simp; exact ZA.out)
      have BB2 : Hid (Below w.heap.size w (W.setCell ⟨w.heap.size, j, none⟩ (.pointer (some ⟨wr.heap.size, 0, none⟩)))) := BA.out.setCell (p := ⟨w.heap.size, j, none⟩) (Nat.le_refl _) _
      have GB : Hid (∀ g, g < j + 1 → Bl (W.setCell ⟨w.heap.size, j, none⟩ (.pointer (some ⟨wr.heap.size, 0, none⟩))) (w.heap.size + 1 + g) 99 (gcs (X.getD g 0) 0)) := fun g hg => (GA.out g hg).kb (kb_set _ _ _ _) (fun e => by have e' : w.heap.size + 1 + g = w.heap.size := e; omega)
      clear hW GN RW GS ZW BB PV
      go_wp2_with (rw [← HW.out])
      go_roundw
      case rel => exact ⟨j + 1, by omega, by go_num, RB, GB, ZB, BB2⟩
      case measure => simp [intOf]; omega
    · have ej : j = n := by omega
      subst ej
      rw [FA.out] at RW
      have i1 : ¬ (j : Int) < (j : Int) := by omega
      go_wp2_with fail
      go_ret
      exact ⟨rfl, RW.out, GS.out, ZW.out, BB.out⟩
end Go.Proofs.Ytfhpomfdkpfooaa.Ty

/- A run tied: what is refused ahead of the loop. -/
namespace Go.Proofs.Ytfhpomfdkpfooaa.Ty
open Go.ChangeShapes Go.WideShapes Go.ChangeAt Go.RowKit
open Go.Proofs.Ytfhpomfdkpfooaa.Lists Go.Proofs.Ytfhpomfdkpfooaa.Tm Go.Proofs.Ytfhpomfdkpfooaa.Rk Go.Proofs.Ytfhpomfdkpfooaa.Ru Go.Proofs.Ytfhpomfdkpfooaa.Al

abbrev nilS : Value := .slice none 0 0
theorem bel4 {B g : Nat} {a w : World} (h : Below B a w) (hg : B ≤ g) (u0 u1 u2 u3 : Value) : Below B a ((((w.setCell ⟨g, 0, none⟩ u0).setCell ⟨g, 1, none⟩ u1).setCell ⟨g, 2, none⟩ u2).setCell ⟨g, 3, none⟩ u3) :=
  (((h.setCell (p := ⟨g, 0, none⟩) hg _).setCell (p := ⟨g, 1, none⟩) hg _).setCell (p := ⟨g, 2, none⟩) hg _).setCell (p := ⟨g, 3, none⟩) hg _
abbrev noRun : Value := .tuple #[rv nilS nilS 0 nilS, nilS, .bool false]
theorem inn_eq (a b c : Int) : inn a b c = (decide (b ≤ a) && decide (a ≤ c)) := rfl
/-- the two boxes at the head of a function over a run -/
structure Hd (w : World) (h : Nat) (vr vx : Value) (now : Int) (vj : Value) : Prop where
  arg : Bl w h 30 #[vr, vx, .int .i64 now, vj]
  res : Bl w (h + 1) 30 #[nilS, nilS, .int .i64 0, nilS]
theorem Hd.on {w w' : World} {h : Nat} {vr vx : Value} {now : Int} {vj : Value} (t : Hd w h vr vx now vj) (hb : Below w.heap.size w w') : Hd w' h vr vx now vj := ⟨t.arg.on hb, t.res.on hb⟩
theorem Hd.new (w : World) (vr vx : Value) (now : Int) (vj : Value) : Hd ((w.alloc (.cells #[vr, vx, .int .i64 now, vj] 30)).alloc (.cells #[nilS, nilS, .int .i64 0, nilS] 30)) w.heap.size vr vx now vj := by
  refine ⟨(Bl.new w 30 _).on ((Below.refl _ _).alloc (Nat.le_refl _) _), ?_⟩
  have := Bl.new (w.alloc (.cells #[vr, vx, .int .i64 now, vj] 30)) 30 #[nilS, nilS, .int .i64 0, nilS]
  simpa using this

set_option maxHeartbeats 2000000 in
theorem tied_no1 (R : Tk.Ls) (X : List Int) (now : Int) (J : Jb.Ls) (vr vx vj : Value) (w : World) (hh : RR w vr vx vj R X J) (h1 : So.okS R X = false) :
    Calls Try.prog 28 #[rv vr vx now vj] w fun e w' => e = .returned noRun ∧ Below w.heap.size w w' := by
  obtain ⟨ar, cr, er⟩ := hh.1.form
  obtain ⟨ax, cx, ex⟩ := hh.2.1.form
  obtain ⟨aj, cj, ej⟩ := hh.2.2.form
  obtain ⟨w0, hw0⟩ : ∃ w0, w0 = (w.alloc (.cells #[vr, vx, .int .i64 now, vj] 30)).alloc (.cells #[nilS, nilS, .int .i64 0, nilS] 30) := ⟨_, rfl⟩
  have HW0 : Hid (w0 = (w.alloc (.cells #[vr, vx, .int .i64 now, vj] 30)).alloc (.cells #[nilS, nilS, .int .i64 0, nilS] 30)) := hw0
  have B0 : Hid (Below w.heap.size w w0) := (by show Below _ _ _; rw [hw0]; exact ((Below.refl _ _).alloc (Nat.le_refl _) _).alloc (by simp) _)
  have Y0 : Hid (Hd w0 w.heap.size vr vx now vj) := (by show Hd _ _ _ _ _ _; rw [hw0]; exact Hd.new w vr vx now vj)
  have Z0 : Hid (w0.heap.size = w.heap.size + 2) := (by show _ = _; rw [hw0]; simp)
  have fR := hh.1.fits
  have fJ := hh.2.2.fits
  have C1 : Hid (Calls Try.prog 35 #[Su.pv vr vx] w0 fun e w' => e = .returned (.bool (So.okS R X)) ∧ Below w0.heap.size w0 w') := So.isuite R X vr vx w0 (hh.1.on B0.out) (hh.2.1.on B0.out)
  rw [h1] at C1
  have IN : Hid (∀ w, Calls Try.prog 29 #[.int .i64 now, .int .i64 0, .int .i64 1000000000000] w fun e w' => e = .returned (.bool (inn now 0 1000000000000)) ∧ w' = w) := fun w => Lists.win_any now 0 1000000000000 w
  
  subst er ex ej
  generalize R.length = n at *
  generalize X.length = m at *
  generalize J.length = k at *
  clear hh hw0
  have y0 := (Y0.out.arg.cell 0).trans rfl
  have y1 := (Y0.out.arg.cell 1).trans rfl
  go_enter Try.func28, Try.ntmps28
  go_wp2_with fail
  rw [← HW0.out]
  refine (Calls.mono C1.out) ?_
  rintro e w1 ⟨rfl, hb⟩
  have B1 : Hid (Below w.heap.size w w1) := B0.out.trans (hb.mono B0.out.size)
  have Y1 : Hid (Hd w1 w.heap.size (.slice ar n cr) (.slice ax m cx) now (.slice aj k cj)) := Y0.out.on hb
  clear y0 y1 hb HW0 Y0 C1
  have y0 := (Y1.out.arg.cell 0).trans rfl
  have y2 := (Y1.out.arg.cell 2).trans rfl
  have y3 := (Y1.out.arg.cell 3).trans rfl
  have z0 := (Y1.out.res.cell 0).trans rfl
  have z1 := (Y1.out.res.cell 1).trans rfl
  have z2 := (Y1.out.res.cell 2).trans rfl
  have z3 := (Y1.out.res.cell 3).trans rfl
  have f0 := Y1.out.res.fz 0
  have f1 := Y1.out.res.fz 1
  have f2 := Y1.out.res.fz 2
  have f3 := Y1.out.res.fz 3
  go_wp2_with fail
  exact bodyPost_ret (v := noRun) (by simp [results, Try.results28, go_sem, z0, z1, z2, z3]) rfl ⟨rfl, bel4 B1.out (Nat.le_succ _) _ _ _ _⟩

set_option maxHeartbeats 2000000 in
theorem tied_no2 (R : Tk.Ls) (X : List Int) (now : Int) (J : Jb.Ls) (vr vx vj : Value) (w : World) (hh : RR w vr vx vj R X J) (h1 : So.okS R X = true) (h2 : inn now 0 1000000000000 = false) :
    Calls Try.prog 28 #[rv vr vx now vj] w fun e w' => e = .returned noRun ∧ Below w.heap.size w w' := by
  obtain ⟨ar, cr, er⟩ := hh.1.form
  obtain ⟨ax, cx, ex⟩ := hh.2.1.form
  obtain ⟨aj, cj, ej⟩ := hh.2.2.form
  obtain ⟨w0, hw0⟩ : ∃ w0, w0 = (w.alloc (.cells #[vr, vx, .int .i64 now, vj] 30)).alloc (.cells #[nilS, nilS, .int .i64 0, nilS] 30) := ⟨_, rfl⟩
  have HW0 : Hid (w0 = (w.alloc (.cells #[vr, vx, .int .i64 now, vj] 30)).alloc (.cells #[nilS, nilS, .int .i64 0, nilS] 30)) := hw0
  have B0 : Hid (Below w.heap.size w w0) := (by show Below _ _ _; rw [hw0]; exact ((Below.refl _ _).alloc (Nat.le_refl _) _).alloc (by simp) _)
  have Y0 : Hid (Hd w0 w.heap.size vr vx now vj) := (by show Hd _ _ _ _ _ _; rw [hw0]; exact Hd.new w vr vx now vj)
  have Z0 : Hid (w0.heap.size = w.heap.size + 2) := (by show _ = _; rw [hw0]; simp)
  have fR := hh.1.fits
  have fJ := hh.2.2.fits
  have C1 : Hid (Calls Try.prog 35 #[Su.pv vr vx] w0 fun e w' => e = .returned (.bool (So.okS R X)) ∧ Below w0.heap.size w0 w') := So.isuite R X vr vx w0 (hh.1.on B0.out) (hh.2.1.on B0.out)
  rw [h1] at C1
  have IN : Hid (∀ w, Calls Try.prog 29 #[.int .i64 now, .int .i64 0, .int .i64 1000000000000] w fun e w' => e = .returned (.bool (inn now 0 1000000000000)) ∧ w' = w) := fun w => Lists.win_any now 0 1000000000000 w
  rw [h2] at IN
  subst er ex ej
  generalize R.length = n at *
  generalize X.length = m at *
  generalize J.length = k at *
  clear hh hw0
  have y0 := (Y0.out.arg.cell 0).trans rfl
  have y1 := (Y0.out.arg.cell 1).trans rfl
  go_enter Try.func28, Try.ntmps28
  go_wp2_with fail
  rw [← HW0.out]
  refine (Calls.mono C1.out) ?_
  rintro e w1 ⟨rfl, hb⟩
  have B1 : Hid (Below w.heap.size w w1) := B0.out.trans (hb.mono B0.out.size)
  have Y1 : Hid (Hd w1 w.heap.size (.slice ar n cr) (.slice ax m cx) now (.slice aj k cj)) := Y0.out.on hb
  clear y0 y1 hb HW0 Y0 C1
  have y0 := (Y1.out.arg.cell 0).trans rfl
  have y2 := (Y1.out.arg.cell 2).trans rfl
  have y3 := (Y1.out.arg.cell 3).trans rfl
  have z0 := (Y1.out.res.cell 0).trans rfl
  have z1 := (Y1.out.res.cell 1).trans rfl
  have z2 := (Y1.out.res.cell 2).trans rfl
  have z3 := (Y1.out.res.cell 3).trans rfl
  have f0 := Y1.out.res.fz 0
  have f1 := Y1.out.res.fz 1
  have f2 := Y1.out.res.fz 2
  have f3 := Y1.out.res.fz 3
  go_wp2_with fail
  refine (IN.out _).mono ?_
  rintro e w2 ⟨rfl, hw2⟩
  subst w2
  go_wp2_with fail
  exact bodyPost_ret (v := noRun) (by simp [results, Try.results28, go_sem, z0, z1, z2, z3]) rfl ⟨rfl, bel4 B1.out (Nat.le_succ _) _ _ _ _⟩

set_option maxHeartbeats 2000000 in
theorem tied_no3 (R : Tk.Ls) (X : List Int) (now : Int) (J : Jb.Ls) (vr vx vj : Value) (w : World) (hh : RR w vr vx vj R X J) (h1 : So.okS R X = true) (h2 : inn now 0 1000000000000 = true) (h3 : ¬ J.length = R.length) :
    Calls Try.prog 28 #[rv vr vx now vj] w fun e w' => e = .returned noRun ∧ Below w.heap.size w w' := by
  obtain ⟨ar, cr, er⟩ := hh.1.form
  obtain ⟨ax, cx, ex⟩ := hh.2.1.form
  obtain ⟨aj, cj, ej⟩ := hh.2.2.form
  obtain ⟨w0, hw0⟩ : ∃ w0, w0 = (w.alloc (.cells #[vr, vx, .int .i64 now, vj] 30)).alloc (.cells #[nilS, nilS, .int .i64 0, nilS] 30) := ⟨_, rfl⟩
  have HW0 : Hid (w0 = (w.alloc (.cells #[vr, vx, .int .i64 now, vj] 30)).alloc (.cells #[nilS, nilS, .int .i64 0, nilS] 30)) := hw0
  have B0 : Hid (Below w.heap.size w w0) := (by show Below _ _ _; rw [hw0]; exact ((Below.refl _ _).alloc (Nat.le_refl _) _).alloc (by simp) _)
  have Y0 : Hid (Hd w0 w.heap.size vr vx now vj) := (by show Hd _ _ _ _ _ _; rw [hw0]; exact Hd.new w vr vx now vj)
  have Z0 : Hid (w0.heap.size = w.heap.size + 2) := (by show _ = _; rw [hw0]; simp)
  have fR := hh.1.fits
  have fJ := hh.2.2.fits
  have C1 : Hid (Calls Try.prog 35 #[Su.pv vr vx] w0 fun e w' => e = .returned (.bool (So.okS R X)) ∧ Below w0.heap.size w0 w') := So.isuite R X vr vx w0 (hh.1.on B0.out) (hh.2.1.on B0.out)
  rw [h1] at C1
  have IN : Hid (∀ w, Calls Try.prog 29 #[.int .i64 now, .int .i64 0, .int .i64 1000000000000] w fun e w' => e = .returned (.bool (inn now 0 1000000000000)) ∧ w' = w) := fun w => Lists.win_any now 0 1000000000000 w
  rw [h2] at IN
  subst er ex ej
  generalize R.length = n at *
  generalize X.length = m at *
  generalize J.length = k at *
  clear hh hw0
  have y0 := (Y0.out.arg.cell 0).trans rfl
  have y1 := (Y0.out.arg.cell 1).trans rfl
  go_enter Try.func28, Try.ntmps28
  go_wp2_with fail
  rw [← HW0.out]
  refine (Calls.mono C1.out) ?_
  rintro e w1 ⟨rfl, hb⟩
  have B1 : Hid (Below w.heap.size w w1) := B0.out.trans (hb.mono B0.out.size)
  have Y1 : Hid (Hd w1 w.heap.size (.slice ar n cr) (.slice ax m cx) now (.slice aj k cj)) := Y0.out.on hb
  clear y0 y1 hb HW0 Y0 C1
  have y0 := (Y1.out.arg.cell 0).trans rfl
  have y2 := (Y1.out.arg.cell 2).trans rfl
  have y3 := (Y1.out.arg.cell 3).trans rfl
  have z0 := (Y1.out.res.cell 0).trans rfl
  have z1 := (Y1.out.res.cell 1).trans rfl
  have z2 := (Y1.out.res.cell 2).trans rfl
  have z3 := (Y1.out.res.cell 3).trans rfl
  have f0 := Y1.out.res.fz 0
  have f1 := Y1.out.res.fz 1
  have f2 := Y1.out.res.fz 2
  have f3 := Y1.out.res.fz 3
  have h4 : ((k : Int) != (n : Int)) = true := by simpa using (by omega : ¬ (k : Int) = (n : Int))
  go_wp2_with fail
  refine (IN.out _).mono ?_
  rintro e w2 ⟨rfl, hw2⟩
  subst w2
  go_wp2_with fail
  exact bodyPost_ret (v := noRun) (by simp [results, Try.results28, go_sem, z0, z1, z2, z3]) rfl ⟨rfl, bel4 B1.out (Nat.le_succ _) _ _ _ _⟩
end Go.Proofs.Ytfhpomfdkpfooaa.Ty

/- A run tied: the copy. -/
namespace Go.Proofs.Ytfhpomfdkpfooaa.Ty
open Go.ChangeShapes Go.WideShapes Go.ChangeAt Go.RowKit
open Go.Proofs.Ytfhpomfdkpfooaa.Lists Go.Proofs.Ytfhpomfdkpfooaa.Tm Go.Proofs.Ytfhpomfdkpfooaa.Rk Go.Proofs.Ytfhpomfdkpfooaa.Ru Go.Proofs.Ytfhpomfdkpfooaa.Al

/-- the copy of a run, and its box at nb -/
def NX (w : World) (R : Tk.Ls) (X : List Int) (now : Int) (J : Jb.Ls) (vr vx vj : Value) (v : Value) (wx : World) : Prop :=
  ∃ nb ra rc xa xc jb jc xs, v = .pointer (some ⟨nb, 0, none⟩) ∧ Bl wx nb 30 #[.slice ra R.length rc, .slice xa X.length xc, .int .i64 now, .slice (some ⟨jb, 0, none⟩) J.length jc] ∧
    RO wx (w.heap.size + 2) (.slice ra R.length rc) (.slice xa X.length xc) (.slice (some ⟨jb, 0, none⟩) J.length jc) xs R X J ∧ Hd wx w.heap.size vr vx now vj ∧ Below w.heap.size w wx ∧ w.heap.size + 2 ≤ nb
abbrev z35 : Array Value := #[nilS, nilS, .int .i64 0, nilS]
theorem so_down {w : World} {B B' : Nat} {r x : Value} {xs : List Value} {R : Tk.Ls} {X : List Int} (h : SO w B r x xs R X) (hb : B' ≤ B) : SO w B' r x xs R X := ⟨h.1.down hb, Tk1.own_down h.2.1 hb, h.2.2⟩
theorem jr_down {w : World} {B B' : Nat} {v : Value} {J : Jb.Ls} (h : Jb.Row w B v J) (hb : B' ≤ B) : Jb.Row w B' v J := by
  obtain ⟨xs, h1, h2⟩ := h
  exact ⟨xs, World.ownsRow.mono h1 hb, h2⟩
theorem bl_set4 {w : World} {b : Nat} {e : TypeId} {v0 v1 v2 v3 : Value} (h : Bl w b e #[v0, v1, v2, v3]) (u0 u1 u2 u3 : Value) : Bl ((((w.setCell ⟨b, 0, none⟩ u0).setCell ⟨b, 1, none⟩ u1).setCell ⟨b, 2, none⟩ u2).setCell ⟨b, 3, none⟩ u3) b e #[u0, u1, u2, u3] := (((h.set 0 u0).set 1 u1).set 2 u2).set 3 u3
theorem kb4 (w : World) (g : Nat) (u0 u1 u2 u3 : Value) : KB (fun b => b = g) w ((((w.setCell ⟨g, 0, none⟩ u0).setCell ⟨g, 1, none⟩ u1).setCell ⟨g, 2, none⟩ u2).setCell ⟨g, 3, none⟩ u3) :=
  (((kb_set w g 0 u0).trans (kb_set _ g 1 u1)).trans (kb_set _ g 2 u2)).trans (kb_set _ g 3 u3)
/-- the box is filled -/
theorem nx_of {w wx : World} {R : Tk.Ls} {X : List Int} {now : Int} {J : Jb.Ls} {vr vx vj r x : Value} {nb jb jc : Nat} {xs : List Value} {v0 v1 v2 v3 : Value} (hr : ∃ ra rc, r = .slice ra R.length rc) (hx : ∃ xa xc, x = .slice xa X.length xc)
    (h1 : Bl wx nb 30 #[v0, v1, v2, v3]) (h2 : SO wx (w.heap.size + 2) r x xs R X) (h3 : Jb.Row wx (w.heap.size + 2) (.slice (some ⟨jb, 0, none⟩) J.length jc) J) (h4 : Hd wx w.heap.size vr vx now vj) (h5 : Below w.heap.size w wx) (h6 : w.heap.size + 2 ≤ nb) :
    NX w R X now J vr vx vj (.pointer (some ⟨nb, 0, none⟩)) ((((wx.setCell ⟨nb, 0, none⟩ r).setCell ⟨nb, 1, none⟩ x).setCell ⟨nb, 2, none⟩ (.int .i64 now)).setCell ⟨nb, 3, none⟩ (.slice (some ⟨jb, 0, none⟩) J.length jc)) := by
  obtain ⟨ra, rc, rfl⟩ := hr
  obtain ⟨xa, xc, rfl⟩ := hx
  refine ⟨nb, ra, rc, xa, xc, jb, jc, xs, rfl, bl_set4 h1 _ _ _ _, ro_off (e := 30) ⟨h2, h3⟩ (kb4 _ nb _ _ _ _) h1.ty (by decide), ⟨h4.arg.kb (kb4 _ nb _ _ _ _) (fun e => ?_), h4.res.kb (kb4 _ nb _ _ _ _) (fun e => ?_)⟩, bel4 h5 (by omega) _ _ _ _, h6⟩
  · have e' : w.heap.size = nb := e; omega
  · have e' : w.heap.size + 1 = nb := e; omega

theorem Hd.s {w : World} {h : Nat} {vr vx : Value} {now : Int} {vj : Value} (t : Hd w h vr vx now vj) : w.cell? ⟨h, 0, none⟩ = some vr ∧ w.cell? ⟨h, 1, none⟩ = some vx ∧ w.cell? ⟨h, 2, none⟩ = some (.int .i64 now) ∧ w.cell? ⟨h, 3, none⟩ = some vj := ⟨(t.arg.cell 0).trans rfl, (t.arg.cell 1).trans rfl, (t.arg.cell 2).trans rfl, (t.arg.cell 3).trans rfl⟩
theorem nx_hd {w wx : World} {R : Tk.Ls} {X : List Int} {now : Int} {J : Jb.Ls} {vr vx vj v : Value} (h : NX w R X now J vr vx vj v wx) : Hd wx w.heap.size vr vx now vj := by
  obtain ⟨_, _, _, _, _, _, _, _, _, _, _, h, _⟩ := h
  exact h
theorem NX.hid {w wx : World} {R : Tk.Ls} {X : List Int} {now : Int} {J : Jb.Ls} {vr vx vj v : Value} (h : NX w R X now J vr vx vj v wx) : Hid (NX w R X now J vr vx vj v wx) := h

def tmid (P : Nat → Nat) (n k : Nat) : List Value := (List.range n).map fun i => if i < k then .pointer (some ⟨P i, 0, none⟩) else .pointer none
theorem tmid_zero (P : Nat → Nat) (n : Nat) : (madeCells (Value.pointer none).cells (n * 1)).toList = tmid P n 0 := by
  apply List.ext_getElem
  · simp [madeCells, tmid]
  · intro i h1 h2
    simp [madeCells, tmid, Value.cells, Nat.mod_one]
theorem tmid_set (P P' : Nat → Nat) (n k p : Nat) (h : ∀ i, i < k → P' i = P i) (hk : P' k = p) : (tmid P n k).set k (.pointer (some ⟨p, 0, none⟩)) = tmid P' n (k + 1) := by
  apply List.ext_getElem (by simp [tmid])
  intro i h1 h2
  rw [List.getElem_set]
  by_cases e : k = i
  · subst e; simp [tmid, hk]
  · rw [if_neg e]
    simp only [tmid, List.getElem_map, List.getElem_range]
    by_cases x : i < k
    · rw [if_pos x, if_pos (by omega), h i x]
    · rw [if_neg x, if_neg (by omega)]
theorem tmid_at (P : Nat → Nat) (n k i : Nat) (hi : i < n) : (tmid P n k)[i]? = some (if i < k then .pointer (some ⟨P i, 0, none⟩) else .pointer none) := by simp [tmid, hi]
theorem Try.info66 : (Try.prog.info? 66).map (fun i => (i.zero, i.size, i.bytes)) = some (some (.pointer none), 1, 8) := by kernel_rfl

/-- what tying a run gives -/
def TG (w : World) (R : Tk.Ls) (X : List Int) (now : Int) (J : Jb.Ls) (e : Ending) (w' : World) : Prop :=
  Below w.heap.size w w' ∧ ((okR R X now J = false ∧ e = .returned noRun) ∨
    (okR R X now J = true ∧ ∃ ra rc xa xc jb jc tb h xs u a P, e = .returned (.tuple #[rv (.slice ra R.length rc) (.slice xa X.length xc) now (.slice (some ⟨jb, 0, none⟩) J.length jc), .slice (some ⟨tb, 0, none⟩) R.length R.length, .bool true]) ∧
      RO w' w.heap.size (.slice ra R.length rc) (.slice xa X.length xc) (.slice (some ⟨jb, 0, none⟩) J.length jc) xs R X J ∧ w.heap.size ≤ h ∧
      Td w' (tb + 1) R X h jb u a P (fun g => rn R J g R.length) (fun _ => false) R.length ∧ w'.ownsRow w.heap.size 66 1 (.slice (some ⟨tb, 0, none⟩) R.length R.length) R.length (tmid P R.length R.length)))

/-- what stands while a run is tied: its copy, the groups' row, the tasks' row -/
structure LS (w : World) (R : Tk.Ls) (X : List Int) (now : Int) (J : Jb.Ls) (vr vx vj : Value) (nb : Nat) (r x : Value) (jb jc : Nat) (xs : List Value) (h tb : Nat) (P : Nat → Nat) (k : Nat) (wr : World) : Prop where
  box : Bl wr nb 30 #[r, x, .int .i64 now, .slice (some ⟨jb, 0, none⟩) J.length jc]
  ro : RO wr (w.heap.size + 2) r x (.slice (some ⟨jb, 0, none⟩) J.length jc) xs R X J
  hd : Hd wr w.heap.size vr vx now vj
  bel : Below w.heap.size w wr
  nbl : w.heap.size + 2 ≤ nb
  hl : w.heap.size + 2 ≤ h
  tl : w.heap.size + 2 ≤ tb
  grow : wr.ownsRow (w.heap.size + 2) 63 1 (.slice (some ⟨h, 0, none⟩) X.length X.length) X.length (gptrs h X.length)
  trow : wr.ownsRow (w.heap.size + 2) 66 1 (.slice (some ⟨tb, 0, none⟩) R.length R.length) R.length (tmid P R.length k)
section
variable {w : World} {R : Tk.Ls} {X : List Int} {now : Int} {J : Jb.Ls} {vr vx vj : Value} {nb : Nat} {r x : Value} {jb jc : Nat} {xs : List Value} {h tb : Nat} {P : Nat → Nat} {k : Nat} {wr w' : World}
theorem LS.kb {S : Nat → Prop} (t : LS w R X now J vr vx vj nb r x jb jc xs h tb P k wr) (hb : KB S wr w') (hn : ∀ b e, Ty wr b e → (e = 30 ∨ e = 2 ∨ e = 50 ∨ e = 34 ∨ e = 63) → ¬ S b) (htb : ¬ S tb) (hlo : ∀ b, S b → w.heap.size ≤ b) : LS w R X now J vr vx vj nb r x jb jc xs h tb P k w' where
  box := t.box.kb hb (hn _ 30 t.box.ty (Or.inl rfl))
  ro := t.ro.kb hb (fun g hg => by
    obtain ⟨e, he, ht⟩ := ro_ty t.ro g hg
    refine hn g e ht ?_
    rcases he with q | q | q
    · exact Or.inr (Or.inl q)
    · exact Or.inr (Or.inr (Or.inl q))
    · exact Or.inr (Or.inr (Or.inr (Or.inl q))))
  hd := ⟨t.hd.arg.kb hb (hn _ 30 t.hd.arg.ty (Or.inl rfl)), t.hd.res.kb hb (hn _ 30 t.hd.res.ty (Or.inl rfl))⟩
  bel := t.bel.trans (hb.below t.bel.size hlo)
  nbl := t.nbl
  hl := t.hl
  tl := t.tl
  grow := row_kb t.grow hb (fun g hg => hn _ 63 (row_ty t.grow g hg) (Or.inr (Or.inr (Or.inr (Or.inr rfl)))))
  trow := row_kb t.trow hb (fun g hg => by simp [Value.ownBlock] at hg; rw [← hg]; exact htb)
theorem LS.on (t : LS w R X now J vr vx vj nb r x jb jc xs h tb P k wr) (hb : Below wr.heap.size wr w') : LS w R X now J vr vx vj nb r x jb jc xs h tb P k w' :=
  t.kb (S := fun _ => False) (KB.of_below hb) (fun _ _ _ _ y => y) (fun y => y) (fun _ y => y.elim)
/-- a group's block has turned -/
theorem LS.grp (t : LS w R X now J vr vx vj nb r x jb jc xs h tb P k wr) {b : Nat} (hb : KB (fun y => y = b) wr w') (ht : Ty wr b 99) (hlo : w.heap.size ≤ b) : LS w R X now J vr vx vj nb r x jb jc xs h tb P k w' :=
  t.kb hb (fun b' e ht' he hx => by
    have hx' : b' = b := hx
    have : e = 99 := Classical.byContradiction fun hc => (ht'.ne ht hc) hx'
    subst this
    rcases he with q | q | q | q | q <;> exact absurd q (by decide))
    (fun hx => by have hx' : tb = b := hx; exact (row_ty t.trow tb rfl).ne ht (by decide) hx')
    (fun b' hx => by have hx' : b' = b := hx; omega)
/-- the tasks' row takes one more -/
theorem LS.put (t : LS w R X now J vr vx vj nb r x jb jc xs h tb P k wr) {P' : Nat → Nat} {p : Nat} (hP : ∀ i, i < k → P' i = P i) (hp : P' k = p) : LS w R X now J vr vx vj nb r x jb jc xs h tb P' (k + 1) (wr.setCell ⟨tb, k, none⟩ (.pointer (some ⟨p, 0, none⟩))) := by
  have hb := kb_set wr tb k (.pointer (some ⟨p, 0, none⟩))
  have ht := row_ty t.trow tb rfl
  have hn : ∀ b e, Ty wr b e → (e = 30 ∨ e = 2 ∨ e = 50 ∨ e = 34 ∨ e = 63) → ¬ b = tb := fun b e ht' he hx => by
    have : e = 66 := Classical.byContradiction fun hc => (ht'.ne ht hc) hx
    subst this
    rcases he with q | q | q | q | q <;> exact absurd q (by decide)
  have tl' := t.tl
  exact { box := t.box.kb hb (hn _ 30 t.box.ty (Or.inl rfl))
          ro := t.ro.kb hb (fun g hg => by
            obtain ⟨e, he, ht⟩ := ro_ty t.ro g hg
            refine hn g e ht ?_
            rcases he with q | q | q
            · exact Or.inr (Or.inl q)
            · exact Or.inr (Or.inr (Or.inl q))
            · exact Or.inr (Or.inr (Or.inr (Or.inl q))))
          hd := ⟨t.hd.arg.kb hb (hn _ 30 t.hd.arg.ty (Or.inl rfl)), t.hd.res.kb hb (hn _ 30 t.hd.res.ty (Or.inl rfl))⟩
          bel := t.bel.trans (hb.below t.bel.size (fun b hx => by have hx' : b = tb := hx; omega))
          nbl := t.nbl
          hl := t.hl
          tl := t.tl
          grow := row_kb t.grow hb (fun g hg => hn _ 63 (row_ty t.grow g hg) (Or.inr (Or.inr (Or.inr (Or.inr rfl)))))
          trow := by rw [← tmid_set P P' R.length k p hP hp]; exact (t.trow.stored k _).1 }
end
/-- one more tied -/
theorem Td.more {w w' : World} {B : Nat} {R : Tk.Ls} {X : List Int} {h jb : Nat} {u a : Nat → Value} {P : Nat → Nat} {run : Int → Int} {k : Nat} (t : Td w B R X h jb u a P run (fun _ => false) k) (hb : Below w.heap.size w w') {p : Nat} {uk ak : Value}
    (hp : Bl w' p 65 (tcs R h jb k uk ak false)) (hlo : B ≤ p) (hpw : w.heap.size ≤ p) (hak : w'.ownsRow B 66 1 ak (Tk.cl R k).length (ptrs P (Tk.cl R k))) (haf : ∀ i, i ≤ k → ∀ z, z ∈ Tk.cl R i → (z - 1).toNat < i) :
    Td w' B R X h jb (fun i => if i = k then uk else u i) (fun i => if i = k then ak else a i) (fun i => if i = k then p else P i) run (fun _ => false) (k + 1) := by
  have t' := t.on hb
  have hpt : ∀ i, i ≤ k → ptrs P (Tk.cl R i) = ptrs (fun i => if i = k then p else P i) (Tk.cl R i) := fun i hi => ptrs_congr (fun z hz => by
    have := haf i hi z hz
    rw [if_neg (by omega)])
  refine ⟨fun i hi => ?_, fun i hi => ?_, t'.grp, fun i hi => ?_, fun i j hij hj => ?_⟩
  · by_cases e : i = k
    · subst e; simp only [if_pos]; exact hp
    · simp only [if_neg e]; exact t'.tsk i (by omega)
  · by_cases e : i = k
    · subst e; simp only [if_pos]; rw [← hpt i (Nat.le_refl _)]; exact hak
    · simp only [if_neg e]; rw [← hpt i (by omega)]; exact t'.aft i (by omega)
  · by_cases e : i = k
    · subst e; simp only [if_pos]; exact hlo
    · simp only [if_neg e]; exact t'.low i (by omega)
  · have hi : ¬ i = k := by omega
    simp only [if_neg hi]
    by_cases e : j = k
    · subst e
      simp only [if_pos]
      have := (t.tsk i hij).lt
      omega
    · simp only [if_neg e]; exact t.inj i j hij (by omega)
/-- a group is entered -/
theorem Td.enter {w w' : World} {B : Nat} {R : Tk.Ls} {X : List Int} {h jb : Nat} {u a : Nat → Value} {P : Nat → Nat} {run run' : Int → Int} {st : Nat → Bool} {k g : Nat} (t : Td w B R X h jb u a P run st k) (hb : KB (fun b => b = h + 1 + g) w w') (hg : g < X.length)
    (hB : Bl w' (h + 1 + g) 99 (gcs (X.getD g 0) (run' ((g : Int) + 1)))) (hr : ∀ q, q < X.length → q ≠ g → run' ((q : Int) + 1) = run ((q : Int) + 1)) : Td w' B R X h jb u a P run' st k where
  tsk i hi := (t.tsk i hi).kb hb (fun e => (t.tsk i hi).ty.ne (t.grp g hg).ty (by decide) e)
  aft i hi := row_kb (t.aft i hi) hb (fun b hb' e => (row_ty (t.aft i hi) b hb').ne (t.grp g hg).ty (by decide) e)
  grp q hq := by
    by_cases e : q = g
    · subst e; exact hB
    · rw [hr q hq e]
      exact (t.grp q hq).kb hb (fun x => by have x' : h + 1 + q = h + 1 + g := x; omega)
  low := t.low
  inj := t.inj
/-- nothing turned in the counts -/
theorem Td.run {w : World} {B : Nat} {R : Tk.Ls} {X : List Int} {h jb : Nat} {u a : Nat → Value} {P : Nat → Nat} {run run' : Int → Int} {st : Nat → Bool} {k : Nat} (t : Td w B R X h jb u a P run st k) (hr : ∀ q, q < X.length → run' ((q : Int) + 1) = run ((q : Int) + 1)) : Td w B R X h jb u a P run' st k :=
  ⟨t.tsk, t.aft, fun q hq => by rw [hr q hq]; exact t.grp q hq, t.low, t.inj⟩
end Go.Proofs.Ytfhpomfdkpfooaa.Ty
