/- A run tied: the walk. -/
import Derived.Test.YtfhpomfdkpfooaaTz
namespace Go.Proofs.Ytfhpomfdkpfooaa.Ty
open Go.ChangeShapes Go.WideShapes Go.ChangeAt Go.RowKit
open Go.Proofs.Ytfhpomfdkpfooaa.Lists Go.Proofs.Ytfhpomfdkpfooaa.Tm Go.Proofs.Ytfhpomfdkpfooaa.Rk Go.Proofs.Ytfhpomfdkpfooaa.Ru Go.Proofs.Ytfhpomfdkpfooaa.Al

theorem okR_of {R : Tk.Ls} {X : List Int} {now : Int} {J : Jb.Ls} (h1 : So.okS R X = true) (h2 : inn now 0 1000000000000 = true) (h3 : J.length = R.length) (h : ∀ i, i < R.length → jk R J i = true ∧ ent R X J i = true) : okR R X now J = true := by
  have F := fit_of h1
  refine okR_yes h1 h2 h3 (fun k hk => ?_) (fun k hk => ?_)
  · rw [jok_jk R J k (F.most k (by omega)).1]
    exact (h k (by omega)).1
  · have hr := room (J := J) F h3
    rw [all_yes (n := J.length) (f := ent R X J) (fun i hi => (h i (by omega)).2)] at hr
    exact all_at hr k hk
theorem okR_nj {R : Tk.Ls} {X : List Int} {now : Int} {J : Jb.Ls} (h1 : So.okS R X = true) (h3 : J.length = R.length) {k : Nat} (hk : k < R.length) (h : jk R J k = false) : okR R X now J = false := by
  have F := fit_of h1
  refine okR_no4 (k := k) (by omega) ?_
  rw [jok_jk R J k (F.most k hk).1]
  exact h
theorem okR_ne {R : Tk.Ls} {X : List Int} {now : Int} {J : Jb.Ls} (h1 : So.okS R X = true) (h3 : J.length = R.length) {k : Nat} (hk : k < R.length) (h : ent R X J k = false) : okR R X now J = false := by
  have F := fit_of h1
  have hr := room (J := J) F h3
  rw [all_no (n := J.length) (k := k) (by omega) h] at hr
  unfold okR
  rw [hr]
  simp
theorem ro_down {w : World} {B B' : Nat} {r x j : Value} {xs : List Value} {R : Tk.Ls} {X : List Int} {J : Jb.Ls} (h : RO w B r x j xs R X J) (hb : B' ≤ B) : RO w B' r x j xs R X J := ⟨so_down h.1 hb, jr_down h.2 hb⟩
theorem gptrs_at (h n g : Nat) (hg : g < n) : (gptrs h n)[g]? = some (.pointer (some ⟨h + 1 + g, 0, none⟩)) := by simp [gptrs, hg]
theorem rn_next (R : Tk.Ls) (J : Jb.Ls) (g : Int) (k : Nat) : rn R J g (k + 1) = if (hw J k == 1 && Tk.cz R k 1 == g) = true then rn R J g k + 1 else rn R J g k := rfl

theorem rn_hit {R : Tk.Ls} {J : Jb.Ls} {k : Nat} (h : hw J k = 1) : rn R J (Tk.cz R k 1) (k + 1) = rn R J (Tk.cz R k 1) k + 1 := by
  rw [rn_next, if_pos (by simp [h])]
theorem rn_off {R : Tk.Ls} {J : Jb.Ls} {k : Nat} {g : Int} (h : hw J k ≠ 1 ∨ Tk.cz R k 1 ≠ g) : rn R J g (k + 1) = rn R J g k := by
  rw [rn_next, if_neg]
  intro e
  rw [Bool.and_eq_true] at e
  rcases h with h | h
  · exact h (by simpa using e.1)
  · exact h (by simpa using e.2)
theorem jk_jj (R : Tk.Ls) (J : Jb.Ls) (k : Nat) : Gr.jj (hw J k) (tr J k) (Tk.cz R k 3) (fr R J k) = jk R J k := rfl
theorem ent_in {R : Tk.Ls} {X : List Int} {J : Jb.Ls} {k gn : Nat} (h : hw J k = 1) (hg : Tk.cz R k 1 = (gn : Int) + 1) : ent R X J k = decide (rn R J ((gn : Int) + 1) k < X.getD gn 0) := by
  unfold ent
  have e : ((gn : Int) + 1 - 1).toNat = gn := by omega
  rw [hg, e, h]
  generalize X.getD gn 0 = x
  generalize rn R J ((gn : Int) + 1) k = y
  by_cases c : y < x
  · rw [decide_eq_true c]; simp; omega
  · rw [decide_eq_false c]; simp; omega
theorem ent_out {R : Tk.Ls} {X : List Int} {J : Jb.Ls} {k : Nat} (h : hw J k ≠ 1) : ent R X J k = true := by
  unfold ent
  have : (hw J k == 1) = false := by simpa using h
  rw [this]; rfl
/-- the tasks' row has turned -/
theorem Td.tbl {w : World} {tb : Nat} {R : Tk.Ls} {X : List Int} {h jb : Nat} {u a : Nat → Value} {P : Nat → Nat} {run : Int → Int} {st : Nat → Bool} {k : Nat} (t : Td w (tb + 1) R X h jb u a P run st k) (ht : Ty w tb 66) (i : Nat) (v : Value) : Td (w.setCell ⟨tb, i, none⟩ v) (tb + 1) R X h jb u a P run st k :=
  t.kb (kb_set w tb i v) (fun b hb e => hb.ne ht (by decide) e) (fun b hb e => hb.ne ht (by decide) e) (fun b hlo _ e => by have e' : b = tb := e; omega)

set_option maxHeartbeats 4000000 in
set_option maxRecDepth 20000 in
theorem tied_go (R : Tk.Ls) (X : List Int) (now : Int) (J : Jb.Ls) (vr vx vj : Value) (w : World) (hh : RR w vr vx vj R X J) (h1 : So.okS R X = true) (h2 : inn now 0 1000000000000 = true) (h3 : J.length = R.length) :
    Calls Try.prog 28 #[rv vr vx now vj] w fun e w' => TG w R X now J e w' := by
  obtain ⟨ar, cr, er⟩ := hh.1.form
  obtain ⟨ax, cx, ex⟩ := hh.2.1.form
  obtain ⟨aj, cj, ej⟩ := hh.2.2.form
  obtain ⟨w0, hw0⟩ : ∃ w0, w0 = (w.alloc (.cells #[vr, vx, .int .i64 now, vj] 30)).alloc (.cells #[nilS, nilS, .int .i64 0, nilS] 30) := ⟨_, rfl⟩
  have HW0 : Hid (w0 = (w.alloc (.cells #[vr, vx, .int .i64 now, vj] 30)).alloc (.cells #[nilS, nilS, .int .i64 0, nilS] 30)) := hw0
  have B0 : Hid (Below w.heap.size w w0) := (by show Below _ _ _; rw [hw0]; exact ((Below.refl _ _).alloc (Nat.le_refl _) _).alloc (by simp) _)
  have Y0 : Hid (Hd w0 w.heap.size vr vx now vj) := (by show Hd _ _ _ _ _ _; rw [hw0]; exact Hd.new w vr vx now vj)
  have Z0 : Hid (w0.heap.size = w.heap.size + 2) := (by show _ = _; rw [hw0]; simp)
  have fR := hh.1.fits
  have fJ := hh.2.2.fits
  have F := fit_of h1
  have n1 := F.r1
  have n60 := F.r60
  have m6 := F.x6
  have C1 : Hid (Calls Try.prog 35 #[Su.pv vr vx] w0 fun e w' => e = .returned (.bool (So.okS R X)) ∧ Below w0.heap.size w0 w') := So.isuite R X vr vx w0 (hh.1.on B0.out) (hh.2.1.on B0.out)
  rw [h1] at C1
  have IN : Hid (∀ w, Calls Try.prog 29 #[.int .i64 now, .int .i64 0, .int .i64 1000000000000] w fun e w' => e = .returned (.bool (inn now 0 1000000000000)) ∧ w' = w) := fun w => Lists.win_any now 0 1000000000000 w
  rw [h2] at IN
  have C2 : Hid (∀ W, Below w.heap.size w W → Calls Try.prog 36 #[Su.pv vr vx] W fun e w' => ∃ ra rc xa xc xs, e = .returned (Su.pv (.slice ra R.length rc) (.slice xa X.length xc)) ∧ SO w' W.heap.size (.slice ra R.length rc) (.slice xa X.length xc) xs R X ∧ Below W.heap.size W w') := fun W hb => (Cp.icopy_any R X vr vx W (hh.1.on hb) (hh.2.1.on hb) (by omega) (by omega) (fun i hi => by have := F.len i hi; omega) (by omega)).mono (by
    rintro e w' ⟨r, x, xs, rfl, g1, g3⟩
    obtain ⟨ra, rc, rfl⟩ := g1.reads.1.form
    obtain ⟨xa, xc, rfl⟩ := g1.reads.2.form
    exact ⟨ra, rc, xa, xc, xs, rfl, g1, g3⟩)
  have C3 : Hid (∀ W, Below w.heap.size w W → Calls Try.prog 44 #[vj] W fun e w' => ∃ g c, e = .returned (.slice (some ⟨g, 0, none⟩) J.length c) ∧ Jb.Row w' W.heap.size (.slice (some ⟨g, 0, none⟩) J.length c) J ∧ Below W.heap.size W w') := fun W hb => cloneJ_any w W hb vj J hh.2.2 (by omega) (by omega)
  subst er ex ej
  have HF : Hid (Fit R X) := F
  have HJ : Hid (J.length = R.length) := h3
  have HOK : Hid (So.okS R X = true ∧ inn now 0 1000000000000 = true) := ⟨h1, h2⟩
  have NXO : Hid (∀ wx r x nb jb jc xs v0 v1 v2 v3, (∃ ra rc, r = .slice ra R.length rc) → (∃ xa xc, x = .slice xa X.length xc) → Bl wx nb 30 #[v0, v1, v2, v3] → SO wx (w.heap.size + 2) r x xs R X → Jb.Row wx (w.heap.size + 2) (.slice (some ⟨jb, 0, none⟩) J.length jc) J → Hd wx w.heap.size (.slice ar R.length cr) (.slice ax X.length cx) now (.slice aj J.length cj) → Below w.heap.size w wx → w.heap.size + 2 ≤ nb →
    NX w R X now J (.slice ar R.length cr) (.slice ax X.length cx) (.slice aj J.length cj) (.pointer (some ⟨nb, 0, none⟩)) ((((wx.setCell ⟨nb, 0, none⟩ r).setCell ⟨nb, 1, none⟩ x).setCell ⟨nb, 2, none⟩ (.int .i64 now)).setCell ⟨nb, 3, none⟩ (.slice (some ⟨jb, 0, none⟩) J.length jc))) := fun wx r x nb jb jc xs v0 v1 v2 v3 a b c d e f g h => nx_of a b c d e f g h
  have h4 : ((J.length : Int) != (R.length : Int)) = false := by rw [h3]; simp
  obtain ⟨n, hn⟩ : ∃ n, R.length = n := ⟨_, rfl⟩
  obtain ⟨m, hm⟩ : ∃ m, X.length = m := ⟨_, rfl⟩
  obtain ⟨k, hk⟩ : ∃ k, J.length = k := ⟨_, rfl⟩
  have HN : Hid (R.length = n) := hn
  have HM : Hid (X.length = m) := hm
  have HKJ : Hid (J.length = k) := hk
  simp only [hn, hm, hk] at C1 C2 C3 Y0 HW0 NXO fR fJ n1 n60 m6 h4 ⊢
  clear hh hw0 F h3 h1 h2 hn hm hk
  have y0 := (Y0.out.arg.cell 0).trans rfl
  have y1 := (Y0.out.arg.cell 1).trans rfl
  go_enter Try.func28, Try.ntmps28
  go_wp2_with fail
  rw [← HW0.out]
  refine (Calls.mono C1.out) ?_
  rintro e w1 ⟨rfl, hb⟩
  have B1 : Hid (Below w.heap.size w w1) := B0.out.trans (hb.mono B0.out.size)
  have Y1 : Hid (Hd w1 w.heap.size (.slice ar n cr) (.slice ax m cx) now (.slice aj k cj)) := Y0.out.on hb
  have Z1 : Hid (w.heap.size + 2 ≤ w1.heap.size) := (by have := Z0.out; have := hb.size; show _ ≤ _; omega)
  clear y0 y1 hb HW0 Y0 C1
  have y0 := (Y1.out.arg.cell 0).trans rfl
  have y2 := (Y1.out.arg.cell 2).trans rfl
  have y3 := (Y1.out.arg.cell 3).trans rfl
  have l0 := Y1.out.arg.lt
  go_wp2_with fail
  refine (IN.out _).mono ?_
  rintro e w2 ⟨rfl, hw2⟩
  subst w2
  go_upto_region 3 with fail
  clear y0 y2 y3 l0
  go_cut [5] (fun x wx => Hid (NX w R X now J (.slice ar n cr) (.slice ax m cx) (.slice aj k cj) x wx))
  case first =>
    refine wp_region_held_drew (S := (fun w' => w'.cell? ⟨w.heap.size, 0, none⟩ = some (.slice ar n cr) ∧ w'.cell? ⟨w.heap.size, 1, none⟩ = some (.slice ax m cx) ∧ w'.cell? ⟨w.heap.size, 2, none⟩ = some (.int .i64 now) ∧ w'.cell? ⟨w.heap.size, 3, none⟩ = some (.slice aj k cj))) (by kernel_rfl) (by (try dsimp only); exact (Y1.out.on (Below.refl _ _).drew).s) (fun hHeld => ?_)
    refine wpAnyH_take (i := 0) (oi := { dst := some 34, op := Go.Op.fieldAddr 30 (Go.Operand.tmp 1) 0, type := 0, pos := "l24_suites.go:174", after := #[], guard := none }) (v := ?_) rfl (by kernel_rfl) (by kernel_rfl) (by kernel_rfl) (fun _ _ _ h => h) (Or.inl ⟨by rfl, ?_⟩) (by assumption) ?_
    rotate_left 1
    · (intro w hSw; (try dsimp only at hSw); go_simp); all_goals (with_reducible rfl)
    try simp only [Act.put, List.setIfInBounds_toArray, List.set_cons_zero, List.set_cons_succ]
    refine wpAnyH_take (i := 1) (oi := { dst := some 35, op := Go.Op.load 27 (Go.Operand.tmp 34), type := 27, pos := "l24_suites.go:174", after := #[{ on := 0, ground := Go.Ground.data }], guard := none }) (v := ?_) rfl (by kernel_rfl) (by kernel_rfl) (by kernel_rfl) (fun _ _ _ h => h) (Or.inl ⟨by rfl, ?_⟩) (by assumption) ?_
    rotate_left 1
    · (intro w hSw; (try dsimp only at hSw); go_simp); all_goals (with_reducible rfl)
    try simp only [Act.put, List.setIfInBounds_toArray, List.set_cons_zero, List.set_cons_succ]
    refine wpAnyH_take (i := 3) (oi := { dst := some 37, op := Go.Op.fieldAddr 30 (Go.Operand.tmp 1) 1, type := 0, pos := "l24_suites.go:174", after := #[], guard := none }) (v := ?_) rfl (by kernel_rfl) (by kernel_rfl) (by kernel_rfl) (fun _ _ _ h => h) (Or.inl ⟨by rfl, ?_⟩) (by assumption) ?_
    rotate_left 1
    · (intro w hSw; (try dsimp only at hSw); go_simp); all_goals (with_reducible rfl)
    try simp only [Act.put, List.setIfInBounds_toArray, List.set_cons_zero, List.set_cons_succ]
    refine wpAnyH_take (i := 4) (oi := { dst := some 38, op := Go.Op.load 2 (Go.Operand.tmp 37), type := 2, pos := "l24_suites.go:174", after := #[{ on := 3, ground := Go.Ground.data }], guard := none }) (v := ?_) rfl (by kernel_rfl) (by kernel_rfl) (by kernel_rfl) (fun _ _ _ h => h) (Or.inl ⟨by rfl, ?_⟩) (by assumption) ?_
    rotate_left 1
    · (intro w hSw; (try dsimp only at hSw); go_simp); all_goals (with_reducible rfl)
    try simp only [Act.put, List.setIfInBounds_toArray, List.set_cons_zero, List.set_cons_succ]
    refine wpAnyH_take (i := 5) (oi := { dst := some 39, op := Go.Op.fieldAddr 30 (Go.Operand.tmp 1) 2, type := 0, pos := "l24_suites.go:174", after := #[], guard := none }) (v := ?_) rfl (by kernel_rfl) (by kernel_rfl) (by kernel_rfl) (fun _ _ _ h => h) (Or.inl ⟨by rfl, ?_⟩) (by assumption) ?_
    rotate_left 1
    · (intro w hSw; (try dsimp only at hSw); go_simp); all_goals (with_reducible rfl)
    try simp only [Act.put, List.setIfInBounds_toArray, List.set_cons_zero, List.set_cons_succ]
    refine wpAnyH_take (i := 6) (oi := { dst := some 40, op := Go.Op.load 28 (Go.Operand.tmp 39), type := 28, pos := "l24_suites.go:174", after := #[{ on := 5, ground := Go.Ground.data }], guard := none }) (v := ?_) rfl (by kernel_rfl) (by kernel_rfl) (by kernel_rfl) (fun _ _ _ h => h) (Or.inl ⟨by rfl, ?_⟩) (by assumption) ?_
    rotate_left 1
    · (intro w hSw; (try dsimp only at hSw); go_simp); all_goals (with_reducible rfl)
    try simp only [Act.put, List.setIfInBounds_toArray, List.set_cons_zero, List.set_cons_succ]
    have Bv : Hid (Below w.heap.size w w1.drew) := B1.out.drew
    have Yv : Hid (Hd w1.drew w.heap.size (.slice ar n cr) (.slice ax m cx) now (.slice aj k cj)) := Y1.out.on (Below.refl _ _).drew
    have Zv : Hid (w.heap.size + 2 ≤ w1.drew.heap.size) := Z1.out
    generalize w1.drew = v at hHeld Bv Yv Zv ⊢
    refine wpAnyH_ready (rs := [2, 9]) (by kernel_rfl) (by simp) ?_
    refine AllReadyH.cons (o := { dst := some 36, op := Go.Op.call { callee := Go.Callee.value (Go.Operand.func 36), args := #[Go.Operand.tmp 35], argTypes := #[27] }, type := 27, pos := "l24_suites.go:174", after := #[{ on := 1, ground := Go.Ground.data }], guard := none }) rfl (fun K hK => ?_) (AllReadyH.cons (o := { dst := some 5, op := Go.Op.alloc 30, type := 0, pos := "l24_suites.go:174", after := #[], guard := none }) rfl (fun K hK => ?_) AllReadyH.nil)
    · go_simp
      refine (C2.out _ Bv.out).mono ?_
      rintro e v2 ⟨ra, rc, xa, xc, xs, rfl, p2, b2⟩
      go_wp2_with fail
      refine hK.out _ _ (by (try dsimp only); exact (Yv.out.on b2).s) (fun hHeld2 => ?_)
      clear hK K hHeld
      have hHeld := hHeld2
      clear hHeld2
      try simp only [Act.put, List.setIfInBounds_toArray, List.set_cons_zero, List.set_cons_succ]
      have Bv2 : Hid (Below w.heap.size w v2) := Bv.out.trans (b2.mono Bv.out.size)
      have Yv2 : Hid (Hd v2 w.heap.size (.slice ar n cr) (.slice ax m cx) now (.slice aj k cj)) := Yv.out.on b2
      have Zv2 : Hid (w.heap.size + 2 ≤ v2.heap.size) := Nat.le_trans Zv.out b2.size
      have Pv2 : Hid (SO v2 (w.heap.size + 2) (.slice ra n rc) (.slice xa m xc) xs R X) := so_down p2 Zv.out
      refine wpAnyH_ready (rs := [7, 9]) (by kernel_rfl) (by simp) ?_
      refine AllReadyH.cons (o := { dst := some 41, op := Go.Op.call { callee := Go.Callee.value (Go.Operand.func 44), args := #[Go.Operand.tmp 40], argTypes := #[28] }, type := 28, pos := "l24_suites.go:174", after := #[{ on := 6, ground := Go.Ground.data }, { on := 2, ground := Go.Ground.chain }], guard := none }) rfl (fun K hK => ?_) (AllReadyH.cons (o := { dst := some 5, op := Go.Op.alloc 30, type := 0, pos := "l24_suites.go:174", after := #[], guard := none }) rfl (fun K hK => ?_) AllReadyH.nil)
      · go_simp
        refine (C3.out _ Bv2.out).mono ?_
        rintro e v3 ⟨jb, jc, rfl, p3, b3⟩
        go_wp2_with fail
        refine hK.out _ _ (by (try dsimp only); exact (Yv2.out.on b3).s) (fun hHeld2 => ?_)
        clear hK K hHeld
        have hHeld := hHeld2
        clear hHeld2
        try simp only [Act.put, List.setIfInBounds_toArray, List.set_cons_zero, List.set_cons_succ]
        have Bv3 : Hid (Below w.heap.size w v3) := Bv2.out.trans (b3.mono Bv2.out.size)
        have Yv3 : Hid (Hd v3 w.heap.size (.slice ar n cr) (.slice ax m cx) now (.slice aj k cj)) := Yv2.out.on b3
        have Zv3 : Hid (w.heap.size + 2 ≤ v3.heap.size) := Nat.le_trans Zv2.out b3.size
        have Pv3 : Hid (SO v3 (w.heap.size + 2) (.slice ra n rc) (.slice xa m xc) xs R X) := Pv2.out.on b3
        have Qv3 : Hid (Jb.Row v3 (w.heap.size + 2) (.slice (some ⟨jb, 0, none⟩) k jc) J) := jr_down p3 Zv2.out
        refine wpAnyH_take (i := 8) (oi := { dst := some 42, op := Go.Op.build 30 #[(0, Go.Operand.tmp 36), (1, Go.Operand.tmp 38), (2, Go.Operand.tmp 41)], type := 30, pos := "l24_suites.go:174", after := #[{ on := 2, ground := Go.Ground.data }, { on := 4, ground := Go.Ground.data }, { on := 7, ground := Go.Ground.data }], guard := none }) (v := ?_) rfl (by kernel_rfl) (by kernel_rfl) (by kernel_rfl) (fun _ _ _ h => h) (Or.inl ⟨by rfl, ?_⟩) (by assumption) ?_
        rotate_left 1
        · (intro w hSw; (try dsimp only at hSw); go_simp); all_goals (with_reducible rfl)
        try simp only [Act.put, List.setIfInBounds_toArray, List.set_cons_zero, List.set_cons_succ]
        refine wpAnyH_ready (rs := [9]) (by kernel_rfl) (by simp) ?_
        refine AllReadyH.cons (o := { dst := some 5, op := Go.Op.alloc 30, type := 0, pos := "l24_suites.go:174", after := #[], guard := none }) rfl (fun K hK => ?_) AllReadyH.nil
        go_simp
        refine hK.out _ _ (by (try dsimp only); exact (Yv3.out.on ((Below.refl _ _).alloc (Nat.le_refl _) (.cells z35 30))).s) (fun hHeld2 => ?_)
        clear hK K hHeld
        have hHeld := hHeld2
        clear hHeld2
        try simp only [Act.put, List.setIfInBounds_toArray, List.set_cons_zero, List.set_cons_succ]
        have bA : Below v3.heap.size v3 (v3.alloc (.cells z35 30)) := (Below.refl _ _).alloc (Nat.le_refl _) _
        have Nv4 : Hid (Bl (v3.alloc (.cells z35 30)) v3.heap.size 30 z35) := Bl.new v3 30 z35
        have Bv4 : Hid (Below w.heap.size w (v3.alloc (.cells z35 30))) := Bv3.out.trans (bA.mono Bv3.out.size)
        have Yv4 : Hid (Hd (v3.alloc (.cells z35 30)) w.heap.size (.slice ar n cr) (.slice ax m cx) now (.slice aj k cj)) := Yv3.out.on bA
        have Zv4 : Hid (w.heap.size + 2 ≤ (v3.alloc (.cells z35 30)).heap.size) := Nat.le_trans Zv3.out bA.size
        have Pv4 : Hid (SO (v3.alloc (.cells z35 30)) (w.heap.size + 2) (.slice ra n rc) (.slice xa m xc) xs R X) := Pv3.out.on bA
        have Qv4 : Hid (Jb.Row (v3.alloc (.cells z35 30)) (w.heap.size + 2) (.slice (some ⟨jb, 0, none⟩) k jc) J) := Qv3.out.on bA
        have NB : Hid (w.heap.size + 2 ≤ v3.heap.size) := Zv3.out
        clear bA
        generalize v3.alloc (.cells z35 30) = v4 at hHeld Nv4 Bv4 Yv4 Zv4 Pv4 Qv4 ⊢
        generalize v3.heap.size = nb at NB Nv4 ⊢
        refine wpAnyH_ready (rs := [10]) (by kernel_rfl) (by simp) ?_
        refine AllReadyH.cons (o := { dst := none, op := Go.Op.store 30 (Go.Operand.tmp 5) (Go.Operand.tmp 42), type := 0, pos := "l24_suites.go:174", after := #[{ on := 9, ground := Go.Ground.data }, { on := 8, ground := Go.Ground.data }, { on := 7, ground := Go.Ground.chain }, { on := 0, ground := Go.Ground.phase }, { on := 1, ground := Go.Ground.phase }, { on := 2, ground := Go.Ground.phase }, { on := 3, ground := Go.Ground.phase }, { on := 4, ground := Go.Ground.phase }, { on := 5, ground := Go.Ground.phase }, { on := 6, ground := Go.Ground.phase }, { on := 7, ground := Go.Ground.phase }, { on := 8, ground := Go.Ground.phase }, { on := 9, ground := Go.Ground.phase }], guard := none }) rfl (fun K hK => ?_) AllReadyH.nil
        have c0 := (Nv4.out.cell 0).trans rfl
        have g0 := Nv4.out.fz 0
        have c1 := (Nv4.out.cell 1).trans rfl
        have g1 := Nv4.out.fz 1
        have c2 := (Nv4.out.cell 2).trans rfl
        have g2 := Nv4.out.fz 2
        have c3 := (Nv4.out.cell 3).trans rfl
        have g3 := Nv4.out.fz 3
        have nn : NX w R X now J (.slice ar n cr) (.slice ax m cx) (.slice aj k cj) (.pointer (some ⟨nb, 0, none⟩)) ((((v4.setCell ⟨nb, 0, none⟩ (.slice ra n rc)).setCell ⟨nb, 1, none⟩ (.slice xa m xc)).setCell ⟨nb, 2, none⟩ (.int .i64 now)).setCell ⟨nb, 3, none⟩ (.slice (some ⟨jb, 0, none⟩) k jc)) := NXO.out _ _ _ _ _ _ _ _ _ _ _ ⟨_, _, rfl⟩ ⟨_, _, rfl⟩ Nv4.out Pv4.out Qv4.out Yv4.out Bv4.out NB.out
        have NN := nn.hid
        go_simp
        refine hK.out _ _ (by (try dsimp only); exact (nx_hd nn).s) (fun hHeld2 => ?_)
        clear hK K hHeld
        have hHeld := hHeld2
        clear hHeld2
        try simp only [Act.put, List.setIfInBounds_toArray, List.set_cons_zero, List.set_cons_succ]
        refine wpAnyH_done (by kernel_rfl) ?_ _
        clear c0 c1 c2 c3 g0 g1 g2 g3 nn
        go_wp2_with fail
        go_meet
        exact NN
      · go_simp
        refine hK.out _ _ (by (try dsimp only); exact (Yv2.out.on ((Below.refl _ _).alloc (Nat.le_refl _) (.cells z35 30))).s) (fun hHeld2 => ?_)
        clear hK K hHeld
        have hHeld := hHeld2
        clear hHeld2
        try simp only [Act.put, List.setIfInBounds_toArray, List.set_cons_zero, List.set_cons_succ]
        have bA : Below v2.heap.size v2 (v2.alloc (.cells z35 30)) := (Below.refl _ _).alloc (Nat.le_refl _) _
        have Nv3 : Hid (Bl (v2.alloc (.cells z35 30)) v2.heap.size 30 z35) := Bl.new v2 30 z35
        have Bv3 : Hid (Below w.heap.size w (v2.alloc (.cells z35 30))) := Bv2.out.trans (bA.mono Bv2.out.size)
        have Yv3 : Hid (Hd (v2.alloc (.cells z35 30)) w.heap.size (.slice ar n cr) (.slice ax m cx) now (.slice aj k cj)) := Yv2.out.on bA
        have Zv3 : Hid (w.heap.size + 2 ≤ (v2.alloc (.cells z35 30)).heap.size) := Nat.le_trans Zv2.out bA.size
        have Pv3 : Hid (SO (v2.alloc (.cells z35 30)) (w.heap.size + 2) (.slice ra n rc) (.slice xa m xc) xs R X) := Pv2.out.on bA
        have NB : Hid (w.heap.size + 2 ≤ v2.heap.size) := Zv2.out
        clear bA
        generalize v2.alloc (.cells z35 30) = v3 at hHeld Nv3 Bv3 Yv3 Zv3 Pv3 ⊢
        generalize v2.heap.size = nb at NB Nv3 ⊢
        refine wpAnyH_ready (rs := [7]) (by kernel_rfl) (by simp) ?_
        refine AllReadyH.cons (o := { dst := some 41, op := Go.Op.call { callee := Go.Callee.value (Go.Operand.func 44), args := #[Go.Operand.tmp 40], argTypes := #[28] }, type := 28, pos := "l24_suites.go:174", after := #[{ on := 6, ground := Go.Ground.data }, { on := 2, ground := Go.Ground.chain }], guard := none }) rfl (fun K hK => ?_) AllReadyH.nil
        go_simp
        refine (C3.out _ Bv3.out).mono ?_
        rintro e v4 ⟨jb, jc, rfl, p3, b3⟩
        go_wp2_with fail
        refine hK.out _ _ (by (try dsimp only); exact (Yv3.out.on b3).s) (fun hHeld2 => ?_)
        clear hK K hHeld
        have hHeld := hHeld2
        clear hHeld2
        try simp only [Act.put, List.setIfInBounds_toArray, List.set_cons_zero, List.set_cons_succ]
        have Bv4 : Hid (Below w.heap.size w v4) := Bv3.out.trans (b3.mono Bv3.out.size)
        have Yv4 : Hid (Hd v4 w.heap.size (.slice ar n cr) (.slice ax m cx) now (.slice aj k cj)) := Yv3.out.on b3
        have Zv4 : Hid (w.heap.size + 2 ≤ v4.heap.size) := Nat.le_trans Zv3.out b3.size
        have Pv4 : Hid (SO v4 (w.heap.size + 2) (.slice ra n rc) (.slice xa m xc) xs R X) := Pv3.out.on b3
        have Qv4 : Hid (Jb.Row v4 (w.heap.size + 2) (.slice (some ⟨jb, 0, none⟩) k jc) J) := jr_down p3 Zv3.out
        have Nv4 : Hid (Bl v4 nb 30 z35) := Nv3.out.on b3
        refine wpAnyH_take (i := 8) (oi := { dst := some 42, op := Go.Op.build 30 #[(0, Go.Operand.tmp 36), (1, Go.Operand.tmp 38), (2, Go.Operand.tmp 41)], type := 30, pos := "l24_suites.go:174", after := #[{ on := 2, ground := Go.Ground.data }, { on := 4, ground := Go.Ground.data }, { on := 7, ground := Go.Ground.data }], guard := none }) (v := ?_) rfl (by kernel_rfl) (by kernel_rfl) (by kernel_rfl) (fun _ _ _ h => h) (Or.inl ⟨by rfl, ?_⟩) (by assumption) ?_
        rotate_left 1
        · (intro w hSw; (try dsimp only at hSw); go_simp); all_goals (with_reducible rfl)
        try simp only [Act.put, List.setIfInBounds_toArray, List.set_cons_zero, List.set_cons_succ]
        refine wpAnyH_ready (rs := [10]) (by kernel_rfl) (by simp) ?_
        refine AllReadyH.cons (o := { dst := none, op := Go.Op.store 30 (Go.Operand.tmp 5) (Go.Operand.tmp 42), type := 0, pos := "l24_suites.go:174", after := #[{ on := 9, ground := Go.Ground.data }, { on := 8, ground := Go.Ground.data }, { on := 7, ground := Go.Ground.chain }, { on := 0, ground := Go.Ground.phase }, { on := 1, ground := Go.Ground.phase }, { on := 2, ground := Go.Ground.phase }, { on := 3, ground := Go.Ground.phase }, { on := 4, ground := Go.Ground.phase }, { on := 5, ground := Go.Ground.phase }, { on := 6, ground := Go.Ground.phase }, { on := 7, ground := Go.Ground.phase }, { on := 8, ground := Go.Ground.phase }, { on := 9, ground := Go.Ground.phase }], guard := none }) rfl (fun K hK => ?_) AllReadyH.nil
        have c0 := (Nv4.out.cell 0).trans rfl
        have g0 := Nv4.out.fz 0
        have c1 := (Nv4.out.cell 1).trans rfl
        have g1 := Nv4.out.fz 1
        have c2 := (Nv4.out.cell 2).trans rfl
        have g2 := Nv4.out.fz 2
        have c3 := (Nv4.out.cell 3).trans rfl
        have g3 := Nv4.out.fz 3
        have nn : NX w R X now J (.slice ar n cr) (.slice ax m cx) (.slice aj k cj) (.pointer (some ⟨nb, 0, none⟩)) ((((v4.setCell ⟨nb, 0, none⟩ (.slice ra n rc)).setCell ⟨nb, 1, none⟩ (.slice xa m xc)).setCell ⟨nb, 2, none⟩ (.int .i64 now)).setCell ⟨nb, 3, none⟩ (.slice (some ⟨jb, 0, none⟩) k jc)) := NXO.out _ _ _ _ _ _ _ _ _ _ _ ⟨_, _, rfl⟩ ⟨_, _, rfl⟩ Nv4.out Pv4.out Qv4.out Yv4.out Bv4.out NB.out
        have NN := nn.hid
        go_simp
        refine hK.out _ _ (by (try dsimp only); exact (nx_hd nn).s) (fun hHeld2 => ?_)
        clear hK K hHeld
        have hHeld := hHeld2
        clear hHeld2
        try simp only [Act.put, List.setIfInBounds_toArray, List.set_cons_zero, List.set_cons_succ]
        refine wpAnyH_done (by kernel_rfl) ?_ _
        clear c0 c1 c2 c3 g0 g1 g2 g3 nn
        go_wp2_with fail
        go_meet
        exact NN
    · go_simp
      refine hK.out _ _ (by (try dsimp only); exact (Yv.out.on ((Below.refl _ _).alloc (Nat.le_refl _) (.cells z35 30))).s) (fun hHeld2 => ?_)
      clear hK K hHeld
      have hHeld := hHeld2
      clear hHeld2
      try simp only [Act.put, List.setIfInBounds_toArray, List.set_cons_zero, List.set_cons_succ]
      have bA : Below v.heap.size v (v.alloc (.cells z35 30)) := (Below.refl _ _).alloc (Nat.le_refl _) _
      have Nv2 : Hid (Bl (v.alloc (.cells z35 30)) v.heap.size 30 z35) := Bl.new v 30 z35
      have Bv2 : Hid (Below w.heap.size w (v.alloc (.cells z35 30))) := Bv.out.trans (bA.mono Bv.out.size)
      have Yv2 : Hid (Hd (v.alloc (.cells z35 30)) w.heap.size (.slice ar n cr) (.slice ax m cx) now (.slice aj k cj)) := Yv.out.on bA
      have Zv2 : Hid (w.heap.size + 2 ≤ (v.alloc (.cells z35 30)).heap.size) := Nat.le_trans Zv.out bA.size
      have NB : Hid (w.heap.size + 2 ≤ v.heap.size) := Zv.out
      clear bA
      generalize v.alloc (.cells z35 30) = v2 at hHeld Nv2 Bv2 Yv2 Zv2 ⊢
      generalize v.heap.size = nb at NB Nv2 ⊢
      refine wpAnyH_ready (rs := [2]) (by kernel_rfl) (by simp) ?_
      refine AllReadyH.cons (o := { dst := some 36, op := Go.Op.call { callee := Go.Callee.value (Go.Operand.func 36), args := #[Go.Operand.tmp 35], argTypes := #[27] }, type := 27, pos := "l24_suites.go:174", after := #[{ on := 1, ground := Go.Ground.data }], guard := none }) rfl (fun K hK => ?_) AllReadyH.nil
      go_simp
      refine (C2.out _ Bv2.out).mono ?_
      rintro e v3 ⟨ra, rc, xa, xc, xs, rfl, p2, b2⟩
      go_wp2_with fail
      refine hK.out _ _ (by (try dsimp only); exact (Yv2.out.on b2).s) (fun hHeld2 => ?_)
      clear hK K hHeld
      have hHeld := hHeld2
      clear hHeld2
      try simp only [Act.put, List.setIfInBounds_toArray, List.set_cons_zero, List.set_cons_succ]
      have Bv3 : Hid (Below w.heap.size w v3) := Bv2.out.trans (b2.mono Bv2.out.size)
      have Yv3 : Hid (Hd v3 w.heap.size (.slice ar n cr) (.slice ax m cx) now (.slice aj k cj)) := Yv2.out.on b2
      have Zv3 : Hid (w.heap.size + 2 ≤ v3.heap.size) := Nat.le_trans Zv2.out b2.size
      have Pv3 : Hid (SO v3 (w.heap.size + 2) (.slice ra n rc) (.slice xa m xc) xs R X) := so_down p2 Zv2.out
      have Nv3 : Hid (Bl v3 nb 30 z35) := Nv2.out.on b2
      refine wpAnyH_ready (rs := [7]) (by kernel_rfl) (by simp) ?_
      refine AllReadyH.cons (o := { dst := some 41, op := Go.Op.call { callee := Go.Callee.value (Go.Operand.func 44), args := #[Go.Operand.tmp 40], argTypes := #[28] }, type := 28, pos := "l24_suites.go:174", after := #[{ on := 6, ground := Go.Ground.data }, { on := 2, ground := Go.Ground.chain }], guard := none }) rfl (fun K hK => ?_) AllReadyH.nil
      go_simp
      refine (C3.out _ Bv3.out).mono ?_
      rintro e v4 ⟨jb, jc, rfl, p3, b3⟩
      go_wp2_with fail
      refine hK.out _ _ (by (try dsimp only); exact (Yv3.out.on b3).s) (fun hHeld2 => ?_)
      clear hK K hHeld
      have hHeld := hHeld2
      clear hHeld2
      try simp only [Act.put, List.setIfInBounds_toArray, List.set_cons_zero, List.set_cons_succ]
      have Bv4 : Hid (Below w.heap.size w v4) := Bv3.out.trans (b3.mono Bv3.out.size)
      have Yv4 : Hid (Hd v4 w.heap.size (.slice ar n cr) (.slice ax m cx) now (.slice aj k cj)) := Yv3.out.on b3
      have Zv4 : Hid (w.heap.size + 2 ≤ v4.heap.size) := Nat.le_trans Zv3.out b3.size
      have Pv4 : Hid (SO v4 (w.heap.size + 2) (.slice ra n rc) (.slice xa m xc) xs R X) := Pv3.out.on b3
      have Qv4 : Hid (Jb.Row v4 (w.heap.size + 2) (.slice (some ⟨jb, 0, none⟩) k jc) J) := jr_down p3 Zv3.out
      have Nv4 : Hid (Bl v4 nb 30 z35) := Nv3.out.on b3
      refine wpAnyH_take (i := 8) (oi := { dst := some 42, op := Go.Op.build 30 #[(0, Go.Operand.tmp 36), (1, Go.Operand.tmp 38), (2, Go.Operand.tmp 41)], type := 30, pos := "l24_suites.go:174", after := #[{ on := 2, ground := Go.Ground.data }, { on := 4, ground := Go.Ground.data }, { on := 7, ground := Go.Ground.data }], guard := none }) (v := ?_) rfl (by kernel_rfl) (by kernel_rfl) (by kernel_rfl) (fun _ _ _ h => h) (Or.inl ⟨by rfl, ?_⟩) (by assumption) ?_
      rotate_left 1
      · (intro w hSw; (try dsimp only at hSw); go_simp); all_goals (with_reducible rfl)
      try simp only [Act.put, List.setIfInBounds_toArray, List.set_cons_zero, List.set_cons_succ]
      refine wpAnyH_ready (rs := [10]) (by kernel_rfl) (by simp) ?_
      refine AllReadyH.cons (o := { dst := none, op := Go.Op.store 30 (Go.Operand.tmp 5) (Go.Operand.tmp 42), type := 0, pos := "l24_suites.go:174", after := #[{ on := 9, ground := Go.Ground.data }, { on := 8, ground := Go.Ground.data }, { on := 7, ground := Go.Ground.chain }, { on := 0, ground := Go.Ground.phase }, { on := 1, ground := Go.Ground.phase }, { on := 2, ground := Go.Ground.phase }, { on := 3, ground := Go.Ground.phase }, { on := 4, ground := Go.Ground.phase }, { on := 5, ground := Go.Ground.phase }, { on := 6, ground := Go.Ground.phase }, { on := 7, ground := Go.Ground.phase }, { on := 8, ground := Go.Ground.phase }, { on := 9, ground := Go.Ground.phase }], guard := none }) rfl (fun K hK => ?_) AllReadyH.nil
      have c0 := (Nv4.out.cell 0).trans rfl
      have g0 := Nv4.out.fz 0
      have c1 := (Nv4.out.cell 1).trans rfl
      have g1 := Nv4.out.fz 1
      have c2 := (Nv4.out.cell 2).trans rfl
      have g2 := Nv4.out.fz 2
      have c3 := (Nv4.out.cell 3).trans rfl
      have g3 := Nv4.out.fz 3
      have nn : NX w R X now J (.slice ar n cr) (.slice ax m cx) (.slice aj k cj) (.pointer (some ⟨nb, 0, none⟩)) ((((v4.setCell ⟨nb, 0, none⟩ (.slice ra n rc)).setCell ⟨nb, 1, none⟩ (.slice xa m xc)).setCell ⟨nb, 2, none⟩ (.int .i64 now)).setCell ⟨nb, 3, none⟩ (.slice (some ⟨jb, 0, none⟩) k jc)) := NXO.out _ _ _ _ _ _ _ _ _ _ _ ⟨_, _, rfl⟩ ⟨_, _, rfl⟩ Nv4.out Pv4.out Qv4.out Yv4.out Bv4.out NB.out
      have NN := nn.hid
      go_simp
      refine hK.out _ _ (by (try dsimp only); exact (nx_hd nn).s) (fun hHeld2 => ?_)
      clear hK K hHeld
      have hHeld := hHeld2
      clear hHeld2
      try simp only [Act.put, List.setIfInBounds_toArray, List.set_cons_zero, List.set_cons_succ]
      refine wpAnyH_done (by kernel_rfl) ?_ _
      clear c0 c1 c2 c3 g0 g1 g2 g3 nn
      go_wp2_with fail
      go_meet
      exact NN
  case rest =>
    obtain ⟨w5, hq⟩ : ∃ q : World, q = wc := ⟨_, rfl⟩
    subst hq
    have kn : n = k := by rw [← HKJ.out, ← HN.out]; exact HJ.out.symm
    subst kn
    obtain ⟨nb, ra, rc, xa, xc, jb, jc, xs, hv5, q1, q2, q3, q4, q5⟩ := hcut.out
    rw [HN.out, HM.out, HKJ.out] at q1 q2
    subst hv5
    obtain ⟨rb, erb⟩ : ∃ rb, ra = some ⟨rb, 0, none⟩ := by
      rcases Tk.row_cases q2.1.1.1 with ⟨hz, _⟩ | ⟨g, cap, hg, _⟩
      · rw [HN.out] at hz; omega
      · simp at hg; exact ⟨g, hg.1⟩
    subst erb
    have XR : Hid (∀ W, Below w5.heap.size w5 W → Lists.Reads W (.slice xa m xc) X) := fun W hb => (Lists.reads_row q2.1.2.1).on hb
    have GR : Hid (∀ W, Lists.Reads W (.slice xa m xc) X → Calls Try.prog 45 #[.slice xa m xc] W fun e w' => e = .returned (.slice (some ⟨W.heap.size, 0, none⟩) m m) ∧ w'.ownsRow W.heap.size 63 1 (.slice (some ⟨W.heap.size, 0, none⟩) m m) m (gptrs W.heap.size m) ∧ (∀ g, g < m → Bl w' (W.heap.size + 1 + g) 99 (gcs (X.getD g 0) 0)) ∧ w'.heap.size = W.heap.size + 1 + m ∧ Below W.heap.size W w') := fun W hR => by
      have := groups_any X (.slice xa m xc) W hR (by rw [HM.out]; exact m6)
      rw [HM.out] at this
      exact this
    have b1 := (q1.cell 1).trans rfl
    have L5 : Hid (w.heap.size + 2 ≤ w5.heap.size) := (by have := q1.lt; show _ ≤ _; omega)
    go_wp2_with fail
    refine (GR.out _ (XR.out _ (Below.refl _ _))).mono ?_
    rintro e w6 ⟨rfl, g1, g2, g3, g4⟩
    obtain ⟨h, eh⟩ : ∃ h, h = w5.heap.size := ⟨_, rfl⟩
    have HEH : Hid (h = w5.heap.size) := eh
    rw [← eh] at g1 g2 g3 L5
    have Q1 : Bl w6 nb 30 _ := q1.on g4
    have Q2 := q2.on g4
    have Q3 := q3.on g4
    have Q4 : Below w.heap.size w w6 := q4.trans (g4.mono (by have := L5.out; omega))
    -- the tasks' row
    obtain ⟨i0, hi, hz0, hz1, hz2⟩ := info_parts Try.info66
    obtain ⟨ZC, hZC⟩ : ∃ ZC, ZC = madeCells (Value.pointer none).cells (n * 1) := ⟨_, rfl⟩
    have hmk : ∀ w, (Instr.makeSlice 59 (.int .i64 (n : Int)) (.int .i64 (n : Int))).run Try.prog w = .ok (.slice (some ⟨w.heap.size, 0, none⟩) n n) (w.alloc (.cells ZC 66)) := fun w => by
      have := run_make (P := Try.prog) w 59 66 i0 (.pointer none) Try.underlying59 hi hz0 .i64 .i64 (n : Int) (n : Int) (by omega) (Int.le_refl _) (by rw [hz2]; omega) (by omega)
      rw [hz1] at this
      simp only [Int.toNat_natCast] at this
      rw [hZC]
      exact this
    obtain ⟨w7, hw7⟩ : ∃ y, y = w6.alloc (.cells ZC 66) := ⟨_, rfl⟩
    have HW7 : Hid (w7 = w6.alloc (.cells ZC 66)) := hw7
    obtain ⟨tb, etb⟩ : ∃ tb, tb = w6.heap.size := ⟨_, rfl⟩
    have HTB : Hid (tb = w6.heap.size) := etb
    have bA : Below w6.heap.size w6 w7 := by rw [hw7]; exact (Below.refl _ _).alloc (Nat.le_refl _) _
    have L0 : Hid (LS w R X now J (.slice ar n cr) (.slice ax m cx) (.slice aj n cj) nb (.slice (some ⟨rb, 0, none⟩) n rc) (.slice xa m xc) jb jc xs h tb (fun _ => 0) 0 w7) := (by
      show LS _ _ _ _ _ _ _ _ _ _ _ _ _ _ _ _ _ _ _
      have hl : ZC.size = n * 1 := by rw [hZC]; simp [madeCells]
      have L5' := L5.out
      exact { box := by rw [HKJ.out]; exact Q1.on bA
              ro := by rw [HKJ.out]; exact Q2.on bA
              hd := Q3.on bA
              bel := Q4.trans (bA.mono (by omega))
              nbl := q5
              hl := L5'
              tl := by omega
              grow := by rw [HM.out]; exact Tk.row_below (World.ownsRow.mono g1 L5') bA
              trow := by
                rw [HN.out]
                refine ⟨by simp [tmid], Or.inr ⟨tb, n, ZC, rfl, by omega, by rw [hw7, etb]; exact Bl.new w6 66 ZC, Nat.le_refl _, by unfold maxLen; omega, hl, ?_⟩⟩
                rw [← tmid_zero (fun _ => 0) n, ← hZC]
                exact List.take_of_length_le (by simp [hl]) })
    have T0 : Hid (Td w7 (tb + 1) R X h jb (fun _ => nilS) (fun _ => nilS) (fun _ => 0) (fun g => rn R J g 0) (fun _ => false) 0) := ⟨fun i hi => absurd hi (by omega), fun i hi => absurd hi (by omega), fun g hg => (g2 g (by rw [← HM.out]; exact hg)).on bA, fun i hi => absurd hi (by omega), fun i j _ hj => absurd hj (by omega)⟩
    have c3 := (Q1.cell 3).trans rfl
    clear hw7 etb bA hZC g1 g2 g3 g4 eh q1 q2 q3 q4 b1 Q1 Q2 Q3 Q4
    go_upto_region 6 with fail
    rw [← HW7.out, ← HTB.out, ← HEH.out]
    clear HW7 HTB HEH hmk c3 XR GR L5 B1 Y1 Z1 NXO C2 C3 IN B0 Z0 hcut q5
    have RC : Hid (∀ wr P k, LS w R X now J (.slice ar n cr) (.slice ax m cx) (.slice aj n cj) nb (.slice (some ⟨rb, 0, none⟩) n rc) (.slice xa m xc) jb jc xs h tb P k wr → ∀ i, i < n → ∃ u, wr.cell? ⟨rb, i * 4, none⟩ = some u ∧ wr.cell? ⟨rb, i * 4 + 1, none⟩ = some (.int .i64 (Tk.cz R i 1)) ∧ wr.cell? ⟨rb, i * 4 + 2, none⟩ = some (.int .i64 (Tk.cz R i 2)) ∧ wr.cell? ⟨rb, i * 4 + 3, none⟩ = some (.int .i64 (Tk.cz R i 3)) ∧ Lists.Reads wr u (Tk.cl R i)) := fun wr P k t i hi => by
      have hi' : i < R.length := by rw [HN.out]; exact hi
      obtain ⟨z1, z2, z3, u, z0, zr⟩ := t.ro.1.1.2.1 i hi'
      have row := t.ro.1.1.1
      rw [HN.out] at row
      exact ⟨u, (row.cellAt _ (by omega)).trans z0, (row.cellAt _ (by omega)).trans z1, (row.cellAt _ (by omega)).trans z2, (row.cellAt _ (by omega)).trans z3, Lists.reads_row zr⟩
    have r0 := (L0.out.box.cell 0).trans rfl
    go_wp2_with fail
    go_loopw [55] (fun c wr => ∃ (k : Nat) (P : Nat → Nat) (u a : Nat → Value), k ≤ n ∧ c = .int .i64 k ∧ Hid (LS w R X now J (.slice ar n cr) (.slice ax m cx) (.slice aj n cj) nb (.slice (some ⟨rb, 0, none⟩) n rc) (.slice xa m xc) jb jc xs h tb P k wr) ∧ Hid (Td wr (tb + 1) R X h jb u a P (fun g => rn R J g k) (fun _ => false) k) ∧ Hid (∀ i, i < k → jk R J i = true ∧ ent R X J i = true)) (fun c _ => n - (intOf c).toNat)
    case atStart => exact ⟨0, _, _, _, Nat.zero_le _, rfl, L0, T0, fun i hi => absurd hi (by omega)⟩
    case round =>
      clear L0 T0 r0
      obtain ⟨k, P, u, a, hk, rfl, L, T, OK⟩ := hrel
      by_cases hlt : k < n
      · obtain ⟨uk, e0, e1, e2, e3, ur⟩ := RC.out wr P k L.out k hlt
        have UR : Hid (Lists.Reads wr uk (Tk.cl R k)) := ur
        have hkR : k < R.length := by rw [HN.out]; exact hlt
        have fg := HF.out.grp k hkR
        have fm := HF.out.most k hkR
        rw [HM.out] at fg
        have c3 := (L.out.box.cell 3).trans rfl
        rw [HKJ.out] at c3
        have gq : (Tk.cz R k 1 - 1).toNat < m := by omega
        have gc : wr.cell? ⟨h, (Tk.cz R k 1 - 1).toNat, none⟩ = some (.pointer (some ⟨h + 1 + (Tk.cz R k 1 - 1).toNat, 0, none⟩)) := (by
          have := L.out.grow
          rw [HM.out] at this
          exact (this.cellAt _ (by omega)).trans (gptrs_at h m _ gq))
        obtain ⟨ua, uc, euk⟩ := ur.form
        subst euk
        obtain ⟨gn, hgz⟩ : ∃ z : Nat, Tk.cz R k 1 = (z : Int) + 1 := ⟨(Tk.cz R k 1 - 1).toNat, by omega⟩
        have hgn : (Tk.cz R k 1 - 1).toNat = gn := by omega
        rw [hgn] at gc gq
        obtain ⟨lz, hlz⟩ : ∃ z, Tk.cz R k 2 = z := ⟨_, rfl⟩
        obtain ⟨mz, hmz⟩ : ∃ z, Tk.cz R k 3 = z := ⟨_, rfl⟩
        have HGZ : Hid (Tk.cz R k 1 = (gn : Int) + 1 ∧ Tk.cz R k 2 = lz ∧ Tk.cz R k 3 = mz) := ⟨hgz, hlz, hmz⟩
        rw [hgz] at e1 fg
        rw [hlz] at e2
        rw [hmz] at e3 fm
        obtain ⟨ln, hln⟩ : ∃ ln, (Tk.cl R k).length = ln := ⟨_, rfl⟩
        have HLN : Hid ((Tk.cl R k).length = ln) := hln
        have f60 : ln ≤ 60 := by rw [← hln]; exact HF.out.len k hkR
        rw [hln] at e0 UR
        clear ur hgn hgz hlz hmz hln
        have w2 : (0 : Int) ≤ (gn : Int) := by omega
        have w3 : (gn : Int) < (m : Int) := by omega
        have i0' : (0 : Int) ≤ (k : Int) := by omega
        have i1 : (k : Int) < (n : Int) := by omega
        have nl := L.out.box.lt
        have hl' := (row_ty L.out.grow h rfl).lt
        have rl := (row_ty L.out.ro.1.1.1 rb rfl).lt
        have nne : ¬ nb = wr.heap.size := by omega
        have hne : ¬ h = wr.heap.size := by omega
        go_wp2_with fail
        go_region
        go_upto_region 10 with fail
        obtain ⟨w9, hw9⟩ : ∃ y, y = ((wr.alloc (.cells #[.slice ua ln uc, .int .i64 ((gn : Int) + 1), .int .i64 lz, .int .i64 mz] 50)).alloc (.cells #[.int .i64 ((k : Int) + 1), .slice ua ln uc, .int .i64 ((gn : Int) + 1), .int .i64 lz, .int .i64 mz, .pointer (some ⟨jb, k * 2, none⟩), nilS, .pointer (some ⟨h + 1 + gn, 0, none⟩), .bool false] 65)).drew := ⟨_, rfl⟩
        have HW9 : Hid (w9 = ((wr.alloc (.cells #[.slice ua ln uc, .int .i64 ((gn : Int) + 1), .int .i64 lz, .int .i64 mz] 50)).alloc (.cells #[.int .i64 ((k : Int) + 1), .slice ua ln uc, .int .i64 ((gn : Int) + 1), .int .i64 lz, .int .i64 mz, .pointer (some ⟨jb, k * 2, none⟩), nilS, .pointer (some ⟨h + 1 + gn, 0, none⟩), .bool false] 65)).drew) := hw9
        obtain ⟨p, hp⟩ : ∃ p, p = wr.heap.size + 1 := ⟨_, rfl⟩
        have HP : Hid (p = wr.heap.size + 1) := hp
        have B9 : Hid (Below wr.heap.size wr w9) := (by show Below _ _ _; rw [hw9]; exact (((Below.refl _ _).alloc (Nat.le_refl _) _).alloc (by simp) _).drew)
        have P9 : Hid (Bl w9 p 65 #[.int .i64 ((k : Int) + 1), .slice ua ln uc, .int .i64 ((gn : Int) + 1), .int .i64 lz, .int .i64 mz, .pointer (some ⟨jb, k * 2, none⟩), nilS, .pointer (some ⟨h + 1 + gn, 0, none⟩), .bool false]) := (by
          show Bl _ _ _ _
          rw [hw9, hp]
          have := Bl.new (wr.alloc (.cells #[.slice ua ln uc, .int .i64 ((gn : Int) + 1), .int .i64 lz, .int .i64 mz] 50)) 65 #[.int .i64 ((k : Int) + 1), .slice ua ln uc, .int .i64 ((gn : Int) + 1), .int .i64 lz, .int .i64 mz, .pointer (some ⟨jb, k * 2, none⟩), nilS, .pointer (some ⟨h + 1 + gn, 0, none⟩), .bool false]
          have e : (wr.alloc (.cells #[.slice ua ln uc, .int .i64 ((gn : Int) + 1), .int .i64 lz, .int .i64 mz] 50)).heap.size = wr.heap.size + 1 := by simp
          rw [e] at this
          exact this)
        have K9 : Hid (Bl w9 wr.heap.size 50 #[.slice ua ln uc, .int .i64 ((gn : Int) + 1), .int .i64 lz, .int .i64 mz]) := (by
          show Bl _ _ _ _
          rw [hw9]
          exact (Bl.new wr 50 #[.slice ua ln uc, .int .i64 ((gn : Int) + 1), .int .i64 lz, .int .i64 mz]).on (((Below.refl _ _).alloc (Nat.le_refl _) _).drew))
        have R9 : Hid (w9.ownsRow (p + 1) 66 1 nilS 0 (ptrs P ((Tk.cl R k).take 0))) := ⟨rfl, Or.inl ⟨rfl, rfl⟩⟩
        rw [← HW9.out, ← HP.out]
        clear hw9 hp HW9 e0 e1 e2 e3 gc nl hl' rl nne hne
        have t0 := (K9.out.cell 0).trans rfl
        go_wp2_with fail
        have UZ : Hid (∀ W, Below wr.heap.size wr W → ∀ j, j < ln → ∃ ub uo, ua = some ⟨ub, uo, none⟩ ∧ W.cell? ⟨ub, uo + j, none⟩ = some (.int .i64 ((Tk.cl R k).getD j 0))) := fun W hb j hj => by
          rcases UR.out with ⟨hn, _⟩ | ⟨b, o, cap, h1, h2, h3, h4, h5⟩
          · have := HLN.out; rw [hn] at this; simp at this; omega
          · simp at h1
            exact ⟨b, o, h1.1, (hb.cell (p := ⟨b, o + j, none⟩) h4).trans (h5 j (by rw [HLN.out]; exact hj))⟩
        have TZ : Hid (∀ W, Below wr.heap.size wr W → ∀ q, q < k → W.cell? ⟨tb, q, none⟩ = some (.pointer (some ⟨P q, 0, none⟩))) := fun W hb q hq => by
          have := (L.out.on hb).trow
          rw [HN.out] at this
          refine (this.cellAt q (by omega)).trans ?_
          rw [tmid_at P n k q (by omega), if_pos hq]
        clear t0 c3
        obtain ⟨wo, hwo⟩ : ∃ wo, wo = wr := ⟨_, rfl⟩
        subst hwo
        go_loopw [78] (fun c wi => ∃ (j : Nat) (av : Value), j ≤ ln ∧ c = .int .i64 j ∧ Hid (Bl wi p 65 #[.int .i64 ((k : Int) + 1), .slice ua ln uc, .int .i64 ((gn : Int) + 1), .int .i64 lz, .int .i64 mz, .pointer (some ⟨jb, k * 2, none⟩), av, .pointer (some ⟨h + 1 + gn, 0, none⟩), .bool false]) ∧ Hid (wi.ownsRow (p + 1) 66 1 av j (ptrs P ((Tk.cl R k).take j))) ∧ Hid (Below wo.heap.size wo wi)) (fun c _ => ln - (intOf c).toNat)
        case atStart => exact ⟨0, nilS, Nat.zero_le _, rfl, P9, R9, B9⟩
        case round =>
          clear P9 R9 K9 B9
          obtain ⟨wi, hwi⟩ : ∃ q : World, q = wr := ⟨_, rfl⟩
          subst hwi
          obtain ⟨j, av, hj, rfl, PA, RA, BI⟩ := hrel
          by_cases hjl : j < ln
          · obtain ⟨ub, uo, eua, zc⟩ := UZ.out wi BI.out j hjl
            subst eua
            have hz := HF.out.aft k hkR j (by rw [HLN.out]; exact hjl)
            obtain ⟨q, hq⟩ : ∃ q : Nat, (Tk.cl R k).getD j 0 = (q : Int) + 1 := ⟨((Tk.cl R k).getD j 0 - 1).toNat, by omega⟩
            have hqk : q < k := by omega
            rw [hq] at zc
            have tc := TZ.out wi BI.out q hqk
            have HPT : Hid (ptrs P ((Tk.cl R k).take (j + 1)) = ptrs P ((Tk.cl R k).take j) ++ [.pointer (some ⟨P q, 0, none⟩)]) := (by
              show _ = _
              rw [List.take_succ_eq_append_getElem (by rw [HLN.out]; exact hjl)]
              unfold ptrs
              rw [List.map_append]
              have : (Tk.cl R k)[j]'(by rw [HLN.out]; exact hjl) = (q : Int) + 1 := by rw [← hq]; simp [List.getD, HLN.out, hjl]
              simp only [List.map_cons, List.map_nil, this]
              have e : ((q : Int) + 1 - 1).toNat = q := by omega
              rw [e])
            have a6 := (PA.out.cell 6).trans rfl
            have fz6 := PA.out.fz 6
            have pl := PA.out.lt
            have tl' := (row_ty (L.out.on BI.out).trow tb rfl).lt
            have tbp : tb < p := (by have := (row_ty L.out.trow tb rfl).lt; have := HP.out; omega)
            have OL : ∀ g, av.ownBlock = some g → p + 1 ≤ g := fun g hg => (RA.out.lt g hg).1
            have j0 : (0 : Int) ≤ (j : Int) := by omega
            have j1 : (j : Int) < (ln : Int) := by omega
            have q0 : (0 : Int) ≤ (q : Int) := by omega
            have q1 : (q : Int) < (n : Int) := by omega
            have wpl : p + 1 ≤ wi.heap.size := by omega
            have wq : IntKind.i64.wrap (q : Int) = (q : Int) := IntWalk.i64_in _ (by omega)
            have qb : (q : Int) ≤ 60 := by omega
            have qn : q < n := by omega
            have hne1 : ¬ p = wi.heap.size := by omega
            have hne2 : ¬ tb = wi.heap.size := by omega
            have KA : Hid (∀ o : Obj, (wi.alloc o).drew.cell? ⟨p, 6, none⟩ = some av ∧ (wi.alloc o).drew.frozen? ⟨p, 6, none⟩ = false ∧ (wi.alloc o).drew.cell? ⟨tb, q, none⟩ = some (.pointer (some ⟨P q, 0, none⟩))) := fun o => (by
              have b := ((Below.refl wi.heap.size wi).alloc (Nat.le_refl _) o).drew
              exact ⟨(b.cell (p := ⟨p, 6, none⟩) pl).trans a6, (b.frozen (p := ⟨p, 6, none⟩) pl).trans fz6, (b.cell (p := ⟨tb, q, none⟩) tl').trans tc⟩)
            clear hz hq
            obtain ⟨i9, hi9, hz09, hz19, hz29⟩ := info_parts Try.info66
            go_wp2_with fail
            refine wp_region_held_drew (S := (fun w' => w'.cell? ⟨tb, q, none⟩ = some (.pointer (some ⟨P q, 0, none⟩)))) (by kernel_rfl) (by (try dsimp only); exact tc) (fun hHeld => ?_)
            refine wpAnyH_take (i := 0) (oi := { dst := some 82, op := Go.Op.move (Go.Operand.tmp 10), type := 66, pos := "l24_suites.go:180", after := #[], guard := none }) (v := ?_) rfl (by kernel_rfl) (by kernel_rfl) (by kernel_rfl) (fun _ _ _ h => h) (Or.inl ⟨by rfl, ?_⟩) (by assumption) ?_
            rotate_left 1
            · (intro w hSw; (try dsimp only at hSw); go_simp); all_goals (with_reducible rfl)
            try simp only [Act.put, List.setIfInBounds_toArray, List.set_cons_zero, List.set_cons_succ]
            refine wpAnyH_take (i := 1) (oi := { dst := some 83, op := Go.Op.move (Go.Operand.tmp 10), type := 66, pos := "l24_suites.go:180", after := #[], guard := none }) (v := ?_) rfl (by kernel_rfl) (by kernel_rfl) (by kernel_rfl) (fun _ _ _ h => h) (Or.inl ⟨by rfl, ?_⟩) (by assumption) ?_
            rotate_left 1
            · (intro w hSw; (try dsimp only at hSw); go_simp); all_goals (with_reducible rfl)
            try simp only [Act.put, List.setIfInBounds_toArray, List.set_cons_zero, List.set_cons_succ]
            refine wpAnyH_take (i := 2) (oi := { dst := some 84, op := Go.Op.nilCheck (Go.Operand.tmp 83), type := 0, pos := "l24_suites.go:180", after := #[{ on := 1, ground := Go.Ground.data }], guard := none }) (v := ?_) rfl (by kernel_rfl) (by kernel_rfl) (by kernel_rfl) (fun _ _ _ h => h) (Or.inl ⟨by rfl, ?_⟩) (by assumption) ?_
            rotate_left 1
            · (intro w hSw; (try dsimp only at hSw); go_simp); all_goals (with_reducible rfl)
            try simp only [Act.put, List.setIfInBounds_toArray, List.set_cons_zero, List.set_cons_succ]
            refine wpAnyH_take (i := 3) (oi := { dst := some 85, op := Go.Op.fieldAddr 65 (Go.Operand.tmp 84) 3, type := 0, pos := "l24_suites.go:180", after := #[{ on := 2, ground := Go.Ground.data }], guard := none }) (v := ?_) rfl (by kernel_rfl) (by kernel_rfl) (by kernel_rfl) (fun _ _ _ h => h) (Or.inl ⟨by rfl, ?_⟩) (by assumption) ?_
            rotate_left 1
            · (intro w hSw; (try dsimp only at hSw); go_simp); all_goals (with_reducible rfl)
            try simp only [Act.put, List.setIfInBounds_toArray, List.set_cons_zero, List.set_cons_succ]
            refine wpAnyH_take (i := 5) (oi := { dst := some 87, op := Go.Op.move (Go.Operand.tmp 7), type := 59, pos := "l24_suites.go:180", after := #[], guard := none }) (v := ?_) rfl (by kernel_rfl) (by kernel_rfl) (by kernel_rfl) (fun _ _ _ h => h) (Or.inl ⟨by rfl, ?_⟩) (by assumption) ?_
            rotate_left 1
            · (intro w hSw; (try dsimp only at hSw); go_simp); all_goals (with_reducible rfl)
            try simp only [Act.put, List.setIfInBounds_toArray, List.set_cons_zero, List.set_cons_succ]
            refine wpAnyH_take (i := 6) (oi := { dst := some 88, op := Go.Op.move (Go.Operand.tmp 12), type := 2, pos := "l24_suites.go:180", after := #[], guard := none }) (v := ?_) rfl (by kernel_rfl) (by kernel_rfl) (by kernel_rfl) (fun _ _ _ h => h) (Or.inl ⟨by rfl, ?_⟩) (by assumption) ?_
            rotate_left 1
            · (intro w hSw; (try dsimp only at hSw); go_simp); all_goals (with_reducible rfl)
            try simp only [Act.put, List.setIfInBounds_toArray, List.set_cons_zero, List.set_cons_succ]
            refine wpAnyH_take (i := 7) (oi := { dst := some 89, op := Go.Op.binOp Go.BinOp.sub 2 (Go.Operand.tmp 88) (Go.Operand.const (Go.Value.int Go.IntKind.i64 1)) 2, type := 2, pos := "l24_suites.go:180", after := #[{ on := 6, ground := Go.Ground.data }], guard := none }) (v := ?_) rfl (by kernel_rfl) (by kernel_rfl) (by kernel_rfl) (fun _ _ _ h => h) (Or.inl ⟨by rfl, ?_⟩) (by assumption) ?_
            rotate_left 1
            · (intro w hSw; (try dsimp only at hSw); go_simp); all_goals (with_reducible rfl)
            try simp only [Act.put, List.setIfInBounds_toArray, List.set_cons_zero, List.set_cons_succ]
            refine wpAnyH_take (i := 8) (oi := { dst := some 90, op := Go.Op.indexAddr 59 (Go.Operand.tmp 87) (Go.Operand.tmp 89), type := 0, pos := "l24_suites.go:180", after := #[{ on := 5, ground := Go.Ground.data }, { on := 7, ground := Go.Ground.data }], guard := none }) (v := ?_) rfl (by kernel_rfl) (by kernel_rfl) (by kernel_rfl) (fun _ _ _ h => h) (Or.inl ⟨by rfl, ?_⟩) (by assumption) ?_
            rotate_left 1
            · (intro w hSw; (try dsimp only at hSw); go_simp); all_goals (with_reducible rfl)
            try simp only [Act.put, List.setIfInBounds_toArray, List.set_cons_zero, List.set_cons_succ]
            refine wpAnyH_take (i := 9) (oi := { dst := some 91, op := Go.Op.load 66 (Go.Operand.tmp 90), type := 66, pos := "l24_suites.go:180", after := #[{ on := 8, ground := Go.Ground.data }], guard := none }) (v := ?_) rfl (by kernel_rfl) (by kernel_rfl) (by kernel_rfl) (fun _ _ _ h => h) (Or.inl ⟨by rfl, ?_⟩) (by assumption) ?_
            rotate_left 1
            · (intro w hSw; (try dsimp only at hSw); go_simp); all_goals (with_reducible rfl)
            try simp only [Act.put, List.setIfInBounds_toArray, List.set_cons_zero, List.set_cons_succ]
            have RV : Hid (wi.drew.ownsRow (p + 1) 66 1 av j (ptrs P ((Tk.cl R k).take j))) := RA.out
            have PV : Hid (Bl wi.drew p 65 #[.int .i64 ((k : Int) + 1), .slice (some ⟨ub, uo, none⟩) ln uc, .int .i64 ((gn : Int) + 1), .int .i64 lz, .int .i64 mz, .pointer (some ⟨jb, k * 2, none⟩), av, .pointer (some ⟨h + 1 + gn, 0, none⟩), .bool false]) := PA.out
            have BV : Hid (Below wo.heap.size wo wi.drew) := BI.out.drew
            have b6 := (PV.out.cell 6).trans rfl
            generalize wi.drew = v at hHeld RV PV BV b6 ⊢
            clear a6 fz6 pl tl' wpl hne1 hne2 KA tc
            refine wpAnyH_ready (rs := [4, 10]) (by kernel_rfl) (by simp) ?_
            refine AllReadyH.cons (o := { dst := some 86, op := Go.Op.load 59 (Go.Operand.tmp 85), type := 59, pos := "l24_suites.go:180", after := #[{ on := 3, ground := Go.Ground.data }], guard := none }) rfl (fun K hK => ?_) (AllReadyH.cons (o := { dst := some 92, op := Go.Op.buildSlice 59 1 #[(0, Go.Operand.tmp 91)], type := 59, pos := "l24_suites.go:180", after := #[{ on := 9, ground := Go.Ground.data }], guard := none }) rfl (fun K hK => ?_) AllReadyH.nil)
            · go_simp
              refine hK.out _ _ (by (try dsimp only); exact hHeld) (fun hHeld2 => ?_)
              clear hK K hHeld
              have hHeld := hHeld2
              clear hHeld2
              try simp only [Act.put, List.setIfInBounds_toArray, List.set_cons_zero, List.set_cons_succ]
              refine wpAnyH_ready (rs := [10]) (by kernel_rfl) (by simp) ?_
              refine AllReadyH.cons (o := { dst := some 92, op := Go.Op.buildSlice 59 1 #[(0, Go.Operand.tmp 91)], type := 59, pos := "l24_suites.go:180", after := #[{ on := 9, ground := Go.Ground.data }], guard := none }) rfl (fun K hK => ?_) AllReadyH.nil
              have tlA := (row_ty (L.out.on BV.out).trow tb rfl).lt
              go_simp
              refine hK.out _ _ (by (try dsimp only); exact (((Below.refl v.heap.size v).alloc (Nat.le_refl _) (.cells #[.pointer (some ⟨P q, 0, none⟩)] 66)).cell (p := ⟨tb, q, none⟩) tlA).trans hHeld) (fun hHeld2 => ?_)
              clear hK K hHeld
              have hHeld := hHeld2
              clear hHeld2
              try simp only [Act.put, List.setIfInBounds_toArray, List.set_cons_zero, List.set_cons_succ]
              have bA : Below v.heap.size v (v.alloc (.cells #[.pointer (some ⟨P q, 0, none⟩)] 66)) := (Below.refl _ _).alloc (Nat.le_refl _) _
              have RV2 : Hid ((v.alloc (.cells #[.pointer (some ⟨P q, 0, none⟩)] 66)).ownsRow (p + 1) 66 1 av j (ptrs P ((Tk.cl R k).take j))) := RV.out.alloc _
              have PV2 : Hid (Bl (v.alloc (.cells #[.pointer (some ⟨P q, 0, none⟩)] 66)) p 65 #[.int .i64 ((k : Int) + 1), .slice (some ⟨ub, uo, none⟩) ln uc, .int .i64 ((gn : Int) + 1), .int .i64 lz, .int .i64 mz, .pointer (some ⟨jb, k * 2, none⟩), av, .pointer (some ⟨h + 1 + gn, 0, none⟩), .bool false]) := PV.out.on bA
              have BV2 : Hid (Below wo.heap.size wo (v.alloc (.cells #[.pointer (some ⟨P q, 0, none⟩)] 66))) := BV.out.trans (bA.mono BV.out.size)
              have NV : Hid (∀ j u, [Value.pointer (some ⟨P q, 0, none⟩)][j]? = some u → (v.alloc (.cells #[.pointer (some ⟨P q, 0, none⟩)] 66)).cell? ((⟨v.heap.size, 0, none⟩ : Addr).add j) = some u) := cell_one_new v (.pointer (some ⟨P q, 0, none⟩)) 66
              have b6 := (PV2.out.cell 6).trans rfl
              clear bA RV PV BV tlA
              generalize v.alloc (.cells #[.pointer (some ⟨P q, 0, none⟩)] 66) = v2 at hHeld RV2 PV2 BV2 NV b6 ⊢
              generalize v.heap.size = g1 at NV ⊢
              refine wpAnyH_ready (rs := [11]) (by kernel_rfl) (by simp) ?_
              refine AllReadyH.cons (o := { dst := some 93, op := Go.Op.call { callee := Go.Callee.builtin Go.Builtin.append, args := #[Go.Operand.tmp 86, Go.Operand.tmp 92], argTypes := #[59, 59] }, type := 59, pos := "l24_suites.go:180", after := #[{ on := 4, ground := Go.Ground.data }, { on := 10, ground := Go.Ground.data }], guard := none }) rfl (fun K hK => ?_) AllReadyH.nil
              have pl2 := PV2.out.lt
              have tl2 := (row_ty (L.out.on BV2.out).trow tb rfl).lt
              refine step_append_lies _ (by rfl) _ _ 59 (by rfl) (p + 1) 66 i9 (.pointer none) 1 8 Try.underlying59 hi9 hz09 hz19 hz29 rfl (by decide) _ _ _ (by rfl) RV2.out ⟨g1, 0, none⟩ 1 1 [.pointer (some ⟨P q, 0, none⟩)] (by rfl) rfl NV.out (by intro u hu; simp at hu; subst hu; rfl) (by decide) (by unfold maxLen; omega) (by omega) (by omega) v2.heap.size rfl ?_
              intro g2 cap3 w5 hown hgrow hat hlt5
              refine hK.out _ _ (by (try dsimp only); exact (hgrow.cell_far ⟨tb, q, none⟩ tl2 (fun h => by have := OL _ h.symm; simp at this; omega)).trans hHeld) (fun hHeld2 => ?_)
              clear hK K hHeld
              have hHeld := hHeld2
              clear hHeld2
              try simp only [Act.put, List.setIfInBounds_toArray, List.set_cons_zero, List.set_cons_succ]
              have g2p : p + 1 ≤ g2 := (hown.lt g2 rfl).1
              have R5 : w5.ownsRow (p + 1) 66 1 (.slice (some ⟨g2, 0, none⟩) (j + 1) cap3) (j + 1) (ptrs P ((Tk.cl R k).take (j + 1))) := by rw [HPT.out]; exact hown
              have P5 : Bl w5 p 65 #[.int .i64 ((k : Int) + 1), .slice (some ⟨ub, uo, none⟩) ln uc, .int .i64 ((gn : Int) + 1), .int .i64 lz, .int .i64 mz, .pointer (some ⟨jb, k * 2, none⟩), av, .pointer (some ⟨h + 1 + gn, 0, none⟩), .bool false] := PV2.out.kb (S := fun b => av.ownBlock = some b) (KB.of_grown hgrow (fun g hg => hg)) (fun h => by have := OL _ h; omega)
              have B5 : Below wo.heap.size wo w5 := BV2.out.grown hgrow BV2.out.size (fun g hg => by have := OL g hg; have := HP.out; omega)
              refine wpAnyH_take (i := 12) (oi := { dst := some 94, op := Go.Op.nilCheck (Go.Operand.tmp 82), type := 0, pos := "l24_suites.go:180", after := #[{ on := 0, ground := Go.Ground.data }, { on := 0, ground := Go.Ground.phase }, { on := 1, ground := Go.Ground.phase }, { on := 2, ground := Go.Ground.phase }, { on := 3, ground := Go.Ground.phase }, { on := 4, ground := Go.Ground.phase }, { on := 5, ground := Go.Ground.phase }, { on := 6, ground := Go.Ground.phase }, { on := 7, ground := Go.Ground.phase }, { on := 8, ground := Go.Ground.phase }, { on := 9, ground := Go.Ground.phase }, { on := 10, ground := Go.Ground.phase }, { on := 11, ground := Go.Ground.phase }], guard := none }) (v := ?_) rfl (by kernel_rfl) (by kernel_rfl) (by kernel_rfl) (fun _ _ _ h => h) (Or.inl ⟨by rfl, ?_⟩) (by assumption) ?_
              rotate_left 1
              · (intro w hSw; (try dsimp only at hSw); go_simp); all_goals (with_reducible rfl)
              try simp only [Act.put, List.setIfInBounds_toArray, List.set_cons_zero, List.set_cons_succ]
              refine wpAnyH_take (i := 13) (oi := { dst := some 95, op := Go.Op.fieldAddr 65 (Go.Operand.tmp 94) 3, type := 0, pos := "l24_suites.go:180", after := #[{ on := 12, ground := Go.Ground.data }, { on := 0, ground := Go.Ground.phase }, { on := 1, ground := Go.Ground.phase }, { on := 2, ground := Go.Ground.phase }, { on := 3, ground := Go.Ground.phase }, { on := 4, ground := Go.Ground.phase }, { on := 5, ground := Go.Ground.phase }, { on := 6, ground := Go.Ground.phase }, { on := 7, ground := Go.Ground.phase }, { on := 8, ground := Go.Ground.phase }, { on := 9, ground := Go.Ground.phase }, { on := 10, ground := Go.Ground.phase }, { on := 11, ground := Go.Ground.phase }], guard := none }) (v := ?_) rfl (by kernel_rfl) (by kernel_rfl) (by kernel_rfl) (fun _ _ _ h => h) (Or.inl ⟨by rfl, ?_⟩) (by assumption) ?_
              rotate_left 1
              · (intro w hSw; (try dsimp only at hSw); go_simp); all_goals (with_reducible rfl)
              try simp only [Act.put, List.setIfInBounds_toArray, List.set_cons_zero, List.set_cons_succ]
              have d6 := (P5.cell 6).trans rfl
              have df := P5.fz 6
              refine wpAnyH_ready (rs := [14]) (by kernel_rfl) (by simp) ?_
              refine AllReadyH.cons (o := { dst := none, op := Go.Op.store 59 (Go.Operand.tmp 95) (Go.Operand.tmp 93), type := 0, pos := "l24_suites.go:180", after := #[{ on := 13, ground := Go.Ground.data }, { on := 11, ground := Go.Ground.data }, { on := 11, ground := Go.Ground.chain }, { on := 0, ground := Go.Ground.phase }, { on := 1, ground := Go.Ground.phase }, { on := 2, ground := Go.Ground.phase }, { on := 3, ground := Go.Ground.phase }, { on := 4, ground := Go.Ground.phase }, { on := 5, ground := Go.Ground.phase }, { on := 6, ground := Go.Ground.phase }, { on := 7, ground := Go.Ground.phase }, { on := 8, ground := Go.Ground.phase }, { on := 9, ground := Go.Ground.phase }, { on := 10, ground := Go.Ground.phase }, { on := 11, ground := Go.Ground.phase }], guard := none }) rfl (fun K hK => ?_) AllReadyH.nil
              go_simp
              refine hK.out _ _ (by (try dsimp only); exact (World.cell?_setCell_far w5 ⟨p, 6, none⟩ ⟨tb, q, none⟩ _ (by show p ≠ tb; omega)).trans hHeld) (fun hHeld2 => ?_)
              clear hK K hHeld
              have hHeld := hHeld2
              clear hHeld2
              try simp only [Act.put, List.setIfInBounds_toArray, List.set_cons_zero, List.set_cons_succ]
              refine wpAnyH_done (by kernel_rfl) ?_ _
              have P6 : Hid (Bl (w5.setCell ⟨p, 6, none⟩ (.slice (some ⟨g2, 0, none⟩) (j + 1) cap3)) p 65 #[.int .i64 ((k : Int) + 1), .slice (some ⟨ub, uo, none⟩) ln uc, .int .i64 ((gn : Int) + 1), .int .i64 lz, .int .i64 mz, .pointer (some ⟨jb, k * 2, none⟩), (.slice (some ⟨g2, 0, none⟩) (j + 1) cap3), .pointer (some ⟨h + 1 + gn, 0, none⟩), .bool false]) := P5.set 6 _
              have R6 : Hid ((w5.setCell ⟨p, 6, none⟩ (.slice (some ⟨g2, 0, none⟩) (j + 1) cap3)).ownsRow (p + 1) 66 1 (.slice (some ⟨g2, 0, none⟩) (j + 1) cap3) (j + 1) (ptrs P ((Tk.cl R k).take (j + 1)))) := row_kb R5 (kb_set w5 p 6 _) (fun g hg e => by simp [Value.ownBlock] at hg; have e2 : g = p := e; omega)
              have B6 : Hid (Below wo.heap.size wo (w5.setCell ⟨p, 6, none⟩ (.slice (some ⟨g2, 0, none⟩) (j + 1) cap3))) := B5.setCell (p := ⟨p, 6, none⟩) (by show wo.heap.size ≤ p; have := HP.out; omega) _
              clear P5 R5 B5 d6 df hown hgrow hat hlt5
              go_wp2_with fail
              go_roundw
              case rel => exact ⟨j + 1, _, by omega, by go_num, P6, R6, B6⟩
              case measure => simp [intOf]; omega
            · have tlA := (row_ty (L.out.on BV.out).trow tb rfl).lt
              go_simp
              refine hK.out _ _ (by (try dsimp only); exact (((Below.refl v.heap.size v).alloc (Nat.le_refl _) (.cells #[.pointer (some ⟨P q, 0, none⟩)] 66)).cell (p := ⟨tb, q, none⟩) tlA).trans hHeld) (fun hHeld2 => ?_)
              clear hK K hHeld
              have hHeld := hHeld2
              clear hHeld2
              try simp only [Act.put, List.setIfInBounds_toArray, List.set_cons_zero, List.set_cons_succ]
              have bA : Below v.heap.size v (v.alloc (.cells #[.pointer (some ⟨P q, 0, none⟩)] 66)) := (Below.refl _ _).alloc (Nat.le_refl _) _
              have RV2 : Hid ((v.alloc (.cells #[.pointer (some ⟨P q, 0, none⟩)] 66)).ownsRow (p + 1) 66 1 av j (ptrs P ((Tk.cl R k).take j))) := RV.out.alloc _
              have PV2 : Hid (Bl (v.alloc (.cells #[.pointer (some ⟨P q, 0, none⟩)] 66)) p 65 #[.int .i64 ((k : Int) + 1), .slice (some ⟨ub, uo, none⟩) ln uc, .int .i64 ((gn : Int) + 1), .int .i64 lz, .int .i64 mz, .pointer (some ⟨jb, k * 2, none⟩), av, .pointer (some ⟨h + 1 + gn, 0, none⟩), .bool false]) := PV.out.on bA
              have BV2 : Hid (Below wo.heap.size wo (v.alloc (.cells #[.pointer (some ⟨P q, 0, none⟩)] 66))) := BV.out.trans (bA.mono BV.out.size)
              have NV : Hid (∀ j u, [Value.pointer (some ⟨P q, 0, none⟩)][j]? = some u → (v.alloc (.cells #[.pointer (some ⟨P q, 0, none⟩)] 66)).cell? ((⟨v.heap.size, 0, none⟩ : Addr).add j) = some u) := cell_one_new v (.pointer (some ⟨P q, 0, none⟩)) 66
              have b6 := (PV2.out.cell 6).trans rfl
              clear bA RV PV BV tlA
              generalize v.alloc (.cells #[.pointer (some ⟨P q, 0, none⟩)] 66) = v2 at hHeld RV2 PV2 BV2 NV b6 ⊢
              generalize v.heap.size = g1 at NV ⊢
              refine wpAnyH_ready (rs := [4]) (by kernel_rfl) (by simp) ?_
              refine AllReadyH.cons (o := { dst := some 86, op := Go.Op.load 59 (Go.Operand.tmp 85), type := 59, pos := "l24_suites.go:180", after := #[{ on := 3, ground := Go.Ground.data }], guard := none }) rfl (fun K hK => ?_) AllReadyH.nil
              go_simp
              refine hK.out _ _ (by (try dsimp only); exact hHeld) (fun hHeld2 => ?_)
              clear hK K hHeld
              have hHeld := hHeld2
              clear hHeld2
              try simp only [Act.put, List.setIfInBounds_toArray, List.set_cons_zero, List.set_cons_succ]
              refine wpAnyH_ready (rs := [11]) (by kernel_rfl) (by simp) ?_
              refine AllReadyH.cons (o := { dst := some 93, op := Go.Op.call { callee := Go.Callee.builtin Go.Builtin.append, args := #[Go.Operand.tmp 86, Go.Operand.tmp 92], argTypes := #[59, 59] }, type := 59, pos := "l24_suites.go:180", after := #[{ on := 4, ground := Go.Ground.data }, { on := 10, ground := Go.Ground.data }], guard := none }) rfl (fun K hK => ?_) AllReadyH.nil
              have pl2 := PV2.out.lt
              have tl2 := (row_ty (L.out.on BV2.out).trow tb rfl).lt
              refine step_append_lies _ (by rfl) _ _ 59 (by rfl) (p + 1) 66 i9 (.pointer none) 1 8 Try.underlying59 hi9 hz09 hz19 hz29 rfl (by decide) _ _ _ (by rfl) RV2.out ⟨g1, 0, none⟩ 1 1 [.pointer (some ⟨P q, 0, none⟩)] (by rfl) rfl NV.out (by intro u hu; simp at hu; subst hu; rfl) (by decide) (by unfold maxLen; omega) (by omega) (by omega) v2.heap.size rfl ?_
              intro g2 cap3 w5 hown hgrow hat hlt5
              refine hK.out _ _ (by (try dsimp only); exact (hgrow.cell_far ⟨tb, q, none⟩ tl2 (fun h => by have := OL _ h.symm; simp at this; omega)).trans hHeld) (fun hHeld2 => ?_)
              clear hK K hHeld
              have hHeld := hHeld2
              clear hHeld2
              try simp only [Act.put, List.setIfInBounds_toArray, List.set_cons_zero, List.set_cons_succ]
              have g2p : p + 1 ≤ g2 := (hown.lt g2 rfl).1
              have R5 : w5.ownsRow (p + 1) 66 1 (.slice (some ⟨g2, 0, none⟩) (j + 1) cap3) (j + 1) (ptrs P ((Tk.cl R k).take (j + 1))) := by rw [HPT.out]; exact hown
              have P5 : Bl w5 p 65 #[.int .i64 ((k : Int) + 1), .slice (some ⟨ub, uo, none⟩) ln uc, .int .i64 ((gn : Int) + 1), .int .i64 lz, .int .i64 mz, .pointer (some ⟨jb, k * 2, none⟩), av, .pointer (some ⟨h + 1 + gn, 0, none⟩), .bool false] := PV2.out.kb (S := fun b => av.ownBlock = some b) (KB.of_grown hgrow (fun g hg => hg)) (fun h => by have := OL _ h; omega)
              have B5 : Below wo.heap.size wo w5 := BV2.out.grown hgrow BV2.out.size (fun g hg => by have := OL g hg; have := HP.out; omega)
              refine wpAnyH_take (i := 12) (oi := { dst := some 94, op := Go.Op.nilCheck (Go.Operand.tmp 82), type := 0, pos := "l24_suites.go:180", after := #[{ on := 0, ground := Go.Ground.data }, { on := 0, ground := Go.Ground.phase }, { on := 1, ground := Go.Ground.phase }, { on := 2, ground := Go.Ground.phase }, { on := 3, ground := Go.Ground.phase }, { on := 4, ground := Go.Ground.phase }, { on := 5, ground := Go.Ground.phase }, { on := 6, ground := Go.Ground.phase }, { on := 7, ground := Go.Ground.phase }, { on := 8, ground := Go.Ground.phase }, { on := 9, ground := Go.Ground.phase }, { on := 10, ground := Go.Ground.phase }, { on := 11, ground := Go.Ground.phase }], guard := none }) (v := ?_) rfl (by kernel_rfl) (by kernel_rfl) (by kernel_rfl) (fun _ _ _ h => h) (Or.inl ⟨by rfl, ?_⟩) (by assumption) ?_
              rotate_left 1
              · (intro w hSw; (try dsimp only at hSw); go_simp); all_goals (with_reducible rfl)
              try simp only [Act.put, List.setIfInBounds_toArray, List.set_cons_zero, List.set_cons_succ]
              refine wpAnyH_take (i := 13) (oi := { dst := some 95, op := Go.Op.fieldAddr 65 (Go.Operand.tmp 94) 3, type := 0, pos := "l24_suites.go:180", after := #[{ on := 12, ground := Go.Ground.data }, { on := 0, ground := Go.Ground.phase }, { on := 1, ground := Go.Ground.phase }, { on := 2, ground := Go.Ground.phase }, { on := 3, ground := Go.Ground.phase }, { on := 4, ground := Go.Ground.phase }, { on := 5, ground := Go.Ground.phase }, { on := 6, ground := Go.Ground.phase }, { on := 7, ground := Go.Ground.phase }, { on := 8, ground := Go.Ground.phase }, { on := 9, ground := Go.Ground.phase }, { on := 10, ground := Go.Ground.phase }, { on := 11, ground := Go.Ground.phase }], guard := none }) (v := ?_) rfl (by kernel_rfl) (by kernel_rfl) (by kernel_rfl) (fun _ _ _ h => h) (Or.inl ⟨by rfl, ?_⟩) (by assumption) ?_
              rotate_left 1
              · (intro w hSw; (try dsimp only at hSw); go_simp); all_goals (with_reducible rfl)
              try simp only [Act.put, List.setIfInBounds_toArray, List.set_cons_zero, List.set_cons_succ]
              have d6 := (P5.cell 6).trans rfl
              have df := P5.fz 6
              refine wpAnyH_ready (rs := [14]) (by kernel_rfl) (by simp) ?_
              refine AllReadyH.cons (o := { dst := none, op := Go.Op.store 59 (Go.Operand.tmp 95) (Go.Operand.tmp 93), type := 0, pos := "l24_suites.go:180", after := #[{ on := 13, ground := Go.Ground.data }, { on := 11, ground := Go.Ground.data }, { on := 11, ground := Go.Ground.chain }, { on := 0, ground := Go.Ground.phase }, { on := 1, ground := Go.Ground.phase }, { on := 2, ground := Go.Ground.phase }, { on := 3, ground := Go.Ground.phase }, { on := 4, ground := Go.Ground.phase }, { on := 5, ground := Go.Ground.phase }, { on := 6, ground := Go.Ground.phase }, { on := 7, ground := Go.Ground.phase }, { on := 8, ground := Go.Ground.phase }, { on := 9, ground := Go.Ground.phase }, { on := 10, ground := Go.Ground.phase }, { on := 11, ground := Go.Ground.phase }], guard := none }) rfl (fun K hK => ?_) AllReadyH.nil
              go_simp
              refine hK.out _ _ (by (try dsimp only); exact (World.cell?_setCell_far w5 ⟨p, 6, none⟩ ⟨tb, q, none⟩ _ (by show p ≠ tb; omega)).trans hHeld) (fun hHeld2 => ?_)
              clear hK K hHeld
              have hHeld := hHeld2
              clear hHeld2
              try simp only [Act.put, List.setIfInBounds_toArray, List.set_cons_zero, List.set_cons_succ]
              refine wpAnyH_done (by kernel_rfl) ?_ _
              have P6 : Hid (Bl (w5.setCell ⟨p, 6, none⟩ (.slice (some ⟨g2, 0, none⟩) (j + 1) cap3)) p 65 #[.int .i64 ((k : Int) + 1), .slice (some ⟨ub, uo, none⟩) ln uc, .int .i64 ((gn : Int) + 1), .int .i64 lz, .int .i64 mz, .pointer (some ⟨jb, k * 2, none⟩), (.slice (some ⟨g2, 0, none⟩) (j + 1) cap3), .pointer (some ⟨h + 1 + gn, 0, none⟩), .bool false]) := P5.set 6 _
              have R6 : Hid ((w5.setCell ⟨p, 6, none⟩ (.slice (some ⟨g2, 0, none⟩) (j + 1) cap3)).ownsRow (p + 1) 66 1 (.slice (some ⟨g2, 0, none⟩) (j + 1) cap3) (j + 1) (ptrs P ((Tk.cl R k).take (j + 1)))) := row_kb R5 (kb_set w5 p 6 _) (fun g hg e => by simp [Value.ownBlock] at hg; have e2 : g = p := e; omega)
              have B6 : Hid (Below wo.heap.size wo (w5.setCell ⟨p, 6, none⟩ (.slice (some ⟨g2, 0, none⟩) (j + 1) cap3))) := B5.setCell (p := ⟨p, 6, none⟩) (by show wo.heap.size ≤ p; have := HP.out; omega) _
              clear P5 R5 B5 d6 df hown hgrow hat hlt5
              go_wp2_with fail
              go_roundw
              case rel => exact ⟨j + 1, _, by omega, by go_num, P6, R6, B6⟩
              case measure => simp [intOf]; omega
          · have ej : j = ln := by omega
            subst ej
            have AK : Hid (wi.ownsRow (tb + 1) 66 1 av (Tk.cl R k).length (ptrs P (Tk.cl R k))) := (by
              show World.ownsRow _ _ _ _ _ _ _
              have := RA.out
              rw [List.take_of_length_le (by rw [HLN.out]; exact Nat.le_refl _)] at this
              rw [HLN.out]
              have hp := HP.out
              have := (row_ty L.out.trow tb rfl).lt
              exact World.ownsRow.mono ‹_› (by omega))
            have PK : Bl wi p 65 (tcs R h jb k (.slice ua j uc) av false) := (by
              obtain ⟨z1, z2, z3⟩ := HGZ.out
              have e : (Tk.cz R k 1 - 1).toNat = gn := by omega
              have := PA.out
              show Bl wi p 65 #[_, _, _, _, _, _, _, _, _]
              rw [e, z1, z2, z3]
              exact this)
            obtain ⟨P', hP'⟩ : ∃ P' : Nat → Nat, P' = (fun i => if i = k then p else P i) := ⟨_, rfl⟩
            obtain ⟨U, hU⟩ : ∃ U : Nat → Value, U = (fun i => if i = k then .slice ua j uc else u i) := ⟨_, rfl⟩
            obtain ⟨A, hA⟩ : ∃ A : Nat → Value, A = (fun i => if i = k then av else a i) := ⟨_, rfl⟩
            have HP1 : Hid (∀ i, i < k → P' i = P i) := fun i hi => by rw [hP']; simp only [if_neg (show ¬ i = k by omega)]
            have HP2 : Hid (P' k = p) := (by show P' k = p; rw [hP']; simp only [if_pos])
            have TM : Hid (Td wi (tb + 1) R X h jb U A P' (fun g => rn R J g k) (fun _ => false) (k + 1)) := (by
              have hp := HP.out
              have := (row_ty L.out.trow tb rfl).lt
              rw [hP', hU, hA]
              exact T.out.more BI.out PK (by omega) (by omega) AK.out (fun i hi z hz => by
                obtain ⟨x, hx⟩ := List.getElem?_of_mem hz
                have hx2 := List.getElem?_eq_some_iff.1 hx
                have := HF.out.aft i (by omega) x hx2.1
                have e : (Tk.cl R i).getD x 0 = z := by simp [List.getD, hx]
                rw [e] at this
                omega))
            have LI : Hid (LS w R X now J (.slice ar n cr) (.slice ax m cx) (.slice aj n cj) nb (.slice (some ⟨rb, 0, none⟩) n rc) (.slice xa m xc) jb jc xs h tb P k wi) := L.out.on BI.out
            have JC : Hid (∀ W, LS w R X now J (.slice ar n cr) (.slice ax m cx) (.slice aj n cj) nb (.slice (some ⟨rb, 0, none⟩) n rc) (.slice xa m xc) jb jc xs h tb P k W → ∀ i, i < n → W.cell? ⟨jb, i * 2, none⟩ = some (.int .i64 (hw J i)) ∧ W.cell? ⟨jb, i * 2 + 1, none⟩ = some (.int .i64 (tr J i))) := fun W t i hi => jrow_cell t.ro.2 i (by rw [HKJ.out]; exact hi)
            have RDY : Hid (∀ nn, Calls Try.prog 37 #[.pointer (some ⟨p, 0, none⟩)] (wi.drewN nn) fun e w' => e = .returned (.bool (fr R J k)) ∧ w' = wi.drewN nn) := fun nn => by
              have := ready_td (TM.out.on (below_drewN (Below.refl _ _) nn)) J (fun i hi => (JC.out _ (LI.out.on (below_drewN (Below.refl _ _) nn)) i (by omega)).1) k (by omega) (HF.out.len k hkR) (fun m hm => HF.out.aft k hkR m hm)
              rw [HP2.out] at this
              exact this
            have JK : Hid (Calls Try.prog 46 #[.pointer (some ⟨p, 0, none⟩)] wi fun e w' => e = .returned (.bool (jk R J k)) ∧ ∃ nn, w' = wi.drewN nn) := (by
              obtain ⟨c0, c1⟩ := JC.out wi LI.out k hlt
              have := Gr.jobok_any wi p 0 jb (k * 2) (hw J k) (tr J k) (Tk.cz R k 3) (fr R J k) ((PK.cell 4).trans rfl) ((PK.cell 5).trans rfl) c0 c1 (by rw [HGZ.out.2.2]; omega) RDY.out
              rw [jk_jj] at this
              exact this)
            clear hP' hU hA PA RA AK PK RDY UZ TZ UR BI
            have i9 : ¬ (j : Int) < (j : Int) := by omega
            go_wp2_with fail
            refine (Calls.mono JK.out) ?_
            rintro e w10 ⟨rfl, nn, hw10⟩
            have bD : Below wi.heap.size wi w10 := by rw [hw10]; exact below_drewN (Below.refl _ _) nn
            have L10 : Hid (LS w R X now J (.slice ar n cr) (.slice ax m cx) (.slice aj n cj) nb (.slice (some ⟨rb, 0, none⟩) n rc) (.slice xa m xc) jb jc xs h tb P k w10) := LI.out.on bD
            have T10 : Hid (Td w10 (tb + 1) R X h jb U A P' (fun g => rn R J g k) (fun _ => false) (k + 1)) := TM.out.on bD
            clear hw10 bD LI TM JK
            have t5 : w10.cell? ⟨P' k, 5, none⟩ = some (.pointer (some ⟨jb, k * 2, none⟩)) := ((T10.out.tsk k (by omega)).cell 5).trans rfl
            have t7 : w10.cell? ⟨P' k, 7, none⟩ = some (.pointer (some ⟨h + 1 + (Tk.cz R k 1 - 1).toNat, 0, none⟩)) := ((T10.out.tsk k (by omega)).cell 7).trans rfl
            rw [HP2.out] at t5 t7
            have egn : (Tk.cz R k 1 - 1).toNat = gn := by have := HGZ.out.1; omega
            rw [egn] at t7
            obtain ⟨jc0, _⟩ := JC.out w10 L10.out k hlt
            obtain ⟨bo, hbo⟩ : ∃ bo, jk R J k = bo := ⟨_, rfl⟩
            rw [hbo]
            cases bo
            · have NOK : Hid (okR R X now J = false) := okR_nj HOK.out.1 HJ.out hkR hbo
              clear hbo egn
              have z0 := (L10.out.hd.res.cell 0).trans rfl
              have z1 := (L10.out.hd.res.cell 1).trans rfl
              have z2 := (L10.out.hd.res.cell 2).trans rfl
              have z3 := (L10.out.hd.res.cell 3).trans rfl
              have f0 := L10.out.hd.res.fz 0
              have f1 := L10.out.hd.res.fz 1
              have f2 := L10.out.hd.res.fz 2
              have f3 := L10.out.hd.res.fz 3
              go_wp2_with fail
              exact bodyPost_ret (v := noRun) (by simp [results, Try.results28, go_sem, z0, z1, z2, z3]) rfl ⟨bel4 L10.out.bel (Nat.le_succ _) _ _ _ _, Or.inl ⟨NOK.out, rfl⟩⟩
            · have HBO : Hid (jk R J k = true) := hbo
              clear hbo
              by_cases hs : hw J k = 1
              · rw [hs] at jc0
                have hrb := rn_rng R J ((gn : Int) + 1) k
                have EN : Hid (Calls Try.prog 38 #[.pointer (some ⟨h + 1 + gn, 0, none⟩)] w10 fun e w' => e = .returned (.bool (decide (rn R J ((gn : Int) + 1) k < X.getD gn 0))) ∧ Bl w' (h + 1 + gn) 99 (gcs (X.getD gn 0) (if rn R J ((gn : Int) + 1) k < X.getD gn 0 then rn R J ((gn : Int) + 1) k + 1 else rn R J ((gn : Int) + 1) k)) ∧ KB (fun b => b = h + 1 + gn) w10 w') := enter_any w10 (h + 1 + gn) (X.getD gn 0) (rn R J ((gn : Int) + 1) k) (T10.out.grp gn (by rw [HM.out]; exact gq)) hrb.1 (by omega)
                have HE : Hid (ent R X J k = decide (rn R J ((gn : Int) + 1) k < X.getD gn 0)) := ent_in hs HGZ.out.1
                obtain ⟨eo, heo⟩ : ∃ eo, decide (rn R J ((gn : Int) + 1) k < X.getD gn 0) = eo := ⟨_, rfl⟩
                rw [heo] at EN HE
                have HHS : Hid (hw J k = 1) := hs
                clear hs hrb
                go_wp2_with fail
                refine (Calls.mono EN.out) ?_
                rintro e w11 ⟨rfl, q1, q2⟩
                have L11 : Hid (LS w R X now J (.slice ar n cr) (.slice ax m cx) (.slice aj n cj) nb (.slice (some ⟨rb, 0, none⟩) n rc) (.slice xa m xc) jb jc xs h tb P k w11) := L10.out.grp q2 (T10.out.grp gn (by rw [HM.out]; exact gq)).ty (by have := L10.out.hl; omega)
                cases eo
                · have NOK : Hid (okR R X now J = false) := okR_ne HOK.out.1 HJ.out hkR HE.out
                  clear q1 q2 heo t5 t7 jc0 egn
                  have z0 := (L11.out.hd.res.cell 0).trans rfl
                  have z1 := (L11.out.hd.res.cell 1).trans rfl
                  have z2 := (L11.out.hd.res.cell 2).trans rfl
                  have z3 := (L11.out.hd.res.cell 3).trans rfl
                  have f0 := L11.out.hd.res.fz 0
                  have f1 := L11.out.hd.res.fz 1
                  have f2 := L11.out.hd.res.fz 2
                  have f3 := L11.out.hd.res.fz 3
                  go_wp2_with fail
                  exact bodyPost_ret (v := noRun) (by simp [results, Try.results28, go_sem, z0, z1, z2, z3]) rfl ⟨bel4 L11.out.bel (Nat.le_succ _) _ _ _ _, Or.inl ⟨NOK.out, rfl⟩⟩
                · have hlt2 : rn R J ((gn : Int) + 1) k < X.getD gn 0 := by simpa using heo
                  rw [if_pos hlt2] at q1
                  have T11 : Td w11 (tb + 1) R X h jb U A P' (fun g => rn R J g (k + 1)) (fun _ => false) (k + 1) := T10.out.enter q2 (by rw [HM.out]; exact gq) (by
                      have := rn_hit (R := R) (J := J) (k := k) HHS.out
                      rw [HGZ.out.1] at this
                      show Bl w11 _ 99 (gcs _ (rn R J ((gn : Int) + 1) (k + 1)))
                      rw [this]
                      exact q1) (fun x _ hx => rn_off (Or.inr (by rw [HGZ.out.1]; omega)))
                  have OK2 : Hid (∀ i, i < k + 1 → jk R J i = true ∧ ent R X J i = true) := fun i hi => (by
                    by_cases e : i = k
                    · subst e; exact ⟨HBO.out, HE.out⟩
                    · exact OK.out i (by omega))
                  clear q1 q2 heo hlt2 t5 t7 jc0 egn
                  have TZ1 := (row_ty L11.out.trow tb rfl)
                  have s1 : w11.cell? ⟨tb, k, none⟩ = some (.pointer none) := (by
                    have r := L11.out.trow
                    rw [HN.out] at r
                    refine (r.cellAt k (by omega)).trans ?_
                    rw [tmid_at P n k k hlt, if_neg (by omega)])
                  have s2 := L11.out.trow.frozenAt k
                  have L9 : Hid (LS w R X now J (.slice ar n cr) (.slice ax m cx) (.slice aj n cj) nb (.slice (some ⟨rb, 0, none⟩) n rc) (.slice xa m xc) jb jc xs h tb P' (k + 1) (w11.setCell ⟨tb, k, none⟩ (.pointer (some ⟨p, 0, none⟩)))) := L11.out.put HP1.out HP2.out
                  have T9 : Hid (Td (w11.setCell ⟨tb, k, none⟩ (.pointer (some ⟨p, 0, none⟩))) (tb + 1) R X h jb U A P' (fun g => rn R J g (k + 1)) (fun _ => false) (k + 1)) := T11.tbl TZ1 k _
                  have i0' : (0 : Int) ≤ (k : Int) := by omega
                  have i1 : (k : Int) < (n : Int) := by omega
                  clear TZ1
                  go_wp2_with fail
                  go_roundw
                  case rel => exact ⟨k + 1, P', U, A, by omega, by go_num, L9, T9, OK2⟩
                  case measure => simp [intOf]; omega
              · have hs2 : (hw J k == 1) = false := by simpa using hs
                have T11 : Td w10 (tb + 1) R X h jb U A P' (fun g => rn R J g (k + 1)) (fun _ => false) (k + 1) := T10.out.run (fun x _ => rn_off (Or.inl hs))
                have OK2 : Hid (∀ i, i < k + 1 → jk R J i = true ∧ ent R X J i = true) := fun i hi => (by
                  by_cases e : i = k
                  · subst e; exact ⟨HBO.out, ent_out hs⟩
                  · exact OK.out i (by omega))
                clear hs egn
                have TZ1 := (row_ty L10.out.trow tb rfl)
                have s1 : w10.cell? ⟨tb, k, none⟩ = some (.pointer none) := (by
                  have r := L10.out.trow
                  rw [HN.out] at r
                  refine (r.cellAt k (by omega)).trans ?_
                  rw [tmid_at P n k k hlt, if_neg (by omega)])
                have s2 := L10.out.trow.frozenAt k
                have L9 : Hid (LS w R X now J (.slice ar n cr) (.slice ax m cx) (.slice aj n cj) nb (.slice (some ⟨rb, 0, none⟩) n rc) (.slice xa m xc) jb jc xs h tb P' (k + 1) (w10.setCell ⟨tb, k, none⟩ (.pointer (some ⟨p, 0, none⟩)))) := L10.out.put HP1.out HP2.out
                have T9 : Hid (Td (w10.setCell ⟨tb, k, none⟩ (.pointer (some ⟨p, 0, none⟩))) (tb + 1) R X h jb U A P' (fun g => rn R J g (k + 1)) (fun _ => false) (k + 1)) := T11.tbl TZ1 k _
                have i0' : (0 : Int) ≤ (k : Int) := by omega
                have i1 : (k : Int) < (n : Int) := by omega
                clear TZ1
                go_wp2_with fail
                go_roundw
                case rel => exact ⟨k + 1, P', U, A, by omega, by go_num, L9, T9, OK2⟩
                case measure => simp [intOf]; omega
      · have ek : k = n := by omega
        subst ek
        have OKR : Hid (okR R X now J = true) := okR_of HOK.out.1 HOK.out.2 HJ.out (by rw [HN.out]; exact OK.out)
        obtain ⟨c0, c1, c2, c3⟩ : wr.cell? ⟨nb, 0, none⟩ = some (.slice (some ⟨rb, 0, none⟩) k rc) ∧ wr.cell? ⟨nb, 1, none⟩ = some (.slice xa m xc) ∧ wr.cell? ⟨nb, 2, none⟩ = some (.int .i64 now) ∧ wr.cell? ⟨nb, 3, none⟩ = some (.slice (some ⟨jb, 0, none⟩) k jc) := ⟨(L.out.box.cell 0).trans rfl, (L.out.box.cell 1).trans rfl, (L.out.box.cell 2).trans rfl, ((L.out.box.cell 3).trans (by rw [HKJ.out]; rfl))⟩
        have z0 := (L.out.hd.res.cell 0).trans rfl
        have z1 := (L.out.hd.res.cell 1).trans rfl
        have z2 := (L.out.hd.res.cell 2).trans rfl
        have z3 := (L.out.hd.res.cell 3).trans rfl
        have f0 := L.out.hd.res.fz 0
        have f1 := L.out.hd.res.fz 1
        have f2 := L.out.hd.res.fz 2
        have f3 := L.out.hd.res.fz 3
        have i1 : ¬ (k : Int) < (k : Int) := by omega
        go_wp2_with fail
        refine bodyPost_ret (v := .tuple #[rv (.slice (some ⟨rb, 0, none⟩) k rc) (.slice xa m xc) now (.slice (some ⟨jb, 0, none⟩) k jc), .slice (some ⟨tb, 0, none⟩) k k, .bool true]) (by simp [results, Try.results28, go_sem, z0, z1, z2, z3]) rfl ?_
        refine ⟨bel4 L.out.bel (Nat.le_succ _) _ _ _ _, Or.inr ⟨OKR.out, ?_⟩⟩
        have K4 := kb4 wr (w.heap.size + 1) (.slice (some ⟨rb, 0, none⟩) k rc) (.slice xa m xc) (.int .i64 now) (.slice (some ⟨jb, 0, none⟩) k jc)
        have tro := ro_off (e := 30) L.out.ro K4 L.out.hd.res.ty (by decide)
        have ttd := T.out.off (e := 30) K4 L.out.hd.res.ty (by decide)
        have ttr := row_kb L.out.trow K4 (fun g hg e => by
          have e' : g = w.heap.size + 1 := e
          exact (row_ty L.out.trow g hg).ne L.out.hd.res.ty (by decide) e')
        rw [HN.out] at ttr
        rw [HKJ.out] at tro
        rw [HN.out, HM.out, HKJ.out]
        exact ⟨some ⟨rb, 0, none⟩, rc, xa, xc, jb, jc, tb, h, xs, u, a, P, rfl, ro_down tro (by omega), by have := L.out.hl; omega, ttd, World.ownsRow.mono ttr (by omega)⟩
end Go.Proofs.Ytfhpomfdkpfooaa.Ty
