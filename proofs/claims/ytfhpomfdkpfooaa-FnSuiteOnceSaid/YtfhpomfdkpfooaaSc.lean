/- The model: a run copied. -/
import Derived.Test.YtfhpomfdkpfooaaPg
import Derived.Test.YtfhpomfdkpfooaaCr
namespace Go.Proofs.Ytfhpomfdkpfooaa.Ty
open Go.ChangeShapes Go.WideShapes Go.ChangeAt Go.RowKit
open Go.Proofs.Ytfhpomfdkpfooaa.Lists Go.Proofs.Ytfhpomfdkpfooaa.Tm Go.Proofs.Ytfhpomfdkpfooaa.Rk Go.Proofs.Ytfhpomfdkpfooaa.Ru Go.Proofs.Ytfhpomfdkpfooaa.Al

/-- a run that is the call's own, but for how its lists lie to each other -/
def MO (w : World) (base : Nat) (r x j : Value) (R : Tk.Ls) (X : List Int) (J : Jb.Ls) : Prop := Tk.Row w base r R ∧ w.ownsRow base 2 1 x X.length (ints X) ∧ Jb.Row w base j J
theorem MO.reads {w : World} {base : Nat} {r x j : Value} {R : Tk.Ls} {X : List Int} {J : Jb.Ls} (h : MO w base r x j R X J) : RR w r x j R X J := ⟨h.1.reads, Lists.reads_row h.2.1, h.2.2.reads⟩
theorem MO.on {w w' : World} {base : Nat} {r x j : Value} {R : Tk.Ls} {X : List Int} {J : Jb.Ls} (h : MO w base r x j R X J) (hb : Below w.heap.size w w') : MO w' base r x j R X J := ⟨h.1.on hb, Tk1.row_on h.2.1 hb, h.2.2.on hb⟩
theorem trow_off {w w' : World} {base b : Nat} {e : TypeId} {r : Value} {R : Tk.Ls} (h : Tk.Row w base r R) (hb : KB (fun y => y = b) w w') (ht : Ty w b e) (he : e ≠ 50 ∧ e ≠ 2) : Tk.Row w' base r R := by
  obtain ⟨xs, h1, h2⟩ := h
  refine ⟨xs, row_kb h1 hb (fun g hg y => (row_ty h1 g hg).ne ht (Ne.symm he.1) y), fun i hi => ?_⟩
  obtain ⟨a1, a2, a3, u, hu, hr⟩ := h2 i hi
  exact ⟨a1, a2, a3, u, hu, row_kb hr hb (fun g hg y => (row_ty hr g hg).ne ht (Ne.symm he.2) y)⟩
theorem jrow_off {w w' : World} {base b : Nat} {e : TypeId} {j : Value} {J : Jb.Ls} (h : Jb.Row w base j J) (hb : KB (fun y => y = b) w w') (ht : Ty w b e) (he : e ≠ 34) : Jb.Row w' base j J := by
  obtain ⟨xs, h1, h2⟩ := h
  exact ⟨xs, row_kb h1 hb (fun g hg y => (row_ty h1 g hg).ne ht (Ne.symm he) y), h2⟩
theorem mo_box {w w' : World} {base b : Nat} {r x j : Value} {R : Tk.Ls} {X : List Int} {J : Jb.Ls} (h : MO w base r x j R X J) (hb : KB (fun y => y = b) w w') (ht : Ty w b 30) : MO w' base r x j R X J :=
  ⟨trow_off h.1 hb ht (by decide), row_kb h.2.1 hb (fun g hg y => (row_ty h.2.1 g hg).ne ht (by decide) y), jrow_off h.2.2 hb ht (by decide)⟩
theorem MO.down {w : World} {B B' : Nat} {r x j : Value} {R : Tk.Ls} {X : List Int} {J : Jb.Ls} (h : MO w B r x j R X J) (hb : B' ≤ B) : MO w B' r x j R X J := ⟨Su.row_down h.1 hb, Tk1.own_down h.2.1 hb, jr_down h.2.2 hb⟩
/-- jobs turned in their place -/
theorem mo_jobs {w w' : World} {base g c : Nat} {r x : Value} {R : Tk.Ls} {X : List Int} {J J' : Jb.Ls} (h : MO w base r x (.slice (some ⟨g, 0, none⟩) J.length c) R X J) (hb : KB (fun b => b = g) w w') (hj : Jb.Row w' base (.slice (some ⟨g, 0, none⟩) J.length c) J') : MO w' base r x (.slice (some ⟨g, 0, none⟩) J.length c) R X J' :=
  ⟨trow_off h.1 hb (jrow_ty h.2.2) (by decide), row_kb h.2.1 hb (fun b hb' y => (row_ty h.2.1 b hb').ne (jrow_ty h.2.2) (by decide) y), hj⟩
theorem Hd.low {w w' : World} {h B : Nat} {vr vx : Value} {now : Int} {vj : Value} (t : Hd w h vr vx now vj) (hb : Below B w w') (hB : h + 1 < B) : Hd w' h vr vx now vj := ⟨(hb.block h (by omega)).trans t.arg, (hb.block (h + 1) hB).trans t.res⟩

set_option maxHeartbeats 4000000 in
theorem copy_any (R : Tk.Ls) (X : List Int) (now : Int) (J : Jb.Ls) (vr vx vj : Value) (w : World) (hh : RR w vr vx vj R X J) (hk : okR R X now J = true) :
    Calls Try.prog 26 #[rv vr vx now vj] w fun e w' => ∃ ra rc xa xc jb jc, e = .returned (rv (.slice ra R.length rc) (.slice xa X.length xc) now (.slice (some ⟨jb, 0, none⟩) J.length jc)) ∧ MO w' w.heap.size (.slice ra R.length rc) (.slice xa X.length xc) (.slice (some ⟨jb, 0, none⟩) J.length jc) R X J ∧ Below w.heap.size w w' := by
  obtain ⟨ar, cr, er⟩ := hh.1.form
  obtain ⟨ax, cx, ex⟩ := hh.2.1.form
  obtain ⟨aj, cj, ej⟩ := hh.2.2.form
  obtain ⟨w0, hw0⟩ : ∃ w0, w0 = (w.alloc (.cells #[vr, vx, .int .i64 now, vj] 30)).alloc (.cells #[nilS, nilS, .int .i64 0, nilS] 30) := ⟨_, rfl⟩
  have HW0 : Hid (w0 = (w.alloc (.cells #[vr, vx, .int .i64 now, vj] 30)).alloc (.cells #[nilS, nilS, .int .i64 0, nilS] 30)) := hw0
  have B0 : Hid (Below w.heap.size w w0) := (by show Below _ _ _; rw [hw0]; exact ((Below.refl _ _).alloc (Nat.le_refl _) _).alloc (by simp) _)
  have Y0 : Hid (Hd w0 w.heap.size vr vx now vj) := (by show Hd _ _ _ _ _ _; rw [hw0]; exact Hd.new w vr vx now vj)
  have Z0 : Hid (w0.heap.size = w.heap.size + 2) := (by show _ = _; rw [hw0]; simp)
  obtain ⟨o1, o2, o3⟩ := okR_parts hk
  have F := fit_of o1
  have n1 := F.r1
  have n60 := F.r60
  have m6 := F.x6
  have m1 := F.x1
  obtain ⟨i0, hi, hz0, hz1, hz2⟩ := info_parts Try.info34
  have C2 : Hid (∀ W, Below w.heap.size w W → Calls Try.prog 34 #[Su.pv vr vx] W fun e w' => ∃ ra rc xa xc, e = .returned (Su.pv (.slice ra R.length rc) (.slice xa X.length xc)) ∧ Tk.Row w' W.heap.size (.slice ra R.length rc) R ∧ w'.ownsRow W.heap.size 2 1 (.slice xa X.length xc) X.length (ints X) ∧ Below W.heap.size W w') := fun W hb => (Cp.scopy_any R X vr vx W (hh.1.on hb) (hh.2.1.on hb) (by omega) (by omega) (fun i hi => by have := F.len i hi; omega) (by omega)).mono (by
    rintro e w' ⟨r, x, rfl, g1, g2, g3⟩
    obtain ⟨ra, rc, rfl⟩ := g1.reads.form
    obtain ⟨xa, xc, rfl⟩ := (Lists.reads_row g2).form
    exact ⟨ra, rc, xa, xc, rfl, g1, g2, g3⟩)
  obtain ⟨vb, vo, hvb, KJ0⟩ : ∃ vb vo, aj = some ⟨vb, vo, none⟩ ∧ (∀ W, Below w.heap.size w W → ∀ i, i < J.length → Jb.Cs W vb vo J i) := by
    rcases hh.2.2 with ⟨e, _⟩ | ⟨b, o, cap, h1, h2, h3, h4, h5⟩
    · rw [e] at o3; simp at o3; omega
    · rw [ej] at h1
      simp at h1
      exact ⟨b, o, h1.1, fun W hb i hi => (h5 i hi).below hb h4⟩
  subst hvb
  have KJ : Hid (∀ W, Below w.heap.size w W → ∀ i, i < J.length → Jb.Cs W vb vo J i) := KJ0
  have HL0 := jvs_len J
  have H1 : Hid (∀ u ∈ jvs J, u.oneCell' = true) := jvs_one J
  subst er ex ej
  obtain ⟨n, hn⟩ : ∃ n, R.length = n := ⟨_, rfl⟩
  obtain ⟨m, hm⟩ : ∃ m, X.length = m := ⟨_, rfl⟩
  have HM : Hid (X.length = m) := hm
  have HJ : Hid (J.length = n) := o3.trans hn
  have HL : Hid ((jvs J).length = n * 2) := (by show _ = _; rw [HL0, HJ.out])
  simp only [o3, hn, hm] at HW0 Y0 n60 n1 m6 m1 C2 ⊢
  clear hh hw0 hk o1 o2 o3 hn hm F KJ0 HL0
  go_enter Try.func26, Try.ntmps26
  go_upto_region 1 with fail
  rw [← HW0.out]
  clear HW0
  refine wp_region_held_drew (S := (fun w' => w'.cell? ⟨w.heap.size, 0, none⟩ = some (.slice ar n cr) ∧ w'.cell? ⟨w.heap.size, 1, none⟩ = some (.slice ax m cx) ∧ w'.cell? ⟨w.heap.size, 2, none⟩ = some (.int .i64 now) ∧ w'.cell? ⟨w.heap.size, 3, none⟩ = some (.slice (some ⟨vb, vo, none⟩) n cj))) (by kernel_rfl) (by (try dsimp only); exact (Y0.out.on (Below.refl _ _).drew).s) (fun hHeld => ?_)
  refine wpAnyH_take (i := 0) (oi := { dst := some 3, op := Go.Op.fieldAddr 30 (Go.Operand.tmp 1) 0, type := 0, pos := "l24_suites.go:77", after := #[], guard := none }) (v := ?_) rfl (by kernel_rfl) (by kernel_rfl) (by kernel_rfl) (fun _ _ _ h => h) (Or.inl ⟨by rfl, ?_⟩) (by assumption) ?_
  rotate_left 1
  · (intro w hSw; (try dsimp only at hSw); go_simp); all_goals (with_reducible rfl)
  try simp only [Act.put, List.setIfInBounds_toArray, List.set_cons_zero, List.set_cons_succ]
  refine wpAnyH_take (i := 1) (oi := { dst := some 4, op := Go.Op.load 27 (Go.Operand.tmp 3), type := 27, pos := "l24_suites.go:77", after := #[{ on := 0, ground := Go.Ground.data }], guard := none }) (v := ?_) rfl (by kernel_rfl) (by kernel_rfl) (by kernel_rfl) (fun _ _ _ h => h) (Or.inl ⟨by rfl, ?_⟩) (by assumption) ?_
  rotate_left 1
  · (intro w hSw; (try dsimp only at hSw); go_simp); all_goals (with_reducible rfl)
  try simp only [Act.put, List.setIfInBounds_toArray, List.set_cons_zero, List.set_cons_succ]
  refine wpAnyH_take (i := 3) (oi := { dst := some 6, op := Go.Op.fieldAddr 30 (Go.Operand.tmp 1) 1, type := 0, pos := "l24_suites.go:77", after := #[], guard := none }) (v := ?_) rfl (by kernel_rfl) (by kernel_rfl) (by kernel_rfl) (fun _ _ _ h => h) (Or.inl ⟨by rfl, ?_⟩) (by assumption) ?_
  rotate_left 1
  · (intro w hSw; (try dsimp only at hSw); go_simp); all_goals (with_reducible rfl)
  try simp only [Act.put, List.setIfInBounds_toArray, List.set_cons_zero, List.set_cons_succ]
  refine wpAnyH_take (i := 4) (oi := { dst := some 7, op := Go.Op.load 2 (Go.Operand.tmp 6), type := 2, pos := "l24_suites.go:77", after := #[{ on := 3, ground := Go.Ground.data }], guard := none }) (v := ?_) rfl (by kernel_rfl) (by kernel_rfl) (by kernel_rfl) (fun _ _ _ h => h) (Or.inl ⟨by rfl, ?_⟩) (by assumption) ?_
  rotate_left 1
  · (intro w hSw; (try dsimp only at hSw); go_simp); all_goals (with_reducible rfl)
  try simp only [Act.put, List.setIfInBounds_toArray, List.set_cons_zero, List.set_cons_succ]
  refine wpAnyH_take (i := 6) (oi := { dst := some 9, op := Go.Op.fieldAddr 30 (Go.Operand.tmp 1) 2, type := 0, pos := "l24_suites.go:77", after := #[], guard := none }) (v := ?_) rfl (by kernel_rfl) (by kernel_rfl) (by kernel_rfl) (fun _ _ _ h => h) (Or.inl ⟨by rfl, ?_⟩) (by assumption) ?_
  rotate_left 1
  · (intro w hSw; (try dsimp only at hSw); go_simp); all_goals (with_reducible rfl)
  try simp only [Act.put, List.setIfInBounds_toArray, List.set_cons_zero, List.set_cons_succ]
  refine wpAnyH_take (i := 7) (oi := { dst := some 10, op := Go.Op.load 28 (Go.Operand.tmp 9), type := 28, pos := "l24_suites.go:77", after := #[{ on := 6, ground := Go.Ground.data }], guard := none }) (v := ?_) rfl (by kernel_rfl) (by kernel_rfl) (by kernel_rfl) (fun _ _ _ h => h) (Or.inl ⟨by rfl, ?_⟩) (by assumption) ?_
  rotate_left 1
  · (intro w hSw; (try dsimp only at hSw); go_simp); all_goals (with_reducible rfl)
  try simp only [Act.put, List.setIfInBounds_toArray, List.set_cons_zero, List.set_cons_succ]
  have Bv : Hid (Below w.heap.size w w0.drew) := B0.out.drew
  have Yv : Hid (Hd w0.drew w.heap.size (.slice ar n cr) (.slice ax m cx) now (.slice (some ⟨vb, vo, none⟩) n cj)) := Y0.out.on (Below.refl _ _).drew
  generalize w0.drew = v at hHeld Bv Yv ⊢
  refine wpAnyH_ready (rs := [2, 5]) (by kernel_rfl) (by simp) ?_
  refine AllReadyH.cons (o := { dst := some 5, op := Go.Op.call { callee := Go.Callee.value (Go.Operand.func 34), args := #[Go.Operand.tmp 4], argTypes := #[27] }, type := 27, pos := "l24_suites.go:77", after := #[{ on := 1, ground := Go.Ground.data }], guard := none }) rfl (fun K hK => ?_) (AllReadyH.cons (o := { dst := some 8, op := Go.Op.buildSlice 28 0 #[], type := 28, pos := "l24_suites.go:77", after := #[], guard := none }) rfl (fun K hK => ?_) AllReadyH.nil)
  · go_simp
    refine (C2.out _ Bv.out).mono ?_
    rintro e v2 ⟨ra, rc, xa, xc, rfl, p2, p2x, b2⟩
    go_wp2_with fail
    refine hK.out _ _ (by (try dsimp only); exact (Yv.out.on b2).s) (fun hHeld2 => ?_)
    clear hK K hHeld
    have hHeld := hHeld2
    clear hHeld2
    try simp only [Act.put, List.setIfInBounds_toArray, List.set_cons_zero, List.set_cons_succ]
    have Bv2 : Hid (Below w.heap.size w v2) := Bv.out.trans (b2.mono Bv.out.size)
    have Yv2 : Hid (Hd v2 w.heap.size (.slice ar n cr) (.slice ax m cx) now (.slice (some ⟨vb, vo, none⟩) n cj)) := Yv.out.on b2
    have Pv2 : Hid (Tk.Row v2 w.heap.size (.slice ra n rc) R ∧ v2.ownsRow w.heap.size 2 1 (.slice xa m xc) m (ints X)) := ⟨Su.row_down p2 Bv.out.size, Tk1.own_down p2x Bv.out.size⟩
    clear Bv Yv b2 p2 p2x
    refine wpAnyH_ready (rs := [5]) (by kernel_rfl) (by simp) ?_
    refine AllReadyH.cons (o := { dst := some 8, op := Go.Op.buildSlice 28 0 #[], type := 28, pos := "l24_suites.go:77", after := #[], guard := none }) rfl (fun K hK => ?_) AllReadyH.nil
    go_simp
    refine hK.out _ _ (by (try dsimp only); exact (Yv2.out.on ((Below.refl _ _).alloc (Nat.le_refl _) (.cells #[] 34))).s) (fun hHeld2 => ?_)
    clear hK K hHeld
    have hHeld := hHeld2
    clear hHeld2
    try simp only [Act.put, List.setIfInBounds_toArray, List.set_cons_zero, List.set_cons_succ]
    have bA : Below v2.heap.size v2 (v2.alloc (.cells #[] 34)) := (Below.refl _ _).alloc (Nat.le_refl _) _
    have rl := Yv2.out.res.lt
    have Bv3 : Hid (Below w.heap.size w (v2.alloc (.cells #[] 34))) := Bv2.out.trans (bA.mono Bv2.out.size)
    have Yv3 : Hid (Hd (v2.alloc (.cells #[] 34)) w.heap.size (.slice ar n cr) (.slice ax m cx) now (.slice (some ⟨vb, vo, none⟩) n cj)) := Yv2.out.on bA
    have Ev3 : Hid ((v2.alloc (.cells #[] 34)).ownsRow v2.heap.size 34 2 (.slice (some ⟨v2.heap.size, 0, none⟩) 0 0) 0 [] ∧ w.heap.size ≤ v2.heap.size ∧ w.heap.size + 1 < v2.heap.size) := ⟨Cp.empty_row 34 2, Bv2.out.size, rl⟩
    have Pv3 : Hid (Tk.Row (v2.alloc (.cells #[] 34)) w.heap.size (.slice ra n rc) R ∧ (v2.alloc (.cells #[] 34)).ownsRow w.heap.size 2 1 (.slice xa m xc) m (ints X)) := ⟨Pv2.out.1.on bA, Tk1.row_on Pv2.out.2 bA⟩
    clear bA rl Bv2 Yv2
    generalize v2.alloc (.cells #[] 34) = v3 at hHeld Bv3 Yv3 Ev3 Pv3 ⊢
    generalize v2.heap.size = g5 at Ev3 ⊢
    refine wpAnyH_ready (rs := [8]) (by kernel_rfl) (by simp) ?_
    refine AllReadyH.cons (o := { dst := some 11, op := Go.Op.call { callee := Go.Callee.builtin Go.Builtin.append, args := #[Go.Operand.tmp 8, Go.Operand.tmp 10], argTypes := #[28, 28] }, type := 28, pos := "l24_suites.go:77", after := #[{ on := 5, ground := Go.Ground.data }, { on := 7, ground := Go.Ground.data }, { on := 2, ground := Go.Ground.chain }], guard := none }) rfl (fun K hK => ?_) AllReadyH.nil
    have KN : ∀ j u, (jvs J)[j]? = some u → v3.cell? ((⟨vb, vo, none⟩ : Addr).add j) = some u := jvs_at (fun i hi => KJ.out v3 Bv3.out i hi)
    refine step_append_lies _ (by rfl) _ _ 28 (by rfl) g5 34 i0 (.agg #[.int .i64 0, .int .i64 0]) 2 16 Try.underlying28 hi hz0 hz1 hz2 rfl (by decide) _ _ _ (by rfl) Ev3.out.1 ⟨vb, vo, none⟩ n cj (jvs J) (by rfl) HL.out KN H1.out (by omega) (by unfold maxLen; omega) (by omega) (Nat.le_of_lt (Ev3.out.1.lt g5 rfl).2) v3.heap.size rfl ?_
    intro jb jc v4 hown hgrow hat hlt
    have gE := Ev3.out.2
    have bG : Below g5 v3 v4 := (Below.refl _ _).grown hgrow (Nat.le_of_lt (Ev3.out.1.lt g5 rfl).2) (fun k hk => by simp [Value.ownBlock] at hk; omega)
    refine hK.out _ _ (by (try dsimp only); exact (Yv3.out.low bG (by omega)).s) (fun hHeld2 => ?_)
    clear hK K hHeld
    have hHeld := hHeld2
    clear hHeld2
    try simp only [Act.put, List.setIfInBounds_toArray, List.set_cons_zero, List.set_cons_succ]
    have Bv4 : Hid (Below w.heap.size w v4) := Bv3.out.trans (bG.mono gE.1)
    have Yv4 : Hid (Hd v4 w.heap.size (.slice ar n cr) (.slice ax m cx) now (.slice (some ⟨vb, vo, none⟩) n cj)) := Yv3.out.low bG (by omega)
    have Qv4 : Hid (Jb.Row v4 w.heap.size (.slice (some ⟨jb, 0, none⟩) n jc) J) := ⟨jvs J, by rw [HJ.out]; exact World.ownsRow.mono (by simpa using hown) gE.1, jvs_good J⟩
    have Pv4 : Hid (Tk.Row v4 w.heap.size (.slice ra n rc) R ∧ v4.ownsRow w.heap.size 2 1 (.slice xa m xc) m (ints X)) := (by
                have ty := row_ty Ev3.out.1 g5 rfl
                have kb : KB (fun b => b = g5) v3 v4 := KB.of_grown hgrow (fun k hk => by simp [Value.ownBlock] at hk; exact hk.symm)
                exact ⟨trow_off Pv3.out.1 kb ty (by decide), row_kb Pv3.out.2 kb (fun g hg e => (row_ty Pv3.out.2 g hg).ne ty (by decide) e)⟩)
    clear KN hown hgrow hat hlt gE bG Bv3 Yv3 Ev3
    refine wpAnyH_take (i := 9) (oi := { dst := some 12, op := Go.Op.build 30 #[(0, Go.Operand.tmp 5), (1, Go.Operand.tmp 7), (2, Go.Operand.tmp 11)], type := 30, pos := "l24_suites.go:77", after := #[{ on := 2, ground := Go.Ground.data }, { on := 4, ground := Go.Ground.data }, { on := 8, ground := Go.Ground.data }], guard := none }) (v := ?_) rfl (by kernel_rfl) (by kernel_rfl) (by kernel_rfl) (fun _ _ _ h => h) (Or.inl ⟨by rfl, ?_⟩) (by assumption) ?_
    rotate_left 1
    · (intro w hSw; (try dsimp only at hSw); go_simp); all_goals (with_reducible rfl)
    try simp only [Act.put, List.setIfInBounds_toArray, List.set_cons_zero, List.set_cons_succ]
    have c0 : v4.cell? ⟨w.heap.size + 1, 0, none⟩ = some nilS := (Yv4.out.res.cell 0).trans rfl
    have f0 := Yv4.out.res.fz 0
    have c1 : v4.cell? ⟨w.heap.size + 1, 1, none⟩ = some nilS := (Yv4.out.res.cell 1).trans rfl
    have f1 := Yv4.out.res.fz 1
    have c2 : v4.cell? ⟨w.heap.size + 1, 2, none⟩ = some (.int .i64 0) := (Yv4.out.res.cell 2).trans rfl
    have f2 := Yv4.out.res.fz 2
    have c3 : v4.cell? ⟨w.heap.size + 1, 3, none⟩ = some nilS := (Yv4.out.res.cell 3).trans rfl
    have f3 := Yv4.out.res.fz 3
    have K4 := kb4 v4 (w.heap.size + 1) (.slice ra n rc) (.slice xa m xc) (.int .i64 now) (.slice (some ⟨jb, 0, none⟩) n jc)
    have AR : Bl ((((v4.setCell ⟨w.heap.size + 1, 0, none⟩ (.slice ra n rc)).setCell ⟨w.heap.size + 1, 1, none⟩ (.slice xa m xc)).setCell ⟨w.heap.size + 1, 2, none⟩ (.int .i64 now)).setCell ⟨w.heap.size + 1, 3, none⟩ (.slice (some ⟨jb, 0, none⟩) n jc)) w.heap.size 30 #[.slice ar n cr, .slice ax m cx, .int .i64 now, .slice (some ⟨vb, vo, none⟩) n cj] := Yv4.out.arg.kb K4 (fun e => by have e2 : w.heap.size = w.heap.size + 1 := e; omega)
    refine wpAnyH_ready (rs := [10]) (by kernel_rfl) (by simp) ?_
    refine AllReadyH.cons (o := { dst := none, op := Go.Op.store 30 (Go.Operand.tmp 2) (Go.Operand.tmp 12), type := 0, pos := "l24_suites.go:77", after := #[{ on := 9, ground := Go.Ground.data }, { on := 8, ground := Go.Ground.chain }, { on := 0, ground := Go.Ground.phase }, { on := 1, ground := Go.Ground.phase }, { on := 2, ground := Go.Ground.phase }, { on := 3, ground := Go.Ground.phase }, { on := 4, ground := Go.Ground.phase }, { on := 5, ground := Go.Ground.phase }, { on := 6, ground := Go.Ground.phase }, { on := 7, ground := Go.Ground.phase }, { on := 8, ground := Go.Ground.phase }, { on := 9, ground := Go.Ground.phase }], guard := none }) rfl (fun K hK => ?_) AllReadyH.nil
    go_simp
    refine hK.out _ _ (by (try dsimp only); exact ⟨(AR.cell 0).trans rfl, (AR.cell 1).trans rfl, (AR.cell 2).trans rfl, (AR.cell 3).trans rfl⟩) (fun hHeld2 => ?_)
    clear hK K hHeld
    have hHeld := hHeld2
    clear hHeld2
    try simp only [Act.put, List.setIfInBounds_toArray, List.set_cons_zero, List.set_cons_succ]
    refine wpAnyH_done (by kernel_rfl) ?_ _
    have RS : Bl ((((v4.setCell ⟨w.heap.size + 1, 0, none⟩ (.slice ra n rc)).setCell ⟨w.heap.size + 1, 1, none⟩ (.slice xa m xc)).setCell ⟨w.heap.size + 1, 2, none⟩ (.int .i64 now)).setCell ⟨w.heap.size + 1, 3, none⟩ (.slice (some ⟨jb, 0, none⟩) n jc)) (w.heap.size + 1) 30 #[.slice ra n rc, .slice xa m xc, .int .i64 now, .slice (some ⟨jb, 0, none⟩) n jc] := bl_set4 Yv4.out.res _ _ _ _
    have BB : Below w.heap.size w ((((v4.setCell ⟨w.heap.size + 1, 0, none⟩ (.slice ra n rc)).setCell ⟨w.heap.size + 1, 1, none⟩ (.slice xa m xc)).setCell ⟨w.heap.size + 1, 2, none⟩ (.int .i64 now)).setCell ⟨w.heap.size + 1, 3, none⟩ (.slice (some ⟨jb, 0, none⟩) n jc)) := bel4 Bv4.out (Nat.le_succ _) _ _ _ _
    have MM : MO ((((v4.setCell ⟨w.heap.size + 1, 0, none⟩ (.slice ra n rc)).setCell ⟨w.heap.size + 1, 1, none⟩ (.slice xa m xc)).setCell ⟨w.heap.size + 1, 2, none⟩ (.int .i64 now)).setCell ⟨w.heap.size + 1, 3, none⟩ (.slice (some ⟨jb, 0, none⟩) n jc)) w.heap.size (.slice ra n rc) (.slice xa m xc) (.slice (some ⟨jb, 0, none⟩) n jc) R X J := mo_box ⟨Pv4.out.1, by rw [HM.out]; exact Pv4.out.2, Qv4.out⟩ K4 Yv4.out.res.ty
    clear K4 AR c0 c1 c2 c3 f0 f1 f2 f3 hHeld
    go_wp2_with fail
    generalize ((((v4.setCell ⟨w.heap.size + 1, 0, none⟩ (.slice ra n rc)).setCell ⟨w.heap.size + 1, 1, none⟩ (.slice xa m xc)).setCell ⟨w.heap.size + 1, 2, none⟩ (.int .i64 now)).setCell ⟨w.heap.size + 1, 3, none⟩ (.slice (some ⟨jb, 0, none⟩) n jc)) = W at RS BB MM ⊢
    have q0 : W.cell? ⟨w.heap.size + 1, 0, none⟩ = some (.slice ra n rc) := (RS.cell 0).trans rfl
    have q1 : W.cell? ⟨w.heap.size + 1, 1, none⟩ = some (.slice xa m xc) := (RS.cell 1).trans rfl
    have q2 : W.cell? ⟨w.heap.size + 1, 2, none⟩ = some (.int .i64 now) := (RS.cell 2).trans rfl
    have q3 : W.cell? ⟨w.heap.size + 1, 3, none⟩ = some (.slice (some ⟨jb, 0, none⟩) n jc) := (RS.cell 3).trans rfl
    exact bodyPost_ret (v := rv (.slice ra n rc) (.slice xa m xc) now (.slice (some ⟨jb, 0, none⟩) n jc)) (by simp [results, Try.results26, go_sem, q0, q1, q2, q3]) rfl ⟨ra, rc, xa, xc, jb, jc, rfl, MM, BB⟩
  · go_simp
    refine hK.out _ _ (by (try dsimp only); exact (Yv.out.on ((Below.refl _ _).alloc (Nat.le_refl _) (.cells #[] 34))).s) (fun hHeld2 => ?_)
    clear hK K hHeld
    have hHeld := hHeld2
    clear hHeld2
    try simp only [Act.put, List.setIfInBounds_toArray, List.set_cons_zero, List.set_cons_succ]
    have bA : Below v.heap.size v (v.alloc (.cells #[] 34)) := (Below.refl _ _).alloc (Nat.le_refl _) _
    have rl := Yv.out.res.lt
    have Bv2 : Hid (Below w.heap.size w (v.alloc (.cells #[] 34))) := Bv.out.trans (bA.mono Bv.out.size)
    have Yv2 : Hid (Hd (v.alloc (.cells #[] 34)) w.heap.size (.slice ar n cr) (.slice ax m cx) now (.slice (some ⟨vb, vo, none⟩) n cj)) := Yv.out.on bA
    have Ev2 : Hid ((v.alloc (.cells #[] 34)).ownsRow v.heap.size 34 2 (.slice (some ⟨v.heap.size, 0, none⟩) 0 0) 0 [] ∧ w.heap.size ≤ v.heap.size ∧ w.heap.size + 1 < v.heap.size) := ⟨Cp.empty_row 34 2, Bv.out.size, rl⟩
    clear bA rl Bv Yv
    generalize v.alloc (.cells #[] 34) = v2 at hHeld Bv2 Yv2 Ev2 ⊢
    generalize v.heap.size = g5 at Ev2 ⊢
    refine wpAnyH_ready (rs := [2]) (by kernel_rfl) (by simp) ?_
    refine AllReadyH.cons (o := { dst := some 5, op := Go.Op.call { callee := Go.Callee.value (Go.Operand.func 34), args := #[Go.Operand.tmp 4], argTypes := #[27] }, type := 27, pos := "l24_suites.go:77", after := #[{ on := 1, ground := Go.Ground.data }], guard := none }) rfl (fun K hK => ?_) AllReadyH.nil
    go_simp
    refine (C2.out _ Bv2.out).mono ?_
    rintro e v3 ⟨ra, rc, xa, xc, rfl, p2, p2x, b2⟩
    go_wp2_with fail
    refine hK.out _ _ (by (try dsimp only); exact (Yv2.out.on b2).s) (fun hHeld2 => ?_)
    clear hK K hHeld
    have hHeld := hHeld2
    clear hHeld2
    try simp only [Act.put, List.setIfInBounds_toArray, List.set_cons_zero, List.set_cons_succ]
    have Bv3 : Hid (Below w.heap.size w v3) := Bv2.out.trans (b2.mono Bv2.out.size)
    have Yv3 : Hid (Hd v3 w.heap.size (.slice ar n cr) (.slice ax m cx) now (.slice (some ⟨vb, vo, none⟩) n cj)) := Yv2.out.on b2
    have Pv3 : Hid (Tk.Row v3 w.heap.size (.slice ra n rc) R ∧ v3.ownsRow w.heap.size 2 1 (.slice xa m xc) m (ints X)) := ⟨Su.row_down p2 Bv2.out.size, Tk1.own_down p2x Bv2.out.size⟩
    have Ev3 : Hid (v3.ownsRow g5 34 2 (.slice (some ⟨g5, 0, none⟩) 0 0) 0 [] ∧ w.heap.size ≤ g5 ∧ w.heap.size + 1 < g5) := ⟨Tk.row_below Ev2.out.1 b2, Ev2.out.2⟩
    clear Bv2 Yv2 b2 p2 p2x
    refine wpAnyH_ready (rs := [8]) (by kernel_rfl) (by simp) ?_
    refine AllReadyH.cons (o := { dst := some 11, op := Go.Op.call { callee := Go.Callee.builtin Go.Builtin.append, args := #[Go.Operand.tmp 8, Go.Operand.tmp 10], argTypes := #[28, 28] }, type := 28, pos := "l24_suites.go:77", after := #[{ on := 5, ground := Go.Ground.data }, { on := 7, ground := Go.Ground.data }, { on := 2, ground := Go.Ground.chain }], guard := none }) rfl (fun K hK => ?_) AllReadyH.nil
    have KN : ∀ j u, (jvs J)[j]? = some u → v3.cell? ((⟨vb, vo, none⟩ : Addr).add j) = some u := jvs_at (fun i hi => KJ.out v3 Bv3.out i hi)
    refine step_append_lies _ (by rfl) _ _ 28 (by rfl) g5 34 i0 (.agg #[.int .i64 0, .int .i64 0]) 2 16 Try.underlying28 hi hz0 hz1 hz2 rfl (by decide) _ _ _ (by rfl) Ev3.out.1 ⟨vb, vo, none⟩ n cj (jvs J) (by rfl) HL.out KN H1.out (by omega) (by unfold maxLen; omega) (by omega) (Nat.le_of_lt (Ev3.out.1.lt g5 rfl).2) v3.heap.size rfl ?_
    intro jb jc v4 hown hgrow hat hlt
    have gE := Ev3.out.2
    have bG : Below g5 v3 v4 := (Below.refl _ _).grown hgrow (Nat.le_of_lt (Ev3.out.1.lt g5 rfl).2) (fun k hk => by simp [Value.ownBlock] at hk; omega)
    refine hK.out _ _ (by (try dsimp only); exact (Yv3.out.low bG (by omega)).s) (fun hHeld2 => ?_)
    clear hK K hHeld
    have hHeld := hHeld2
    clear hHeld2
    try simp only [Act.put, List.setIfInBounds_toArray, List.set_cons_zero, List.set_cons_succ]
    have Bv4 : Hid (Below w.heap.size w v4) := Bv3.out.trans (bG.mono gE.1)
    have Yv4 : Hid (Hd v4 w.heap.size (.slice ar n cr) (.slice ax m cx) now (.slice (some ⟨vb, vo, none⟩) n cj)) := Yv3.out.low bG (by omega)
    have Qv4 : Hid (Jb.Row v4 w.heap.size (.slice (some ⟨jb, 0, none⟩) n jc) J) := ⟨jvs J, by rw [HJ.out]; exact World.ownsRow.mono (by simpa using hown) gE.1, jvs_good J⟩
    have Pv4 : Hid (Tk.Row v4 w.heap.size (.slice ra n rc) R ∧ v4.ownsRow w.heap.size 2 1 (.slice xa m xc) m (ints X)) := (by
                have ty := row_ty Ev3.out.1 g5 rfl
                have kb : KB (fun b => b = g5) v3 v4 := KB.of_grown hgrow (fun k hk => by simp [Value.ownBlock] at hk; exact hk.symm)
                exact ⟨trow_off Pv3.out.1 kb ty (by decide), row_kb Pv3.out.2 kb (fun g hg e => (row_ty Pv3.out.2 g hg).ne ty (by decide) e)⟩)
    clear KN hown hgrow hat hlt gE bG Bv3 Yv3 Ev3
    refine wpAnyH_take (i := 9) (oi := { dst := some 12, op := Go.Op.build 30 #[(0, Go.Operand.tmp 5), (1, Go.Operand.tmp 7), (2, Go.Operand.tmp 11)], type := 30, pos := "l24_suites.go:77", after := #[{ on := 2, ground := Go.Ground.data }, { on := 4, ground := Go.Ground.data }, { on := 8, ground := Go.Ground.data }], guard := none }) (v := ?_) rfl (by kernel_rfl) (by kernel_rfl) (by kernel_rfl) (fun _ _ _ h => h) (Or.inl ⟨by rfl, ?_⟩) (by assumption) ?_
    rotate_left 1
    · (intro w hSw; (try dsimp only at hSw); go_simp); all_goals (with_reducible rfl)
    try simp only [Act.put, List.setIfInBounds_toArray, List.set_cons_zero, List.set_cons_succ]
    have c0 : v4.cell? ⟨w.heap.size + 1, 0, none⟩ = some nilS := (Yv4.out.res.cell 0).trans rfl
    have f0 := Yv4.out.res.fz 0
    have c1 : v4.cell? ⟨w.heap.size + 1, 1, none⟩ = some nilS := (Yv4.out.res.cell 1).trans rfl
    have f1 := Yv4.out.res.fz 1
    have c2 : v4.cell? ⟨w.heap.size + 1, 2, none⟩ = some (.int .i64 0) := (Yv4.out.res.cell 2).trans rfl
    have f2 := Yv4.out.res.fz 2
    have c3 : v4.cell? ⟨w.heap.size + 1, 3, none⟩ = some nilS := (Yv4.out.res.cell 3).trans rfl
    have f3 := Yv4.out.res.fz 3
    have K4 := kb4 v4 (w.heap.size + 1) (.slice ra n rc) (.slice xa m xc) (.int .i64 now) (.slice (some ⟨jb, 0, none⟩) n jc)
    have AR : Bl ((((v4.setCell ⟨w.heap.size + 1, 0, none⟩ (.slice ra n rc)).setCell ⟨w.heap.size + 1, 1, none⟩ (.slice xa m xc)).setCell ⟨w.heap.size + 1, 2, none⟩ (.int .i64 now)).setCell ⟨w.heap.size + 1, 3, none⟩ (.slice (some ⟨jb, 0, none⟩) n jc)) w.heap.size 30 #[.slice ar n cr, .slice ax m cx, .int .i64 now, .slice (some ⟨vb, vo, none⟩) n cj] := Yv4.out.arg.kb K4 (fun e => by have e2 : w.heap.size = w.heap.size + 1 := e; omega)
    refine wpAnyH_ready (rs := [10]) (by kernel_rfl) (by simp) ?_
    refine AllReadyH.cons (o := { dst := none, op := Go.Op.store 30 (Go.Operand.tmp 2) (Go.Operand.tmp 12), type := 0, pos := "l24_suites.go:77", after := #[{ on := 9, ground := Go.Ground.data }, { on := 8, ground := Go.Ground.chain }, { on := 0, ground := Go.Ground.phase }, { on := 1, ground := Go.Ground.phase }, { on := 2, ground := Go.Ground.phase }, { on := 3, ground := Go.Ground.phase }, { on := 4, ground := Go.Ground.phase }, { on := 5, ground := Go.Ground.phase }, { on := 6, ground := Go.Ground.phase }, { on := 7, ground := Go.Ground.phase }, { on := 8, ground := Go.Ground.phase }, { on := 9, ground := Go.Ground.phase }], guard := none }) rfl (fun K hK => ?_) AllReadyH.nil
    go_simp
    refine hK.out _ _ (by (try dsimp only); exact ⟨(AR.cell 0).trans rfl, (AR.cell 1).trans rfl, (AR.cell 2).trans rfl, (AR.cell 3).trans rfl⟩) (fun hHeld2 => ?_)
    clear hK K hHeld
    have hHeld := hHeld2
    clear hHeld2
    try simp only [Act.put, List.setIfInBounds_toArray, List.set_cons_zero, List.set_cons_succ]
    refine wpAnyH_done (by kernel_rfl) ?_ _
    have RS : Bl ((((v4.setCell ⟨w.heap.size + 1, 0, none⟩ (.slice ra n rc)).setCell ⟨w.heap.size + 1, 1, none⟩ (.slice xa m xc)).setCell ⟨w.heap.size + 1, 2, none⟩ (.int .i64 now)).setCell ⟨w.heap.size + 1, 3, none⟩ (.slice (some ⟨jb, 0, none⟩) n jc)) (w.heap.size + 1) 30 #[.slice ra n rc, .slice xa m xc, .int .i64 now, .slice (some ⟨jb, 0, none⟩) n jc] := bl_set4 Yv4.out.res _ _ _ _
    have BB : Below w.heap.size w ((((v4.setCell ⟨w.heap.size + 1, 0, none⟩ (.slice ra n rc)).setCell ⟨w.heap.size + 1, 1, none⟩ (.slice xa m xc)).setCell ⟨w.heap.size + 1, 2, none⟩ (.int .i64 now)).setCell ⟨w.heap.size + 1, 3, none⟩ (.slice (some ⟨jb, 0, none⟩) n jc)) := bel4 Bv4.out (Nat.le_succ _) _ _ _ _
    have MM : MO ((((v4.setCell ⟨w.heap.size + 1, 0, none⟩ (.slice ra n rc)).setCell ⟨w.heap.size + 1, 1, none⟩ (.slice xa m xc)).setCell ⟨w.heap.size + 1, 2, none⟩ (.int .i64 now)).setCell ⟨w.heap.size + 1, 3, none⟩ (.slice (some ⟨jb, 0, none⟩) n jc)) w.heap.size (.slice ra n rc) (.slice xa m xc) (.slice (some ⟨jb, 0, none⟩) n jc) R X J := mo_box ⟨Pv4.out.1, by rw [HM.out]; exact Pv4.out.2, Qv4.out⟩ K4 Yv4.out.res.ty
    clear K4 AR c0 c1 c2 c3 f0 f1 f2 f3 hHeld
    go_wp2_with fail
    generalize ((((v4.setCell ⟨w.heap.size + 1, 0, none⟩ (.slice ra n rc)).setCell ⟨w.heap.size + 1, 1, none⟩ (.slice xa m xc)).setCell ⟨w.heap.size + 1, 2, none⟩ (.int .i64 now)).setCell ⟨w.heap.size + 1, 3, none⟩ (.slice (some ⟨jb, 0, none⟩) n jc)) = W at RS BB MM ⊢
    have q0 : W.cell? ⟨w.heap.size + 1, 0, none⟩ = some (.slice ra n rc) := (RS.cell 0).trans rfl
    have q1 : W.cell? ⟨w.heap.size + 1, 1, none⟩ = some (.slice xa m xc) := (RS.cell 1).trans rfl
    have q2 : W.cell? ⟨w.heap.size + 1, 2, none⟩ = some (.int .i64 now) := (RS.cell 2).trans rfl
    have q3 : W.cell? ⟨w.heap.size + 1, 3, none⟩ = some (.slice (some ⟨jb, 0, none⟩) n jc) := (RS.cell 3).trans rfl
    exact bodyPost_ret (v := rv (.slice ra n rc) (.slice xa m xc) now (.slice (some ⟨jb, 0, none⟩) n jc)) (by simp [results, Try.results26, go_sem, q0, q1, q2, q3]) rfl ⟨ra, rc, xa, xc, jb, jc, rfl, MM, BB⟩
end Go.Proofs.Ytfhpomfdkpfooaa.Ty
