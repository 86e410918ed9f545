/- StateAt: the program. -/
import Derived.Test.YtmbhlmpdkkjedaaMa
namespace Go.Proofs.Ytmbhlmpdkkjedaa.To
open Go.ChangeShapes Go.WideShapes Go.ChangeAt Go.RowKit
open Go.Proofs.Ytmbhlmpdkkjedaa.Al

theorem results_cell3 {P : Program} {fn : Func} {p u v : Tmp} {ty : TypeId} (h : fn.results = #[.cell p ty, .tmp u, .tmp v]) (tmps : Array Value) (w : World) (g : Nat) (t : TypeId) (cs : Array Value) (fr : Nat × Nat) (d : TypeDesc)
    (hp : tmps.getD p undef = .pointer (some ⟨g, 0, none⟩)) (hg : w.heap[g]? = some (.cells cs t fr))
    (hu : P.underlying ty = some d) (hd : (match d with | .struct _ | .array _ _ => true | _ => false) = true) (hi : (P.info? ty).map (·.size) = some cs.size) :
    (results fn tmps).run P w = .ok (.tuple #[.agg cs, tmps.getD u undef, tmps.getD v undef]) w := by
  have hp' : tmps[p]?.getD undef = .pointer (some ⟨g, 0, none⟩) := by simpa using hp
  simp [results, h, hp', asAddr, run_loadVar_row w g t ty cs fr d hg hu hd hi]
theorem row_far6 {w : World} {B r : Nat} {v : Value} {L : Sy.Ls} (h : Sy.Row w B v L) (hr : r < B) (v0 v1 v2 v3 v4 v5 : Value) : Sy.Row ((((((w.setCell ⟨r, 0, none⟩ v0).setCell ⟨r, 1, none⟩ v1).setCell ⟨r, 2, none⟩ v2).setCell ⟨r, 3, none⟩ v3).setCell ⟨r, 4, none⟩ v4).setCell ⟨r, 5, none⟩ v5) B v L := by
  have one : ∀ (w : World) (o : Nat) (x : Value), Sy.Row w B v L → Sy.Row (w.setCell ⟨r, o, none⟩ x) B v L := by
    intro w o x h
    obtain ⟨xs, ⟨h0, h⟩, hg⟩ := h
    refine ⟨xs, ⟨h0, ?_⟩, hg⟩
    rcases h with h | ⟨g, cap, cur, h1, h2, h3, h4⟩
    · exact .inl h
    · exact .inr ⟨g, cap, cur, h1, h2, (Below.heap_setCell w ⟨r, o, none⟩ x g (by show g ≠ r; omega)).trans h3, h4⟩
  exact one _ _ _ (one _ _ _ (one _ _ _ (one _ _ _ (one _ _ _ (one _ _ _ h)))))
def sok (C : ByteArray) (I f t d p v : Int) (W O : ByteArray) (b : Int) (L : Ch.Ls) (x : Int) : Bool := tok C I f t d p v W O b L && (decide (f ≤ x) && decide (x < t))
abbrev Z6 : Sk.Sky := (0, 0, 0, Sk.E, Sk.E, 0)
def sA (C : ByteArray) (I f t d p v : Int) (W O : ByteArray) (b : Int) (L : Ch.Ls) (x : Int) : Sk.Sky := if sok C I f t d p v W O b L x = true then hs (d, p, v, W, O, b) L x L.length else Z6
def sM (C : ByteArray) (I f t d p v : Int) (W O : ByteArray) (b : Int) (L : Ch.Ls) (x : Int) : Sy.Ls := if sok C I f t d p v W O b L x = true then my (hs (d, p, v, W, O, b) L x L.length) L x L.length else []
set_option maxRecDepth 20000 in
set_option maxHeartbeats 4000000 in
theorem istate_any (C : ByteArray) (I f t d p v : Int) (W O : ByteArray) (b : Int) (u : Value) (L : Ch.Ls) (x : Int) (w : World) (hL : Ch.Reads w u L) (hl : L.length ≤ 1048576) :
    Calls Try.prog 13 #[Tf.tv C I f t d p v W O b u, .int .i64 x] w fun e w' => ∃ v', e = .returned (.tuple #[Sk.sv (sA C I f t d p v W O b L x), v', .bool (sok C I f t d p v W O b L x)]) ∧ Sy.Row w' w.heap.size v' (sM C I f t d p v W O b L x) ∧ Below w.heap.size w w' := by
  have C1 : Hid (∀ w', Below w.heap.size w w' → Calls Try.prog 10 #[Tf.tv C I f t d p v W O b u] w' fun e w'' => e = .returned (.bool (tok C I f t d p v W O b L)) ∧ Below w'.heap.size w' w'') := fun w' hb => itaf_any C I f t d p v W O b u L w' (hL.on hb)
  have C2 : Hid (∀ w, Calls Try.prog 45 #[sp f t, .int .i64 x] w fun e w' => e = .returned (.bool (decide (f ≤ x) && decide (x < t))) ∧ Below w.heap.size w w') := fun w => holds_any f t x w
  have C3 : Hid (∀ w', Below w.heap.size w w' → Calls Try.prog 46 #[Tf.tv C I f t d p v W O b u, .int .i64 x] w' fun e w'' => e = .returned (Sk.sv (hs (d, p, v, W, O, b) L x L.length)) ∧ Below w'.heap.size w' w'') := fun w' hb => iholds_any C I f t d p v W O b u L x w' (hL.on hb)
  obtain ⟨x0, x1, x2, x3, x4, x5, hx⟩ : ∃ x0 x1 x2 x3 x4 x5, hs (d, p, v, W, O, b) L x L.length = (x0, x1, x2, x3, x4, x5) := ⟨_, _, _, _, _, _, rfl⟩
  have C4 : Hid (∀ w', Below w.heap.size w w' → Calls Try.prog 47 #[Tf.tv C I f t d p v W O b u, .int .i64 x, Sk.sk x0 x1 x2 x3 x4 x5] w' fun e w'' => ∃ v', e = .returned v' ∧ Sy.Row w'' w'.heap.size v' (my (x0, x1, x2, x3, x4, x5) L x L.length) ∧ Below w'.heap.size w' w'') := fun w' hb => imay_any C I f t d p v W O b u x0 x1 x2 x3 x4 x5 L x w' (hL.on hb) hl
  rw [hx] at C3
  have C3' : Hid (∀ w', Below w.heap.size w w' → Calls Try.prog 46 #[Tf.tv C I f t d p v W O b u, .int .i64 x] w' fun e w'' => e = .returned (Sk.sk x0 x1 x2 x3 x4 x5) ∧ Below w'.heap.size w' w'') := C3
  clear C3
  have HSO : Hid (sok C I f t d p v W O b L x = (tok C I f t d p v W O b L && (decide (f ≤ x) && decide (x < t)))) := rfl
  have HA : Hid (sok C I f t d p v W O b L x = true → sA C I f t d p v W O b L x = (x0, x1, x2, x3, x4, x5) ∧ sM C I f t d p v W O b L x = my (x0, x1, x2, x3, x4, x5) L x L.length) := fun h => by unfold sA sM; rw [h, hx]; exact ⟨rfl, rfl⟩
  have HZ : Hid (sok C I f t d p v W O b L x = false → sA C I f t d p v W O b L x = Z6 ∧ sM C I f t d p v W O b L x = []) := fun h => by unfold sA sM; rw [h]; exact ⟨rfl, rfl⟩
  generalize sok C I f t d p v W O b L x = q at *
  generalize sA C I f t d p v W O b L x = A at *
  generalize sM C I f t d p v W O b L x = M at *
  generalize tok C I f t d p v W O b L = b1 at *
  generalize (decide (f ≤ x) && decide (x < t)) = b2 at *
  obtain ⟨sa, sc, hu⟩ := hL.form
  subst hu
  clear hx hL
  generalize L.length = n at *
  obtain ⟨wb, hwb⟩ : ∃ wb, wb = (w.alloc (.cells #[.string C, .int .i64 I, .int .i64 f, .int .i64 t, .int .i64 d, .int .i64 p, .int .i64 v, .string W, .string O, .int .i64 b, (.slice sa n sc)] 35)).alloc (.cells #[.int .i64 0, .int .i64 0, .int .i64 0, .string ⟨#[]⟩, .string ⟨#[]⟩, .int .i64 0] 32) := ⟨_, rfl⟩
  have HW : Hid (wb = (w.alloc (.cells #[.string C, .int .i64 I, .int .i64 f, .int .i64 t, .int .i64 d, .int .i64 p, .int .i64 v, .string W, .string O, .int .i64 b, (.slice sa n sc)] 35)).alloc (.cells #[.int .i64 0, .int .i64 0, .int .i64 0, .string ⟨#[]⟩, .string ⟨#[]⟩, .int .i64 0] 32)) := hwb
  have BW : Hid (Below w.heap.size w wb) := (by show Below _ _ _; rw [hwb]; exact ((Below.refl _ _).alloc (Nat.le_refl _) _).alloc (by simp) _)
  have KT : Hid (Tf.TB wb w.heap.size C I f t d p v W O b (.slice sa n sc)) := (by show Tf.TB _ _ _ _ _ _ _ _ _ _ _ _ _; rw [hwb]; exact (Tf.TB.new w C I f t d p v W O b (.slice sa n sc)).on ((Below.refl _ _).alloc (Nat.le_refl _) _) (by simp))
  have K0 : Hid (Sk.SB wb (w.heap.size + 1) 0 0 0 Sk.E Sk.E 0) := (by
    show Sk.SB _ _ _ _ _ _ _ _
    rw [hwb]
    have := Sk.SB.new (w.alloc (.cells #[.string C, .int .i64 I, .int .i64 f, .int .i64 t, .int .i64 d, .int .i64 p, .int .i64 v, .string W, .string O, .int .i64 b, (.slice sa n sc)] 35)) 0 0 0 ⟨#[]⟩ ⟨#[]⟩ 0
    simpa using this)
  clear hwb
  obtain ⟨c0, c1, c2, c3, c4, c5, c6, c7, c8, c9, c10, _⟩ := KT.out.cells
  go_enter Try.func13, Try.ntmps13
  go_wp2_with fail
  rw [← HW.out]
  refine (C1.out _ BW.out).mono ?_
  rintro e w1 ⟨rfl, hb⟩
  have T1 : Hid (Tf.TB w1 w.heap.size C I f t d p v W O b (.slice sa n sc)) := KT.out.on hb KT.out.lt
  have U1 : Hid (Sk.SB w1 (w.heap.size + 1) 0 0 0 Sk.E Sk.E 0) := K0.out.on hb K0.out.lt
  have B1 : Hid (Below w.heap.size w w1) := BW.out.trans (hb.mono BW.out.size)
  clear c0 c1 c2 c3 c4 c5 c6 c7 c8 c9 c10 hb HW
  cases b1
  · obtain ⟨d0, d1, d2, d3, d4, d5, fr⟩ := U1.out.cells
    have f0 := fr 0
    have f1 := fr 1
    have f2 := fr 2
    have f3 := fr 3
    have f4 := fr 4
    have f5 := fr 5
    clear fr
    go_wp2_with fail
    have hq : q = false := by rw [HSO.out]; rfl
    obtain ⟨hA, hM⟩ := HZ.out hq
    rw [hA, hM, hq]
    exact bodyPost_ret (results_cell3 Try.results13 _ _ (w.heap.size + 1) 32 _ (0, 0) _ rfl (U1.out.all 0 0 0 ⟨#[]⟩ ⟨#[]⟩ 0) Try.underlying32 rfl Sk.size26) rfl ⟨_, rfl, Row.none _ _, Sk.below_all B1.out (by omega) _ _ _ _ _ _⟩
  obtain ⟨c0, c1, c2, c3, c4, c5, c6, c7, c8, c9, c10, _⟩ := T1.out.cells
  go_wp2_with fail
  refine (C2.out _).mono ?_
  rintro e w2 ⟨rfl, hb⟩
  have T2 : Hid (Tf.TB w2 w.heap.size C I f t d p v W O b (.slice sa n sc)) := T1.out.on hb T1.out.lt
  have U2 : Hid (Sk.SB w2 (w.heap.size + 1) 0 0 0 Sk.E Sk.E 0) := U1.out.on hb U1.out.lt
  have B2 : Hid (Below w.heap.size w w2) := B1.out.trans (hb.mono B1.out.size)
  clear c0 c1 c2 c3 c4 c5 c6 c7 c8 c9 c10 hb
  cases b2
  · obtain ⟨d0, d1, d2, d3, d4, d5, fr⟩ := U2.out.cells
    have f0 := fr 0
    have f1 := fr 1
    have f2 := fr 2
    have f3 := fr 3
    have f4 := fr 4
    have f5 := fr 5
    clear fr
    go_wp2_with fail
    have hq : q = false := by rw [HSO.out]; rfl
    obtain ⟨hA, hM⟩ := HZ.out hq
    rw [hA, hM, hq]
    exact bodyPost_ret (results_cell3 Try.results13 _ _ (w.heap.size + 1) 32 _ (0, 0) _ rfl (U2.out.all 0 0 0 ⟨#[]⟩ ⟨#[]⟩ 0) Try.underlying32 rfl Sk.size26) rfl ⟨_, rfl, Row.none _ _, Sk.below_all B2.out (by omega) _ _ _ _ _ _⟩
  have hq : q = true := by rw [HSO.out]; rfl
  obtain ⟨hA, hM⟩ := HA.out hq
  subst hq
  subst hA
  subst hM
  clear HA HZ HSO
  obtain ⟨c0, c1, c2, c3, c4, c5, c6, c7, c8, c9, c10, _⟩ := T2.out.cells
  go_wp2_with fail
  refine (C3'.out _ B2.out).mono ?_
  rintro e w2' ⟨rfl, hb⟩
  have T2' : Hid (Tf.TB w2' w.heap.size C I f t d p v W O b (.slice sa n sc)) := T2.out.on hb T2.out.lt
  have U2' : Hid (Sk.SB w2' (w.heap.size + 1) 0 0 0 Sk.E Sk.E 0) := U2.out.on hb U2.out.lt
  have B2' : Hid (Below w.heap.size w w2') := B2.out.trans (hb.mono B2.out.size)
  clear c0 c1 c2 c3 c4 c5 c6 c7 c8 c9 c10 hb T2 U2 B2 T1 U1 B1
  obtain ⟨w3, hw3⟩ : ∃ w3, w3 = w2'.alloc (.cells #[.int .i64 x0, .int .i64 x1, .int .i64 x2, .string x3, .string x4, .int .i64 x5] 32) := ⟨_, rfl⟩
  have HW3 : Hid (w3 = w2'.alloc (.cells #[.int .i64 x0, .int .i64 x1, .int .i64 x2, .string x3, .string x4, .int .i64 x5] 32)) := hw3
  have Q3 : Hid (Below w2'.heap.size w2' w3) := (by show Below _ _ _; rw [hw3]; exact (Below.refl _ _).alloc (Nat.le_refl _) _)
  have S3 : Hid (Sk.SB w3 w2'.heap.size x0 x1 x2 x3 x4 x5) := (by show Sk.SB _ _ _ _ _ _ _ _; rw [hw3]; exact Sk.SB.new w2' x0 x1 x2 x3 x4 x5)
  clear hw3
  have T3 : Hid (Tf.TB w3 w.heap.size C I f t d p v W O b (.slice sa n sc)) := T2'.out.on Q3.out T2'.out.lt
  have U3 : Hid (Sk.SB w3 (w.heap.size + 1) 0 0 0 Sk.E Sk.E 0) := U2'.out.on Q3.out U2'.out.lt
  have B3 : Hid (Below w.heap.size w w3) := B2'.out.trans (Q3.out.mono B2'.out.size)
  have HNE : Hid (w2'.heap.size ≠ w.heap.size + 1) := (by have := U2'.out.lt; show _ ≠ _; omega)
  have S3d : Hid (Sk.SB w3.drew w2'.heap.size x0 x1 x2 x3 x4 x5) := S3.out.on (Below.refl _ _).drew S3.out.lt
  have T3d : Hid (Tf.TB w3.drew w.heap.size C I f t d p v W O b (.slice sa n sc)) := T3.out.on (Below.refl _ _).drew T3.out.lt
  have U3d : Hid (Sk.SB w3.drew (w.heap.size + 1) 0 0 0 Sk.E Sk.E 0) := U3.out.on (Below.refl _ _).drew U3.out.lt
  have B3d : Hid (Below w.heap.size w w3.drew) := B3.out.drew
  have QD := B3d
  obtain ⟨c0, c1, c2, c3, c4, c5, c6, c7, c8, c9, c10, _⟩ := T3.out.cells
  obtain ⟨a0, a1, a2, a3, a4, a5, _⟩ := S3.out.cells
  go_upto_region 4 with fail
  rw [← HW3.out]
  refine wp_region_held_drew (S := (fun w' => w'.cell? ⟨w2'.heap.size, 0, none⟩ = some (.int .i64 x0) ∧ w'.cell? ⟨w2'.heap.size, 1, none⟩ = some (.int .i64 x1) ∧ w'.cell? ⟨w2'.heap.size, 2, none⟩ = some (.int .i64 x2) ∧ w'.cell? ⟨w2'.heap.size, 3, none⟩ = some (.string x3) ∧ w'.cell? ⟨w2'.heap.size, 4, none⟩ = some (.string x4) ∧ w'.cell? ⟨w2'.heap.size, 5, none⟩ = some (.int .i64 x5) ∧ w'.cell? ⟨w.heap.size, 0, none⟩ = some (.string C) ∧ w'.cell? ⟨w.heap.size, 1, none⟩ = some (.int .i64 I) ∧ w'.cell? ⟨w.heap.size, 2, none⟩ = some (.int .i64 f) ∧ w'.cell? ⟨w.heap.size, 3, none⟩ = some (.int .i64 t) ∧ w'.cell? ⟨w.heap.size, 4, none⟩ = some (.int .i64 d) ∧ w'.cell? ⟨w.heap.size, 5, none⟩ = some (.int .i64 p) ∧ w'.cell? ⟨w.heap.size, 6, none⟩ = some (.int .i64 v) ∧ w'.cell? ⟨w.heap.size, 7, none⟩ = some (.string W) ∧ w'.cell? ⟨w.heap.size, 8, none⟩ = some (.string O) ∧ w'.cell? ⟨w.heap.size, 9, none⟩ = some (.int .i64 b) ∧ w'.cell? ⟨w.heap.size, 10, none⟩ = some (.slice sa n sc))) (by kernel_rfl) (by (try dsimp only); go_keep) (fun hHeld => ?_)
  refine wpAnyH_take (i := 0) (oi := { dst := some 22, op := Go.Op.load 32 (Go.Operand.tmp 7), type := 32, pos := "l21_aviation.go:173", after := #[], guard := none }) (v := ?_) rfl (by kernel_rfl) (by kernel_rfl) (by kernel_rfl) (fun _ _ _ h => h) (Or.inl ⟨by rfl, ?_⟩) (by assumption) ?_
  rotate_left 1
  · (intro w hSw; (try dsimp only at hSw); go_simp); all_goals (with_reducible rfl)
  try simp only [Act.put, List.setIfInBounds_toArray, List.set_cons_zero, List.set_cons_succ]
  refine wpAnyH_take (i := 1) (oi := { dst := some 23, op := Go.Op.load 35 (Go.Operand.tmp 2), type := 35, pos := "l21_aviation.go:173", after := #[], guard := none }) (v := ?_) rfl (by kernel_rfl) (by kernel_rfl) (by kernel_rfl) (fun _ _ _ h => h) (Or.inl ⟨by rfl, ?_⟩) (by assumption) ?_
  rotate_left 1
  · (intro w hSw; (try dsimp only at hSw); go_simp); all_goals (with_reducible rfl)
  try simp only [Act.put, List.setIfInBounds_toArray, List.set_cons_zero, List.set_cons_succ]
  refine wpAnyH_take (i := 2) (oi := { dst := some 24, op := Go.Op.move (Go.Operand.tmp 1), type := 2, pos := "l21_aviation.go:173", after := #[], guard := none }) (v := ?_) rfl (by kernel_rfl) (by kernel_rfl) (by kernel_rfl) (fun _ _ _ h => h) (Or.inl ⟨by rfl, ?_⟩) (by assumption) ?_
  rotate_left 1
  · (intro w hSw; (try dsimp only at hSw); go_simp); all_goals (with_reducible rfl)
  try simp only [Act.put, List.setIfInBounds_toArray, List.set_cons_zero, List.set_cons_succ]
  refine wpAnyH_take (i := 3) (oi := { dst := some 25, op := Go.Op.load 32 (Go.Operand.tmp 7), type := 32, pos := "l21_aviation.go:173", after := #[], guard := none }) (v := ?_) rfl (by kernel_rfl) (by kernel_rfl) (by kernel_rfl) (fun _ _ _ h => h) (Or.inl ⟨by rfl, ?_⟩) (by assumption) ?_
  rotate_left 1
  · (intro w hSw; (try dsimp only at hSw); go_simp); all_goals (with_reducible rfl)
  try simp only [Act.put, List.setIfInBounds_toArray, List.set_cons_zero, List.set_cons_succ]
  refine wpAnyH_ready (rs := [4]) (by kernel_rfl) (by simp) ?_
  refine AllReadyH.cons (o := { dst := some 26, op := Go.Op.call { callee := Go.Callee.value (Go.Operand.func 47), args := #[Go.Operand.tmp 23, Go.Operand.tmp 24, Go.Operand.tmp 25], argTypes := #[35, 2, 32] }, type := 39, pos := "l21_aviation.go:173", after := #[{ on := 1, ground := Go.Ground.data }, { on := 2, ground := Go.Ground.data }, { on := 3, ground := Go.Ground.data }], guard := none }) rfl (fun K hK => ?_) AllReadyH.nil
  go_simp
  (refine (C4.out _ (by exact QD.out)).mono ?_; rintro e w4 ⟨vv, rfl, hr, hb4⟩; have R4 : Hid (Sy.Row w4 w3.drew.heap.size vv (my (x0, x1, x2, x3, x4, x5) L x n)) := hr; have S4 : Hid (Sk.SB w4 w2'.heap.size x0 x1 x2 x3 x4 x5) := S3d.out.on hb4 S3d.out.lt; have T4 : Hid (Tf.TB w4 w.heap.size C I f t d p v W O b (.slice sa n sc)) := T3d.out.on hb4 T3d.out.lt; have U4 : Hid (Sk.SB w4 (w.heap.size + 1) 0 0 0 Sk.E Sk.E 0) := U3d.out.on hb4 U3d.out.lt; have B4 : Hid (Below w.heap.size w w4) := B3d.out.trans (hb4.mono B3d.out.size); obtain ⟨e0, e1, e2, e3, e4, e5, _⟩ := S4.out.cells; obtain ⟨ff0, ff1, ff2, ff3, ff4, ff5, ff6, ff7, ff8, ff9, ff10, _⟩ := T4.out.cells; obtain ⟨uu0, uu1, uu2, uu3, uu4, uu5, ufr⟩ := U4.out.cells; have uf0 := ufr 0; have uf1 := ufr 1; have uf2 := ufr 2; have uf3 := ufr 3; have uf4 := ufr 4; have uf5 := ufr 5; clear hr hb4 ufr)
  go_wp2_with fail
  refine hK.out _ _ (by (try dsimp only); go_keep) (fun hHeld2 => ?_)
  clear hK K hHeld
  have hHeld := hHeld2
  clear hHeld2
  try simp only [Act.put, List.setIfInBounds_toArray, List.set_cons_zero, List.set_cons_succ]
  refine wpAnyH_ready (rs := [5]) (by kernel_rfl) (by simp) ?_
  refine AllReadyH.cons (o := { dst := none, op := Go.Op.store 32 (Go.Operand.tmp 4) (Go.Operand.tmp 22), type := 0, pos := "l21_aviation.go:173", after := #[{ on := 0, ground := Go.Ground.data }, { on := 4, ground := Go.Ground.chain }, { on := 0, ground := Go.Ground.phase }, { on := 1, ground := Go.Ground.textOnly Go.Departure.lateStores }, { on := 2, ground := Go.Ground.textOnly Go.Departure.lateStores }, { on := 3, ground := Go.Ground.textOnly Go.Departure.lateStores }, { on := 4, ground := Go.Ground.textOnly Go.Departure.lateStoresUnsure }], guard := none }) rfl (fun K hK => ?_) AllReadyH.nil
  go_simp
  refine hK.out _ _ (by (try dsimp only); (obtain ⟨k0, k1, k2, k3, k4, k5, _⟩ := (SB.keep6 S4.out HNE.out (.int .i64 x0) (.int .i64 x1) (.int .i64 x2) (.string x3) (.string x4) (.int .i64 x5)).cells; obtain ⟨kt0, kt1, kt2, kt3, kt4, kt5, kt6, kt7, kt8, kt9, kt10, _⟩ := (TB.keep6 T4.out (show w.heap.size ≠ w.heap.size + 1 by omega) (.int .i64 x0) (.int .i64 x1) (.int .i64 x2) (.string x3) (.string x4) (.int .i64 x5)).cells; exact ⟨k0, k1, k2, k3, k4, k5, kt0, kt1, kt2, kt3, kt4, kt5, kt6, kt7, kt8, kt9, kt10⟩)) (fun hHeld2 => ?_)
  clear hK K hHeld
  have hHeld := hHeld2
  clear hHeld2
  try simp only [Act.put, List.setIfInBounds_toArray, List.set_cons_zero, List.set_cons_succ]
  refine wpAnyH_take (i := 6) (oi := { dst := some 5, op := Go.Op.assign (Go.Operand.tmp 26), type := 39, pos := "l21_aviation.go:173", after := #[{ on := 4, ground := Go.Ground.data }, { on := 5, ground := Go.Ground.chain }, { on := 0, ground := Go.Ground.phase }, { on := 1, ground := Go.Ground.phase }, { on := 2, ground := Go.Ground.phase }, { on := 3, ground := Go.Ground.phase }, { on := 4, ground := Go.Ground.phase }, { on := 5, ground := Go.Ground.phase }], guard := none }) (v := ?_) rfl (by kernel_rfl) (by kernel_rfl) (by kernel_rfl) (fun _ _ _ h => h) (Or.inl ⟨by rfl, ?_⟩) (by assumption) ?_
  rotate_left 1
  · (intro w hSw; (try dsimp only at hSw); go_simp); all_goals (with_reducible rfl)
  try simp only [Act.put, List.setIfInBounds_toArray, List.set_cons_zero, List.set_cons_succ]
  refine wpAnyH_take (i := 7) (oi := { dst := some 6, op := Go.Op.assign (Go.Operand.const (Go.Value.bool true)), type := 4, pos := "l21_aviation.go:173", after := #[{ on := 6, ground := Go.Ground.chain }, { on := 0, ground := Go.Ground.phase }, { on := 1, ground := Go.Ground.phase }, { on := 2, ground := Go.Ground.phase }, { on := 3, ground := Go.Ground.phase }, { on := 4, ground := Go.Ground.phase }, { on := 5, ground := Go.Ground.phase }, { on := 6, ground := Go.Ground.phase }], guard := none }) (v := ?_) rfl (by kernel_rfl) (by kernel_rfl) (by kernel_rfl) (fun _ _ _ h => h) (Or.inl ⟨by rfl, ?_⟩) (by assumption) ?_
  rotate_left 1
  · (intro w hSw; (try dsimp only at hSw); go_simp); all_goals (with_reducible rfl)
  try simp only [Act.put, List.setIfInBounds_toArray, List.set_cons_zero, List.set_cons_succ]
  refine wpAnyH_done (by kernel_rfl) ?_ _
  go_wp2_with fail
  exact bodyPost_ret (results_cell3 Try.results13 _ _ (w.heap.size + 1) 32 _ (0, 0) _ rfl (U4.out.all x0 x1 x2 x3 x4 x5) Try.underlying32 rfl Sk.size26) rfl ⟨_, rfl, Row.down (row_far6 R4.out U3d.out.lt _ _ _ _ _ _) B3d.out.size, Sk.below_all B4.out (by omega) _ _ _ _ _ _⟩
end Go.Proofs.Ytmbhlmpdkkjedaa.To
