/- A problem marked: only its own blocks are written to. -/
import Derived.Test.YtaakiemmodncpaaDp
import Derived.Test.YtaakiemmodncpaaMo
namespace Go.Proofs.Ytaakiemmodncpaa.Mk
open Go.ChangeShapes Go.WideShapes Go.ChangeAt Go.RowKit
open Go.Proofs.Ytaakiemmodncpaa.Lists

/-- What is as it was but for the blocks of S. -/
structure KB (S : Nat → Prop) (w w' : World) : Prop where
  os : w'.os = w.os
  tape : w'.tape = w.tape
  output : w'.output = w.output
  size : w'.heap.size = w.heap.size
  block : ∀ k, ¬ S k → w'.heap[k]? = w.heap[k]?
theorem KB.refl (S : Nat → Prop) (w : World) : KB S w w := ⟨rfl, rfl, rfl, rfl, fun _ _ => rfl⟩
theorem KB.set {S : Nat → Prop} {w0 w : World} (h : KB S w0 w) (g o : Nat) (u : Value) (hs : S g) : KB S w0 (w.setCell ⟨g, o, none⟩ u) :=
  ⟨h.os, h.tape, h.output, by simp [h.size], fun k hk => (Below.heap_setCell w ⟨g, o, none⟩ u k (fun e => hk (by have : k = g := e; rw [this]; exact hs))).trans (h.block k hk)⟩
theorem KB.below {S : Nat → Prop} {w w' : World} {B : Nat} (h : KB S w w') (hs : ∀ k, S k → B ≤ k) : Below B w w' := ⟨h.os, h.tape, h.output, by rw [h.size]; exact Nat.le_refl _, fun k hk => h.block k (fun x => by have := hs k x; omega)⟩
/-- Rows of two types lie in two blocks. -/
theorem type_ne {w : World} {b1 b2 n1 n2 k1 k2 : Nat} {e1 e2 : TypeId} {v1 v2 : Value} {xs1 xs2 : List Value} (h1 : w.ownsRow b1 e1 k1 v1 n1 xs1) (h2 : w.ownsRow b2 e2 k2 v2 n2 xs2) (he : e1 ≠ e2) (g : Nat) (x1 : v1.ownBlock = some g) (x2 : v2.ownBlock = some g) : False := by
  rcases h1.2 with ⟨a, _⟩ | ⟨g1, c1, cur1, y1, _, z1, _⟩
  · rw [a] at x1; cases x1
  · rcases h2.2 with ⟨a, _⟩ | ⟨g2, c2, cur2, y2, _, z2, _⟩
    · rw [a] at x2; cases x2
    · rw [y1] at x1; rw [y2] at x2
      simp [Value.ownBlock] at x1 x2
      rw [x1] at z1; rw [x2] at z2
      rw [z1] at z2
      simp at z2
      exact he z2.2
theorem row_off {w : World} {base n k : Nat} {e : TypeId} {v : Value} {xs : List Value} (h : w.ownsRow base e k v n xs) (g o : Nat) (u : Value) (hn : v.ownBlock ≠ some g) : (w.setCell ⟨g, o, none⟩ u).ownsRow base e k v n xs := by
  refine h.kept (row := some g) (grown_setCell (World.grownBy.refl w (some g)) o u) ?_
  cases e' : v.ownBlock with
  | none => exact .inl rfl
  | some k => exact .inr fun x => hn (by simp at x; rw [e', x])
/-- a row of so many whole numbers -/
def AI (w : World) (base : Nat) (v : Value) (n : Nat) : Prop := ∃ L : List Int, L.length = n ∧ w.ownsRow base 2 1 v n (ints L)
theorem AI.put {w : World} {base n : Nat} {v : Value} (h : AI w base v n) (g o : Nat) (z : Int) : AI (w.setCell ⟨g, o, none⟩ (.int .i64 z)) base v n := by
  obtain ⟨L, hl, hr⟩ := h
  by_cases e : v.ownBlock = some g
  · rcases Mo.row_cases hr with ⟨hn, rfl⟩ | ⟨g', c, rfl, _, _, _, _⟩
    · cases e
    · simp [Value.ownBlock] at e
      subst e
      exact ⟨L.set o z, by simp [hl], Cf.row_put hr o z⟩
  · exact ⟨L, hl, row_off hr g o _ e⟩
def InB (base E : Nat) (v : Value) : Prop := ∀ g, v.ownBlock = some g → base ≤ g ∧ g < E
def SB (base E : Nat) (k : Nat) : Prop := base ≤ k ∧ k < E
/-- the lists of the rows, and the rows' own block -/
def RM (w : World) (base : Nat) (v : Value) (n : Nat) (us : Nat → Value) (ls : Nat → Nat) : Prop :=
  (∃ xs, w.ownsRow base 51 3 v n xs ∧ ∀ i, i < n → xs[i * 3]? = some (us i) ∧ (∃ z, xs[i * 3 + 1]? = some z) ∧ ∃ z, xs[i * 3 + 2]? = some z) ∧ ∀ i, i < n → AI w base (us i) (ls i)
theorem RM.int {w : World} {base n m : Nat} {v v' : Value} {us : Nat → Value} {ls : Nat → Nat} (h : RM w base v n us ls) (ha : AI w base v' m) (g o : Nat) (z : Int) (hg : v'.ownBlock = some g) : RM (w.setCell ⟨g, o, none⟩ (.int .i64 z)) base v n us ls := by
  obtain ⟨⟨xs, h1, h2⟩, h3⟩ := h
  obtain ⟨L, _, hr⟩ := ha
  exact ⟨⟨xs, row_off h1 g o _ (fun e => type_ne h1 hr (by decide) g e hg), h2⟩, fun i hi => (h3 i hi).put g o z⟩
theorem RM.own {w : World} {base n g c : Nat} {us : Nat → Value} {ls : Nat → Nat} (h : RM w base (.slice (some ⟨g, 0, none⟩) n c) n us ls) (k j : Nat) (hj : j = 1 ∨ j = 2) (z : Int) : RM (w.setCell ⟨g, k * 3 + j, none⟩ (.int .i64 z)) base (.slice (some ⟨g, 0, none⟩) n c) n us ls := by
  obtain ⟨⟨xs, h1, h2⟩, h3⟩ := h
  refine ⟨⟨_, (h1.stored (k * 3 + j) _).1, fun i hi => ?_⟩, fun i hi => (h3 i hi).put g _ z⟩
  obtain ⟨a, b, c⟩ := h2 i hi
  have some_set : ∀ p, (∃ z, xs[p]? = some z) → ∃ y, (xs.set (k * 3 + j) (.int .i64 z))[p]? = some y := fun p hp => by
    by_cases e : k * 3 + j = p
    · obtain ⟨y, hy⟩ := hp
      have := (List.getElem?_eq_some_iff.1 hy).1
      exact ⟨Value.int .i64 z, by rw [e, List.getElem?_set_self this]⟩
    · rw [List.getElem?_set_ne e]; exact hp
  exact ⟨by rw [List.getElem?_set_ne (by omega)]; exact a, some_set _ b, some_set _ c⟩

set_option maxHeartbeats 1000000 in
theorem markP (w : World) (base n : Nat) (v : Value) (k0 : Int) (I : World → Prop) (hk0 : 0 ≤ k0) (hk1 : k0 ≤ 4611686018427387904) (hn : n ≤ 2000000) (h : AI w base v n)
    (hI : ∀ w' g o z, v.ownBlock = some g → AI w' base v n → I w' → I (w'.setCell ⟨g, o, none⟩ (.int .i64 z))) (hi : I w) :
    Calls Try.prog 14 #[v, .int .i64 k0] w fun e w' => e = .returned (.int .i64 (k0 + n)) ∧ AI w' base v n ∧ I w' := by
  obtain ⟨L, hl, hr⟩ := h
  rcases Mo.row_cases hr with ⟨rfl, rfl⟩ | ⟨g, c, rfl, _, _, x1, x2⟩
  · have HR : Hid (AI w base (.slice none 0 0) 0 ∧ I w) := ⟨⟨L, hl, hr⟩, hi⟩
    clear hr hl hI hi
    go_enter Try.func14, Try.ntmps14
    go_wp2
    go_loop [1, 5] (fun k i => k = .int .i64 k0 ∧ i = .int .i64 0) (fun _ _ => 0)
    case atStart => exact ⟨rfl, rfl⟩
    case round =>
      obtain ⟨rfl, rfl⟩ := hrel
      go_wp2
      go_ret
      exact ⟨by simp, HR.out⟩
  · have R0 : Hid (AI w base (.slice (some ⟨g, 0, none⟩) n c) n ∧ I w) := ⟨⟨L, hl, hr⟩, hi⟩
    have HI : Hid (∀ w' o z, AI w' base (.slice (some ⟨g, 0, none⟩) n c) n → I w' → I (w'.setCell ⟨g, o, none⟩ (.int .i64 z))) := fun w' o z h1 h2 => hI w' g o z rfl h1 h2
    unfold maxLen at x2
    clear hr hl hI hi
    go_enter Try.func14, Try.ntmps14
    go_wp2
    go_loopw [1, 5] (fun k i wr => ∃ j : Nat, j ≤ n ∧ k = .int .i64 (k0 + j) ∧ i = .int .i64 j ∧ Hid (AI wr base (.slice (some ⟨g, 0, none⟩) n c) n ∧ I wr)) (fun _ i _ => n - (intOf i).toNat)
    case atStart => exact ⟨0, Nat.zero_le _, by simp, rfl, R0⟩
    case round =>
      obtain ⟨j, hj, rfl, rfl, R⟩ := hrel
      by_cases hlt : j < n
      · have i0 : (0 : Int) ≤ (j : Int) := by omega
        have i1 : (j : Int) < (n : Int) := by omega
        obtain ⟨L1, l1, r1⟩ := R.out.1
        have q1 : wr.cell? ⟨g, j, none⟩ = some (.int .i64 (L1.getD j 0)) := Cf.row_get r1 l1 j hlt
        have q2 : wr.frozen? ⟨g, j, none⟩ = false := r1.frozenAt j
        have R' : Hid (AI (wr.setCell ⟨g, j, none⟩ (.int .i64 (k0 + j))) base (.slice (some ⟨g, 0, none⟩) n c) n ∧ I (wr.setCell ⟨g, j, none⟩ (.int .i64 (k0 + j)))) := ⟨R.out.1.put g j _, HI.out wr j _ R.out.1 R.out.2⟩
        clear r1 l1
        generalize L1.getD j 0 = z at *
        go_wp2_with fail
        go_roundw
        case rel => exact ⟨j + 1, by omega, by go_num, by go_num, R'⟩
        case measure => simp [intOf]; omega
      · have hjn : j = n := by omega
        subst hjn
        go_wp2
        go_ret
        exact ⟨rfl, R.out⟩

set_option maxHeartbeats 1000000 in
set_option maxRecDepth 20000 in
theorem markR (w : World) (base E n : Nat) (v : Value) (us : Nat → Value) (ls : Nat → Nat) (k0 : Int) (hk0 : 0 ≤ k0) (hk1 : k0 ≤ 4611686018427387) (hn : n ≤ 1048576) (hl : ∀ i, i < n → ls i ≤ 1048576) (h : RM w base v n us ls)
    (hv : InB base E v) (hu : ∀ i, i < n → InB base E (us i)) (fu : ∀ i, i < n → ∃ a c, us i = .slice a (ls i) c) :
    Calls Try.prog 38 #[v, .int .i64 k0] w fun e w' => (∃ k : Int, 0 ≤ k ∧ k ≤ 46116860184273 * 100000 ∧ e = .returned (.int .i64 k)) ∧ KB (SB base E) w w' := by
  obtain ⟨⟨xs, h1, h2⟩, h3⟩ := h
  rcases Mo.row_cases h1 with ⟨rfl, rfl⟩ | ⟨g, c, rfl, _, _, x1, x2⟩
  · go_enter Try.func38, Try.ntmps38
    go_wp2
    go_loop [1, 5] (fun k i => k = .int .i64 k0 ∧ i = .int .i64 0) (fun _ _ => 0)
    case atStart => exact ⟨rfl, rfl⟩
    case round =>
      obtain ⟨rfl, rfl⟩ := hrel
      go_wp2
      go_ret
      exact ⟨⟨k0, hk0, by omega, rfl⟩, KB.refl _ _⟩
  · have R0 : Hid (RM w base (.slice (some ⟨g, 0, none⟩) n c) n us ls ∧ KB (SB base E) w w) := ⟨⟨⟨xs, h1, h2⟩, h3⟩, KB.refl _ _⟩
    have HG : Hid (SB base E g) := hv g rfl
    have HU : Hid (∀ i, i < n → InB base E (us i)) := hu
    have HF : Hid (∀ i, i < n → ∃ a c, us i = .slice a (ls i) c) := fu
    have HL : Hid (∀ i, i < n → ls i ≤ 1048576) := hl
    unfold maxLen at x2
    clear h1 h2 h3 hv hu fu hl
    go_enter Try.func38, Try.ntmps38
    go_wp2
    go_loopw [1, 5] (fun q i wr => ∃ (k : Nat) (z : Int), k ≤ n ∧ i = .int .i64 k ∧ q = .int .i64 z ∧ 0 ≤ z ∧ z ≤ k0 + (k : Int) * 1048578 ∧ Hid (RM wr base (.slice (some ⟨g, 0, none⟩) n c) n us ls ∧ KB (SB base E) w wr)) (fun _ i _ => n - (intOf i).toNat)
    case atStart => exact ⟨0, k0, Nat.zero_le _, rfl, rfl, hk0, by omega, R0⟩
    case round =>
      obtain ⟨k, z, hk, rfl, rfl, z0, z1, R⟩ := hrel
      by_cases hlt : k < n
      · have i0 : (0 : Int) ≤ (k : Int) := by omega
        have i1 : (k : Int) < (n : Int) := by omega
        have lk := HL.out k hlt
        obtain ⟨⟨⟨xs, r1, r2⟩, r3⟩, kb⟩ := R.out
        have q0 : wr.cell? ⟨g, k * 3, none⟩ = some (us k) := by rw [r1.cellAt (k * 3) (by omega)]; exact (r2 k hlt).1
        have C : Hid (Calls Try.prog 14 #[us k, .int .i64 z] wr fun e w' => e = .returned (.int .i64 (z + ls k)) ∧ AI w' base (us k) (ls k) ∧ (RM w' base (.slice (some ⟨g, 0, none⟩) n c) n us ls ∧ KB (SB base E) w w')) := markP wr base (ls k) (us k) z (fun w' => RM w' base (.slice (some ⟨g, 0, none⟩) n c) n us ls ∧ KB (SB base E) w w') z0 (by omega) (by omega) (r3 k hlt) (fun w' g' o z' hg' ha hI => ⟨hI.1.int ha g' o z' hg', hI.2.set g' o _ (HU.out k hlt g' hg')⟩) R.out
        clear r1 r2 r3 kb
        obtain ⟨ua, uc, hue⟩ := HF.out k hlt
        have HUE : Hid (us k = .slice ua (ls k) uc) := hue
        rw [hue] at q0 C
        clear hue
        generalize ls k = l at *
        go_wp2_with fail
        refine C.out.mono ?_
        rintro e w2 ⟨rfl, a2, rm2, kb2⟩
        obtain ⟨⟨ys, s1, s2⟩, s3⟩ := rm2
        obtain ⟨⟨y1, hy1⟩, ⟨y2, hy2⟩⟩ := (s2 k hlt).2
        have p1 : w2.cell? ⟨g, k * 3 + 1, none⟩ = some y1 := by rw [s1.cellAt (k * 3 + 1) (by omega)]; exact hy1
        have p2 : w2.cell? ⟨g, k * 3 + 2, none⟩ = some y2 := by rw [s1.cellAt (k * 3 + 2) (by omega)]; exact hy2
        have f1 : w2.frozen? ⟨g, k * 3 + 1, none⟩ = false := s1.frozenAt _
        have f2 : w2.frozen? ⟨g, k * 3 + 2, none⟩ = false := s1.frozenAt _
        have R6 : Hid (RM ((w2.setCell ⟨g, k * 3 + 1, none⟩ (.int .i64 (z + (l : Int)))).setCell ⟨g, k * 3 + 2, none⟩ (.int .i64 (z + (l : Int) + 1))) base (.slice (some ⟨g, 0, none⟩) n c) n us ls ∧ KB (SB base E) w ((w2.setCell ⟨g, k * 3 + 1, none⟩ (.int .i64 (z + (l : Int)))).setCell ⟨g, k * 3 + 2, none⟩ (.int .i64 (z + (l : Int) + 1)))) :=
          ⟨(RM.own (RM.own ⟨⟨ys, s1, s2⟩, s3⟩ k 1 (.inl rfl) _) k 2 (.inr rfl) _), (kb2.set g _ _ HG.out).set g _ _ HG.out⟩
        have j0 : z + (l : Int) ≤ 4611686018427387904 := by omega
        have j1 : 0 ≤ z + (l : Int) := by omega
        have j2 : z + (l : Int) + 1 + 1 ≤ k0 + ((k + 1 : Nat) : Int) * 1048578 := by omega
        clear a2 s1 s2 s3 hy1 hy2 kb2 z1
        generalize z + (l : Int) = y at *
        go_wp2_with fail
        go_roundw
        case rel => exact ⟨k + 1, _, by omega, by go_num, rfl, by omega, j2, R6⟩
        case measure => simp [intOf]; omega
      · go_wp2_with fail
        go_ret
        exact ⟨⟨z, z0, by omega, rfl⟩, R.out.2⟩

theorem KB.trans {S : Nat → Prop} {w w' w'' : World} (h : KB S w w') (h' : KB S w' w'') : KB S w w'' := ⟨h'.os.trans h.os, h'.tape.trans h.tape, h'.output.trans h.output, h'.size.trans h.size, fun k hk => (h'.block k hk).trans (h.block k hk)⟩
theorem AI.form {w : World} {base n : Nat} {v : Value} (h : AI w base v n) : ∃ a c, v = .slice a n c := by
  obtain ⟨L, rfl, hr⟩ := h
  exact (Lists.reads_row hr).form
theorem rm_of {w : World} {base : Nat} {v : Value} {R : Rw.Ls} (h : Rw.Row w base v R) : ∃ us : Nat → Value, RM w base v R.length us (fun i => (Rw.cl R i).length) ∧ (∀ i, i < R.length → InB base w.heap.size (us i)) ∧ InB base w.heap.size v ∧ (∀ i, i < R.length → ∃ a c, us i = .slice a (Rw.cl R i).length c) := by
  obtain ⟨xs, h1, h2⟩ := h
  have hu : ∀ i, i < R.length → ∃ u, xs[i * 3]? = some u ∧ w.ownsRow base 2 1 u (Rw.cl R i).length (ints (Rw.cl R i)) := fun i hi => (h2 i hi).2.2
  refine ⟨fun i => (xs[i * 3]?).getD (.slice none 0 0), ⟨⟨xs, h1, fun i hi => ?_⟩, fun i hi => ?_⟩, fun i hi g hg => ?_, fun g hg => h1.lt g hg, fun i hi => ?_⟩
  · obtain ⟨u, hu1, _⟩ := hu i hi
    exact ⟨by show _ = some ((xs[i * 3]?).getD _); rw [hu1]; rfl, ⟨_, (h2 i hi).1⟩, ⟨_, (h2 i hi).2.1⟩⟩
  · obtain ⟨u, hu1, hu2⟩ := hu i hi
    show AI w base ((xs[i * 3]?).getD _) _
    rw [hu1]
    exact ⟨_, rfl, hu2⟩
  · obtain ⟨u, hu1, hu2⟩ := hu i hi
    simp only [hu1, Option.getD_some] at hg
    exact hu2.lt g hg
  · obtain ⟨u, hu1, hu2⟩ := hu i hi
    simp only [hu1, Option.getD_some]
    exact (Lists.reads_row hu2).form
theorem AI.on {w w' : World} {base n : Nat} {v : Value} (h : AI w base v n) (hb : Below w.heap.size w w') : AI w' base v n := by
  obtain ⟨L, hl, hr⟩ := h
  exact ⟨L, hl, Rw1.row_on hr hb⟩
theorem RM.on {w w' : World} {base n : Nat} {v : Value} {us : Nat → Value} {ls : Nat → Nat} (h : RM w base v n us ls) (hb : Below w.heap.size w w') : RM w' base v n us ls := by
  obtain ⟨⟨xs, h1, h2⟩, h3⟩ := h
  exact ⟨⟨xs, Mo.row_below h1 hb, h2⟩, fun i hi => (h3 i hi).on hb⟩

set_option maxHeartbeats 1000000 in
set_option maxRecDepth 20000 in
theorem markA (wx w : World) (base : Nat) (nn : Int) (G T : List Int) (R : Rw.Ls) (g t r : Value) (hb : Below wx.heap.size wx w) (hG : wx.ownsRow base 2 1 g G.length (ints G)) (hT : wx.ownsRow base 2 1 t T.length (ints T)) (hR : Rw.Row wx base r R) (lG : G.length ≤ 1048576) (lT : T.length ≤ 1048576) (lR : R.length ≤ 1048576) (lR' : ∀ i, i < R.length → (Rw.cl R i).length ≤ 1048576) (hB : base ≤ wx.heap.size) :
    Calls Try.prog 13 #[Pb.pv nn g t r, .int .i64 1] w fun e w' => (∃ k : Int, 0 ≤ k ∧ k ≤ 4611686018427387904 ∧ e = .returned (.int .i64 k)) ∧ Below base w w' ∧ ∀ k, wx.heap.size ≤ k → k < w.heap.size → w'.heap[k]? = w.heap[k]? := by
  obtain ⟨us, rm, hu, hv, hf⟩ := rm_of hR
  have ag : AI wx base g G.length := ⟨G, rfl, hG⟩
  have at' : AI wx base t T.length := ⟨T, rfl, hT⟩
  have ig : InB base wx.heap.size g := fun b hb => hG.lt b hb
  have it : InB base wx.heap.size t := fun b hb => hT.lt b hb
  obtain ⟨fg, cg, eg⟩ := ag.form
  obtain ⟨ft, ct, et⟩ := at'.form
  obtain ⟨fr, cr, er⟩ := (Rw.Row.reads hR).form
  have zb := hb.size
  obtain ⟨w0, hw0⟩ : ∃ w0, w0 = w.alloc (Obj.cells #[.int .i64 nn, g, t, r] 32) := ⟨_, rfl⟩
  have B0 : Below w.heap.size w w0 := by rw [hw0]; exact (Below.refl _ _).alloc (Nat.le_refl _) _
  have B1 : Below wx.heap.size wx w0 := hb.trans (B0.mono zb)
  have d1 : w0.cell? ⟨w.heap.size, 1, none⟩ = some g := by rw [hw0]; simp [go_sem]
  have d2 : w0.cell? ⟨w.heap.size, 2, none⟩ = some t := by rw [hw0]; simp [go_sem]
  have d3 : w0.cell? ⟨w.heap.size, 3, none⟩ = some r := by rw [hw0]; simp [go_sem]
  generalize hng : G.length = ng at *
  generalize hnt : T.length = nt at *
  generalize hnr : R.length = nr at *
  generalize hE : wx.heap.size = E at *
  let I : World → Prop := fun w' => AI w' base g ng ∧ AI w' base t nt ∧ RM w' base r nr us (fun i => (Rw.cl R i).length) ∧ KB (SB base E) w0 w'
  have HI0 : I w0 := ⟨ag.on (by rw [hE]; exact B1), at'.on (by rw [hE]; exact B1), rm.on (by rw [hE]; exact B1), KB.refl _ _⟩
  have stab : ∀ (v : Value) (m : Nat), InB base E v → ∀ w' b o z, v.ownBlock = some b → AI w' base v m → I w' → I (w'.setCell ⟨b, o, none⟩ (.int .i64 z)) := fun v m hi w' b o z hv' ha hI => ⟨hI.1.put b o z, hI.2.1.put b o z, hI.2.2.1.int ha b o z hv', hI.2.2.2.set b o _ (hi b hv')⟩
  have C1 : Hid (Calls Try.prog 14 #[g, .int .i64 1] w0 fun e w' => e = .returned (.int .i64 (1 + ng)) ∧ I w') := (markP w0 base ng g 1 I (by omega) (by omega) (by omega) HI0.1 (stab g ng ig) HI0).mono (by rintro e w' ⟨h1, h2, h3⟩; exact ⟨h1, h3⟩)
  have C2 : Hid (∀ w', I w' → Calls Try.prog 14 #[t, .int .i64 (1 + ng)] w' fun e w'' => e = .returned (.int .i64 (1 + ng + nt)) ∧ I w'') := fun w' h' => (markP w' base nt t (1 + ng) I (by omega) (by omega) (by omega) h'.2.1 (stab t nt it) h').mono (by rintro e w'' ⟨h1, h2, h3⟩; exact ⟨h1, h3⟩)
  have C3 : Hid (∀ w', I w' → Calls Try.prog 38 #[r, .int .i64 (1 + ng + nt)] w' fun e w'' => (∃ k : Int, 0 ≤ k ∧ k ≤ 4611686018427387904 ∧ e = .returned (.int .i64 k)) ∧ KB (SB base E) w0 w'') := fun w' h' => (markR w' base E nr r us _ (1 + ng + nt) (by omega) (by omega) (by omega) lR' h'.2.2.1 hv hu hf).mono (by rintro e w'' ⟨⟨k, h1, h2, h3⟩, h4⟩; exact ⟨⟨k, h1, by omega, h3⟩, h'.2.2.2.trans h4⟩)
  have HK : Hid (∀ w', I w' → KB (SB base E) w0 w') := fun w' h' => h'.2.2.2
  have HC : Hid (∀ w', KB (SB base E) w0 w' → ∀ o, w'.cell? ⟨w.heap.size, o, none⟩ = w0.cell? ⟨w.heap.size, o, none⟩) := fun w' h' o => World.cell?_of_block (a := ⟨w.heap.size, o, none⟩) (h'.block w.heap.size (fun x => by have := x.2; omega))
  have HE : Hid (∀ w', KB (SB base E) w0 w' → Below base w w' ∧ ∀ k, E ≤ k → k < w.heap.size → w'.heap[k]? = w.heap[k]?) := fun w' h' => ⟨(B0.mono (by omega)).trans (h'.below (fun k hk => hk.1)), fun k hk hk2 => (h'.block k (fun x => by have := x.2; omega)).trans (B0.block k hk2)⟩
  have HW : Hid (w0 = w.alloc (Obj.cells #[.int .i64 nn, g, t, r] 32)) := hw0
  clear hw0 B0 B1 hb zb hG hT hR rm hu hv hf ag at' ig it lR' stab HI0 hng hnt hnr lR hE
  generalize I = II at *
  clear I
  subst eg et er
  go_enter Try.func13, Try.ntmps13
  go_wp2_with fail
  rw [← HW.out]
  refine C1.out.mono ?_
  rintro e w1 ⟨rfl, h1⟩
  have H1 : Hid (II w1) := h1
  clear h1
  have e2 := (HC.out w1 (HK.out w1 H1.out) 2).trans d2
  have e3 := (HC.out w1 (HK.out w1 H1.out) 3).trans d3
  clear d1 d2
  go_wp2_with fail
  refine (C2.out w1 H1.out).mono ?_
  rintro e w2 ⟨rfl, h2⟩
  have H2 : Hid (II w2) := h2
  clear h2 e2 e3
  have e3 := (HC.out w2 (HK.out w2 H2.out) 3).trans d3
  clear d3
  go_wp2_with fail
  refine (C3.out w2 H2.out).mono ?_
  rintro e w3 ⟨⟨k, k0, k1, rfl⟩, h3⟩
  have H3 : Hid (Below base w w3 ∧ ∀ k, E ≤ k → k < w.heap.size → w3.heap[k]? = w.heap[k]?) := HE.out w3 h3
  clear h3 e3
  go_wp2_with fail
  go_ret
  exact ⟨⟨k, k0, k1, rfl⟩, H3.out⟩
end Go.Proofs.Ytaakiemmodncpaa.Mk
