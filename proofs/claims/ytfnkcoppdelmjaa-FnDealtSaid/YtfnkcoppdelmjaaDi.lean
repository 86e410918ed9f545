/- Deal, the program. -/
import Derived.Test.YtfnkcoppdelmjaaDp
namespace Go.Proofs.Ytfnkcoppdelmjaa.Dl
open Go.ChangeShapes Go.WideShapes Go.ChangeAt Go.RowKit
open Al Eo
open Go.Proofs.Ytfnkcoppdelmjaa.Lists (ints)

theorem nil_row (w : World) (base : Nat) : w.ownsRow base 2 1 (.slice none 0 0) 0 (ints []) := ⟨rfl, .inl ⟨rfl, rfl⟩⟩
set_option maxHeartbeats 1000000 in
theorem ideal_no (L : En.Ls) (v : Value) (B S : Int) (w : World) (h : En.Reads w v L) (hf : Ft L) (hno : okD L B S = false) :
    Calls Try.prog 13 #[v, .int .i64 B, .int .i64 S] w fun e w' => ∃ u0, e = .returned (.tuple #[u0, .bool false]) ∧ w'.ownsRow w.heap.size 2 1 u0 ([] : List Int).length (ints ([] : List Int)) ∧ Below w.heap.size w w' := by
  have BB : Hid (Below w.heap.size w (w.alloc (Obj.cells #[.int .i64 B] 2))) := (Below.refl _ _).alloc (Nat.le_refl _) _
  have CE : Hid (Calls Try.prog 31 #[v] (w.alloc (Obj.cells #[.int .i64 B] 2)) fun e w' => e = .returned (.bool (okE L)) ∧ Below (w.alloc (Obj.cells #[.int .i64 B] 2)).heap.size (w.alloc (Obj.cells #[.int .i64 B] 2)) w') := ientries_any _ v L (h.on BB.out) hf
  have hc : (w.alloc (Obj.cells #[.int .i64 B] 2)).cell? ⟨w.heap.size, 0, none⟩ = some (.int .i64 B) := by simp [go_sem]
  have hs : (w.alloc (Obj.cells #[.int .i64 B] 2)).heap.size = w.heap.size + 1 := by simp
  unfold okD at hno
  obtain ⟨a, cap, rfl⟩ := h.form
  obtain ⟨q0, hq0⟩ : ∃ q, q = okE L := ⟨_, rfl⟩
  obtain ⟨q1, hq1⟩ : ∃ q, q = inn B 0 1000000000000 := ⟨_, rfl⟩
  obtain ⟨q2, hq2⟩ : ∃ q, q = inn S 1 100 := ⟨_, rfl⟩
  have C1 : Hid (∀ w : World, Calls Try.prog 32 #[.int .i64 B, .int .i64 0, .int .i64 1000000000000] w fun e w' => e = .returned (.bool q1) ∧ w' = w) := fun w => hq1 ▸ i_in _ _ _ w
  have C2 : Hid (∀ w : World, Calls Try.prog 32 #[.int .i64 S, .int .i64 1, .int .i64 100] w fun e w' => e = .returned (.bool q2) ∧ w' = w) := fun w => hq2 ▸ i_in _ _ _ w
  rw [← hq0] at CE
  rw [← hq0, ← hq1, ← hq2] at hno
  have HNO : Hid ((q0 && (q1 && q2)) = false) := hno
  clear h hf hq0 hq1 hq2 hno
  generalize List.length L = n at *
  obtain ⟨w0, hw0⟩ : ∃ w0, w0 = w.alloc (Obj.cells #[.int .i64 B] 2) := ⟨_, rfl⟩
  have HW0 : Hid (w0 = w.alloc (Obj.cells #[.int .i64 B] 2)) := hw0
  rw [← hw0] at BB CE hc hs
  clear hw0
  go_enter Try.func13, Try.ntmps13
  go_wp2_with fail
  rw [← HW0.out]
  refine CE.out.mono ?_
  rintro e w1 ⟨rfl, hb⟩
  have B1 : Hid (Below w.heap.size w w1) := BB.out.trans (hb.mono BB.out.size)
  have hc1 : w1.cell? ⟨w.heap.size, 0, none⟩ = some (.int .i64 B) := (hb.cell (p := ⟨w.heap.size, 0, none⟩) (by rw [hs]; exact Nat.lt_succ_self _)).trans hc
  clear hb hc hs HW0 CE
  cases q0
  · go_wp2_with fail
    go_ret2
    exact ⟨_, rfl, nil_row _ _, B1.out⟩
  · go_wp2_with fail
    refine (C1.out _).mono ?_
    rintro e w2 ⟨rfl, hw⟩
    subst hw
    cases q1
    · go_wp2_with fail
      go_ret2
      exact ⟨_, rfl, nil_row _ _, B1.out⟩
    · go_wp2_with fail
      refine (C2.out _).mono ?_
      rintro e w2 ⟨rfl, hw⟩
      subst hw
      cases q2
      · go_wp2_with fail
        go_ret2
        exact ⟨_, rfl, nil_row _ _, B1.out⟩
      · exact absurd HNO.out (by simp)

/-- What the rounds keep. -/
structure DI (L : En.Ls) (B : Int) (n m : Nat) (w : World) (base g1 g2 b : Nat) (wr : World) (k : Nat) : Prop where
  sz : wr.ownsRow base 2 1 (.slice (some ⟨g1, 0, none⟩) n n) n (ints (us L B n k))
  dl : wr.ownsRow base 2 1 (.slice (some ⟨g2, 0, none⟩) m m) m (ints (Lists.fill (dls L B n m) k))
  bx : wr.cell? ⟨b, 0, none⟩ = some (.int .i64 B)
  bl : Below base w wr
theorem DI.drew {L : En.Ls} {B : Int} {n m : Nat} {w : World} {base g1 g2 b : Nat} {wr : World} {k : Nat} (h : DI L B n m w base g1 g2 b wr k) : DI L B n m w base g1 g2 b wr.drew k := ⟨h.sz, h.dl, h.bx, h.bl.drew⟩
theorem row_set {w : World} {B n g : Nat} {s : Value} {xs : List Value} (h : w.ownsRow B 2 1 s n xs) (o : Nat) (u : Value) (hne : s.ownBlock ≠ some g) : (w.setCell ⟨g, o, none⟩ u).ownsRow B 2 1 s n xs := by
  refine h.kept (row := some g) (Lists.grown_setCell (World.grownBy.refl w (some g)) o u) ?_
  cases e : s.ownBlock with
  | none => exact Or.inl rfl
  | some k => exact Or.inr fun x => hne (by rw [e]; exact x)
theorem row_on {w w' : World} {base n : Nat} {v : Value} {xs : List Value} (h : w.ownsRow base 2 1 v n xs) (hb : Below w.heap.size w w') : w'.ownsRow base 2 1 v n xs := by
  refine h.kept (row := none) ⟨hb.os, hb.tape, hb.output, hb.size, fun k hk _ => hb.block k hk⟩ ?_
  by_cases e : v.ownBlock = none
  · exact Or.inl e
  · exact Or.inr e

theorem cell_set {w : World} {g o b q : Nat} {u x : Value} (h : w.cell? ⟨b, q, none⟩ = some x) (hne : b ≠ g) : (w.setCell ⟨g, o, none⟩ u).cell? ⟨b, q, none⟩ = some x :=
  (Lists.grown_setCell (World.grownBy.refl w (some g)) o u).cell h (by intro e; cases e; exact hne rfl)

set_option maxRecDepth 20000 in
set_option maxHeartbeats 2000000 in
theorem ideal_yes (L : En.Ls) (v : Value) (B : Int) (n : Nat) (w : World) (h : En.Reads w v L) (hf : Ft L) (hyes : okD L B n = true) :
    Calls Try.prog 13 #[v, .int .i64 B, .int .i64 n] w fun e w' => ∃ u0, e = .returned (.tuple #[u0, .bool true]) ∧ w'.ownsRow w.heap.size 2 1 u0 (dls L B n L.length).length (ints (dls L B n L.length)) ∧ Below w.heap.size w w' := by
  have BB : Hid (Below w.heap.size w (w.alloc (Obj.cells #[.int .i64 B] 2))) := (Below.refl _ _).alloc (Nat.le_refl _) _
  have CE : Hid (Calls Try.prog 31 #[v] (w.alloc (Obj.cells #[.int .i64 B] 2)) fun e w' => e = .returned (.bool (okE L)) ∧ Below (w.alloc (Obj.cells #[.int .i64 B] 2)).heap.size (w.alloc (Obj.cells #[.int .i64 B] 2)) w') := ientries_any _ v L (h.on BB.out) hf
  have hc : (w.alloc (Obj.cells #[.int .i64 B] 2)).cell? ⟨w.heap.size, 0, none⟩ = some (.int .i64 B) := by simp [go_sem]
  have hs : (w.alloc (Obj.cells #[.int .i64 B] 2)).heap.size = w.heap.size + 1 := by simp
  unfold okD at hyes
  simp only [Bool.and_eq_true] at hyes
  obtain ⟨ok0, ok1, ok2⟩ := hyes
  have C1 : Hid (∀ w : World, Calls Try.prog 32 #[.int .i64 B, .int .i64 0, .int .i64 1000000000000] w fun e w' => e = .returned (.bool true) ∧ w' = w) := fun w => ok1 ▸ i_in _ _ _ w
  have C2 : Hid (∀ w : World, Calls Try.prog 32 #[.int .i64 n, .int .i64 1, .int .i64 100] w fun e w' => e = .returned (.bool true) ∧ w' = w) := fun w => ok2 ▸ i_in _ _ _ w
  have B01 := (inn_iff _ _ _).1 ok1
  have S01 := (inn_iff _ _ _).1 ok2
  have l3 := okE_len ok0
  have HZ : Hid (∀ i, i < L.length → 0 ≤ En.c4 L i ∧ En.c4 L i ≤ 1000000000) := fun i hi => ek_size (okE_at ok0 i hi)
  rw [ok0] at CE
  obtain ⟨i0, hi, hz0, hz1, hz2⟩ := info_parts Lists.Try.info2
  obtain ⟨a, cap, rfl⟩ := h.form
  have HC : Hid (∀ (w' : World) (i : Nat), Below w.heap.size w w' → i < L.length → ∃ b o, a = some ⟨b, o, none⟩ ∧ b < w.heap.size ∧ En.Cs w' b o L i) := fun w' i hb hi => (by
      rcases h with ⟨rfl, _⟩ | ⟨b, o, c, e, _, _, x, y⟩
      · simp at hi
      · simp at e; exact ⟨b, o, e.1, x, (y i hi).below hb x⟩)
  clear h hf ok0 ok1 ok2
  obtain ⟨m, hm⟩ : ∃ m, m = L.length := ⟨_, rfl⟩
  have HM : Hid (m = L.length) := hm
  rw [dls_len]
  rw [← hm] at l3 HC HZ CE ⊢
  have FZ : Hid ((madeCells (Value.int .i64 0).cells (m * 1)).toList = ints (Lists.fill (dls L B n m) 0)) := (by
    have := Lists.fill_zero (dls L B n m)
    rw [dls_len] at this
    exact this)
  have FN : Hid ((madeCells (Value.int .i64 0).cells (n * 1)).toList = ints (us L B n 0)) := (by
    show _ = _
    apply List.ext_getElem
    · simp [madeCells, ints, us]
    · intro i h1 h2
      simp [madeCells, ints, us, Value.cells, Nat.mod_one])
  clear hm
  obtain ⟨w0, hw0⟩ : ∃ w0, w0 = w.alloc (Obj.cells #[.int .i64 B] 2) := ⟨_, rfl⟩
  have HW0 : Hid (w0 = w.alloc (Obj.cells #[.int .i64 B] 2)) := hw0
  rw [← hw0] at BB CE hc hs
  clear hw0
  go_enter Try.func13, Try.ntmps13
  go_wp2_with fail
  rw [← HW0.out]
  refine CE.out.mono ?_
  rintro e w1 ⟨rfl, hb⟩
  have B1 : Hid (Below w.heap.size w w1) := BB.out.trans (hb.mono BB.out.size)
  have hc1 : w1.cell? ⟨w.heap.size, 0, none⟩ = some (.int .i64 B) := (hb.cell (p := ⟨w.heap.size, 0, none⟩) (by rw [hs]; exact Nat.lt_succ_self _)).trans hc
  have Z1 : Hid (w.heap.size < w1.heap.size) := (by show _ < _; have := hb.size; omega)
  clear hb hc hs HW0 CE
  go_wp2_with fail
  refine (C1.out _).mono ?_
  rintro e w2 ⟨rfl, hw⟩
  subst hw
  go_wp2_with fail
  refine (C2.out _).mono ?_
  rintro e w1 ⟨rfl, hw⟩
  subst hw
  have HC1 : Hid (w1.cell? ⟨w.heap.size, 0, none⟩ = some (.int .i64 B)) := hc1
  clear hc1
  go_wp2_with (at_make; first | (refine wpList_make_full _ rfl _ _ 33 rfl w.heap.size 2 i0 (.int .i64 0) 1 Try.underlying33 hi hz0 hz1 .i64 .i64 (n : Int) (n : Int) n rfl rfl rfl rfl (by rw [hz2]; omega) (by unfold maxLen; omega) (Nat.le_of_lt Z1.out) ?_; intro w2 hown hgrow; have Z2 : Hid (w.heap.size ≤ w2.heap.size) := Nat.le_trans (Nat.le_of_lt Z1.out) hgrow.size) | (refine wpList_make_full _ rfl _ _ 33 rfl w.heap.size 2 i0 (.int .i64 0) 1 Try.underlying33 hi hz0 hz1 .i64 .i64 (m : Int) (m : Int) m rfl rfl rfl rfl (by rw [hz2]; omega) (by unfold maxLen; omega) Z2.out ?_; intro w3 hown3 hgrow3))
  rw [FN.out] at hown
  rw [FZ.out] at hown3
  have D0 : Hid (DI L B n m w w.heap.size w1.heap.size w2.heap.size w.heap.size w3 0) := (by
    have b2 : Below w.heap.size w w2 := B1.out.grown hgrow (Nat.le_of_lt Z1.out) (fun k hk => by cases hk)
    have b3 : Below w.heap.size w w3 := b2.grown hgrow3 Z2.out (fun k hk => by cases hk)
    have s12 : w1.heap.size < w2.heap.size := (hown.lt w1.heap.size rfl).2
    refine ⟨hown.kept hgrow3 (Or.inr (by intro e; cases e)), hown3, ?_, b3⟩
    exact hgrow3.cell (hgrow.cell HC1.out (by simp)) (by simp))
  have G12 : Hid (w.heap.size < w1.heap.size ∧ w1.heap.size < w2.heap.size ∧ w2.heap.size < w3.heap.size) := ⟨Z1.out, (hown.lt w1.heap.size rfl).2, (hown3.lt w2.heap.size rfl).2⟩
  generalize w1.heap.size = g1 at *
  generalize w2.heap.size = g2 at *
  clear hown hgrow hown3 hgrow3 Z1 Z2 HC1 B1 FN FZ BB
  go_loopw [33] (fun i wr => ∃ k : Nat, k ≤ m ∧ i = .int .i64 k ∧ Hid (DI L B n m w w.heap.size g1 g2 w.heap.size wr k)) (fun i _ => m - (intOf i).toNat)
  case atStart => exact ⟨0, Nat.zero_le _, rfl, D0⟩
  case round =>
    obtain ⟨k, hk, rfl, D⟩ := hrel
    clear D0
    by_cases hlt : k < m
    · have i0 : (0 : Int) ≤ (k : Int) := by omega
      have i1 : (k : Int) < (m : Int) := by omega
      obtain ⟨b, o, rfl, hbw, q0, q1, q2, q3, q4⟩ := HC.out wr k D.out.bl hlt
      have BU : Hid (Bd (us L B n k) B) := us_bd L B n B01.1 k (fun i hi => (HZ.out i (by omega)).1)
      have BZ := HZ.out k hlt
      have HDA : Hid ((dls L B n m).getD k 0 = aw (us L B n k) (En.c4 L k) B) := dls_at L B n m k hlt
      have HUN : Hid (us L B n (k + 1) = nxt (us L B n k) (En.c4 L k) B) := rfl
      have HUL : Hid ((us L B n k).length = n) := us_len L B n k
      have gg := G12.out
      have NE : Hid (g1 ≠ g2 ∧ w.heap.size ≠ g1 ∧ w.heap.size ≠ g2 ∧ w.heap.size ≤ g1 ∧ w.heap.size ≤ g2) := (by refine ⟨?_, ?_, ?_, ?_, ?_⟩ <;> omega)
      have g1w : g1 < wr.heap.size := (D.out.sz.lt g1 rfl).2
      have g2w : g2 < wr.heap.size := (D.out.dl.lt g2 rfl).2
      have bxw := D.out.bx
      obtain ⟨U, hU⟩ : ∃ U, U = us L B n k := ⟨_, rfl⟩
      have RS : Hid (wr.ownsRow w.heap.size 2 1 (.slice (some ⟨g1, 0, none⟩) n n) n (ints U)) := (by show World.ownsRow _ _ _ _ _ _ _; rw [hU]; exact D.out.sz)
      have RD := D.out.dl
      have BL : Hid (Below w.heap.size w wr) := D.out.bl
      rw [← hU] at BU HDA HUN HUL
      clear D hU
      generalize En.c0 L k = x0 at *
      generalize En.c1 L k = x1 at *
      generalize En.c2 L k = x2 at *
      generalize En.c3 L k = x3 at *
      generalize En.c4 L k = x4 at *
      obtain ⟨wn, hwn⟩ : ∃ wn, wn = wr.alloc (Obj.cells #[.string x0, .int .i64 x1, .int .i64 x2, .int .i64 x3, .int .i64 x4] 26) := ⟨_, rfl⟩
      have HWN : Hid (wn = wr.alloc (Obj.cells #[.string x0, .int .i64 x1, .int .i64 x2, .int .i64 x3, .int .i64 x4] 26)) := hwn
      have BA : Below wr.heap.size wr wn := by rw [hwn]; exact (Below.refl _ _).alloc (Nat.le_refl _) _
      have RSn : Hid (wn.ownsRow w.heap.size 2 1 (.slice (some ⟨g1, 0, none⟩) n n) n (ints U)) := row_on RS.out BA
      have RDn : Hid (wn.ownsRow w.heap.size 2 1 (.slice (some ⟨g2, 0, none⟩) m m) m (ints (Lists.fill (dls L B n m) k))) := row_on RD BA
      have BLn : Hid (Below w.heap.size w wn) := BL.out.trans (BA.mono BL.out.size)
      have bxn : wn.cell? ⟨w.heap.size, 0, none⟩ = some (.int .i64 B) := (BA.cell (p := ⟨w.heap.size, 0, none⟩) (by show w.heap.size < _; omega)).trans bxw
      have e4 : wn.cell? ⟨wr.heap.size, 4, none⟩ = some (.int .i64 x4) := by rw [hwn]; simp [go_sem]
      have CX : Hid (Calls Try.prog 33 #[.slice (some ⟨g1, 0, none⟩) n n, .func (.func 34) #[] #[.pointer (some ⟨wr.heap.size, 0, none⟩), .pointer (some ⟨w.heap.size, 0, none⟩)]] wn fun e w' => e = .returned (.int .i64 (aw U x4 B)) ∧ w' = wn) := (by
        have ul := HUL.out
        have rr : Lists.Reads wn (.slice (some ⟨g1, 0, none⟩) U.length n) U := Lists.reads_row (base := w.heap.size) (by rw [ul]; exact RSn.out)
        have := index_any wr.heap.size w.heap.size g1 0 n U x4 B wn rr e4 bxn (fun j hj => by have := BU.out j hj; omega) BZ (by omega)
        rw [ul] at this
        exact this)
      clear hwn RS RD BA bxw
      go_wp2_with fail
      rw [← HWN.out]
      refine CX.out.mono ?_
      rintro e w4 ⟨rfl, hw⟩
      subst hw
      have ul := HUL.out
      have HDF : Hid (∀ z : Int, z = (dls L B n m).getD k 0 → (Lists.fill (dls L B n m) k).set k z = Lists.fill (dls L B n m) (k + 1)) := fun z hz => by rw [hz]; exact Lists.fill_set _ _
      have qd : ∃ z, w4.cell? ⟨g2, k, none⟩ = some z := by
        rw [RDn.out.cellAt k (by omega)]
        exact ⟨_, List.getElem?_eq_getElem (by simp [ints, Lists.fill_len, dls_len]; exact hlt)⟩
      obtain ⟨zd, qd⟩ := qd
      have fd : w4.frozen? ⟨g2, k, none⟩ = false := RDn.out.frozenAt k
      by_cases hfn : fnd U x4 B < U.length
      · have haw : aw U x4 B = (fnd U x4 B : Int) := by unfold aw; rw [if_pos hfn]
        have hy := fnd_yes hfn
        have bu := BU.out _ hfn
        have cu : w4.cell? ⟨g1, fnd U x4 B, none⟩ = some (.int .i64 (U.getD (fnd U x4 B) 0)) := Lists.row_cell (L := U) (cap := n) (base := w.heap.size) (by rw [ul]; exact RSn.out) _ hfn
        have fu : w4.frozen? ⟨g1, fnd U x4 B, none⟩ = false := RSn.out.frozenAt _
        have R5 : Hid ((w4.setCell ⟨g1, fnd U x4 B, none⟩ (.int .i64 (U.getD (fnd U x4 B) 0 + x4))).ownsRow w.heap.size 2 1 (.slice (some ⟨g1, 0, none⟩) n n) n (ints (us L B n (k + 1)))) := (by
          show World.ownsRow _ _ _ _ _ _ _
          rw [HUN.out]; unfold nxt; rw [← Lists.ints_set]
          exact (RSn.out.stored _ _).1)
        rw [haw] at HDA ⊢
        rw [ul] at hfn
        generalize U.getD (fnd U x4 B) 0 = uz at *
        generalize fnd U x4 B = f at *
        have f0 : (0 : Int) ≤ (f : Int) := by omega
        have f1 : (f : Int) < (n : Int) := by omega
        have ew : IntKind.i64.wrap (uz + x4) = uz + x4 := IntWalk.i64_in _ (by omega)
        have D5 : Hid (DI L B n m w w.heap.size g1 g2 w.heap.size ((w4.setCell ⟨g1, f, none⟩ (.int .i64 (uz + x4))).setCell ⟨g2, k, none⟩ (.int .i64 f)) (k + 1)) := (by
          refine ⟨row_set R5.out _ _ (fun e => NE.out.1 (Option.some.inj e)), ?_, ?_, ?_⟩
          · have r := row_set (g := g1) RDn.out f (.int .i64 (uz + x4)) (fun e => NE.out.1 (Option.some.inj e).symm)
            have r2 := (r.stored k (.int .i64 (f : Int))).1
            rw [Lists.ints_set, HDF.out _ HDA.out.symm] at r2
            exact r2
          · exact cell_set (cell_set bxn NE.out.2.1) NE.out.2.2.1
          · exact (BLn.out.setCell (p := ⟨g1, f, none⟩) NE.out.2.2.2.1 _).setCell (p := ⟨g2, k, none⟩) NE.out.2.2.2.2 _)
        go_wp2_with fail
        go_region
        have c5 : (w4.setCell ⟨g1, f, none⟩ (.int .i64 (uz + x4))).cell? ⟨g2, k, none⟩ = some zd := cell_set qd NE.out.1.symm
        have z5 : (w4.setCell ⟨g1, f, none⟩ (.int .i64 (uz + x4))).frozen? ⟨g2, k, none⟩ = false := by simp [go_sem, fd]
        go_wp2_with fail
        go_roundw
        case rel => exact ⟨k + 1, by omega, by go_num, D5.out.drew⟩
        case measure => simp [intOf]; omega
      · have haw : aw U x4 B = -1 := by unfold aw; rw [if_neg hfn]
        rw [haw] at HDA ⊢
        have D5 : Hid (DI L B n m w w.heap.size g1 g2 w.heap.size (w4.setCell ⟨g2, k, none⟩ (.int .i64 (-1))) (k + 1)) := (by
          refine ⟨?_, ?_, ?_, ?_⟩
          · have r := row_set (g := g2) RSn.out k (.int .i64 (-1)) (fun e => NE.out.1 (Option.some.inj e))
            rw [HUN.out]; unfold nxt; rw [List.set_eq_of_length_le (by omega)]
            exact r
          · have r2 := (RDn.out.stored k (.int .i64 (-1))).1
            rw [Lists.ints_set, HDF.out _ HDA.out.symm] at r2
            exact r2
          · exact cell_set bxn NE.out.2.2.1
          · exact BLn.out.setCell (p := ⟨g2, k, none⟩) NE.out.2.2.2.2 _)
        clear HDA HUN
        go_wp2_with fail
        go_roundw
        case rel => exact ⟨k + 1, by omega, by go_num, D5⟩
        case measure => simp [intOf]; omega
    · have e : k = m := by omega
      have j1 : ¬ (k : Int) < (m : Int) := by omega
      have RE : Hid (wr.ownsRow w.heap.size 2 1 (.slice (some ⟨g2, 0, none⟩) m m) m (ints (dls L B n m))) := (by
        show World.ownsRow _ _ _ _ _ _ _
        have := D.out.dl
        rw [e] at this
        have fa := Lists.fill_all (dls L B n m)
        rw [dls_len] at fa
        rw [fa] at this
        exact this)
      have BE : Hid (Below w.heap.size w wr) := D.out.bl
      clear D
      go_wp2_with fail
      go_ret2
      exact ⟨_, rfl, RE.out, BE.out⟩
end Go.Proofs.Ytfnkcoppdelmjaa.Dl
