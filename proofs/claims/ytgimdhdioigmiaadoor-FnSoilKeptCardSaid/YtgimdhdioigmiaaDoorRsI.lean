/- A soil read of its text: the program. -/
import Derived.Test.YtgimdhdioigmiaaDoorRsS
import Derived.Test.YtgimdhdioigmiaaDoorRhI
namespace Go.Proofs.YtgimdhdioigmiaaDoor.Rs
open Go.ChangeShapes Go.WideShapes Go.ChangeAt Go.RowKit
open Go.Proofs.YtgimdhdioigmiaaDoor.So Go.Proofs.YtgimdhdioigmiaaDoor.Dec Go.Proofs.YtgimdhdioigmiaaDoor.Head Go.Proofs.YtgimdhdioigmiaaDoor.Fig

/-- What must lie for a call: the table, and the two errors of the parser. -/
def Tb3 (w : World) : Prop := Tb w ∧ (∃ te pe, w.cell? ⟨0, 0, none⟩ = some (.iface te pe)) ∧ ∃ te pe, w.cell? ⟨1, 0, none⟩ = some (.iface te pe)
theorem Tb3.keep {w w' : World} (h : Tb3 w) (hb : Below w.heap.size w w') : Tb3 w' := by
  obtain ⟨h1, ⟨te, pe, h2⟩, tf, pf, h3⟩ := h
  have z := h1.2
  exact ⟨h1.keep hb, ⟨te, pe, (hb.cell (p := ⟨0, 0, none⟩) (by show 0 < _; omega)).trans h2⟩, tf, pf, (hb.cell (p := ⟨1, 0, none⟩) (by show 1 < _; omega)).trans h3⟩
/-- the parser at any text: its number, or an error -/
def Pint (l : List UInt8) (e : Ending) : Prop :=
  (∃ v, Lib.parseIntB 64 l = .ok v ∧ e = .returned (.tuple #[.int .i64 v, .nilIface])) ∨ ((∀ v, Lib.parseIntB 64 l ≠ .ok v) ∧ ∃ (v : Int) (x : Value), e = .returned (.tuple #[.int .i64 v, .iface 72 x]))
theorem pint (p : ByteArray) (w : World) (hT : Tb3 w) (hl : p.size ≤ 4000000) :
    Calls Tryd.prog 21 #[.string p, .int .i64 10, .int .i64 64] w fun e w' => Pint p.data.toList e ∧ Below w.heap.size w w' := by
  obtain ⟨r, hr⟩ : ∃ r, Lib.parseIntB 64 p.data.toList = r := ⟨_, rfl⟩
  cases r with
  | ok v =>
    refine (Tryd.strconv_ParseInt_10_at64_ok p (by omega) v hr w).mono ?_
    rintro e w' ⟨rfl, h⟩
    refine ⟨.inl ⟨v, hr, rfl⟩, ?_⟩
    rcases h with rfl | ⟨t, rfl⟩
    · exact Below.refl _ _
    · exact ⟨rfl, rfl, rfl, by rw [Lib.bytesWorld_size]; omega, fun k hk => Lib.bytesWorld_at_old _ _ _ k (by omega)⟩
  | «syntax» =>
    obtain ⟨te, pe, hc⟩ := hT.2.1
    refine (Tryd.strconv_ParseInt_10_at64_syntax p (by omega) hr _ w hc (.inr ⟨te, pe, rfl⟩)).mono ?_
    rintro e w' ⟨N, rfl, _, _, hb⟩
    exact ⟨.inr ⟨fun v h => (by rw [hr] at h; cases h), 0, _, rfl⟩, hb⟩
  | range =>
    obtain ⟨te, pe, hc⟩ := hT.2.2
    refine (Tryd.strconv_ParseInt_10_at64_range p (by omega) hr _ w hc (.inr ⟨te, pe, rfl⟩)).mono ?_
    rintro e w' ⟨N, rfl, _, _, hb⟩
    exact ⟨.inr ⟨fun v h => (by rw [hr] at h; cases h), _, _, rfl⟩, hb⟩
def vl (p : ByteArray) : Int := match Lib.parseIntB 64 p.data.toList with | .ok v => v | _ => 0
def good (p : ByteArray) : Bool := match Lib.parseIntB 64 p.data.toList with | .ok _ => true | _ => false
theorem pint2 (p : ByteArray) (w : World) (hT : Tb3 w) (hl : p.size ≤ 4000000) :
    Calls Tryd.prog 21 #[.string p, .int .i64 10, .int .i64 64] w fun e w' => ((good p = true ∧ e = .returned (.tuple #[.int .i64 (vl p), .nilIface])) ∨ (good p = false ∧ ∃ (v : Int) (x : Value), e = .returned (.tuple #[.int .i64 v, .iface 72 x]))) ∧ Below w.heap.size w w' := (pint p w hT hl).mono (by
  rintro e w' ⟨h, hb⟩
  refine ⟨?_, hb⟩
  rcases h with ⟨v, h1, rfl⟩ | ⟨h1, v, x, rfl⟩
  · left
    unfold good vl
    rw [h1]
    exact ⟨rfl, rfl⟩
  · right
    refine ⟨?_, v, x, rfl⟩
    unfold good
    cases hq : Lib.parseIntB 64 p.data.toList with
    | ok v => exact absurd hq (h1 v)
    | «syntax» => rfl
    | range => rfl)
set_option maxRecDepth 20000 in
set_option maxHeartbeats 1000000 in
theorem iread_off (s : ByteArray) (w : World) (hs : s.size ≤ 1048576) (h : (pcs s).length ≠ 5) : Calls Tryd.prog 8 #[.string s] w fun e w' => e = .returned (.tuple #[sv 0 0 0 0 0, .bool false]) ∧ Below w.heap.size w w' := by
  have SP : Hid (∀ w, Calls Tryd.prog 20 #[.string s, .string ⟨#[32]⟩] w fun e w' => ∃ a cap, e = .returned (.slice a (pcs s).length cap) ∧ Below w.heap.size w w') := fun w => (isplit s w hs).mono (by
    rintro e w' ⟨rfl, rfl⟩
    exact ⟨_, _, rfl, (Below.refl _ _).alloc (Nat.le_refl _) _⟩)
  have n5 : (((pcs s).length : Int) != 5) = true := by simp; omega
  generalize (pcs s).length = n at *
  obtain ⟨w0, hw0⟩ : ∃ w0, w0 = w.alloc (Obj.cells #[.int .i64 0, .int .i64 0, .int .i64 0, .int .i64 0, .int .i64 0] 25) := ⟨_, rfl⟩
  have HW0 : Hid (w0 = w.alloc (Obj.cells #[.int .i64 0, .int .i64 0, .int .i64 0, .int .i64 0, .int .i64 0] 25)) := hw0
  have R0 : Hid (RB w w0 0 0 0 0 0) := (by show RB _ _ _ _ _ _ _; rw [hw0]; exact RB.start w)
  clear hw0
  go_enter Tryd.func8, Tryd.ntmps8
  go_wp2_with fail
  rw [← HW0.out]
  refine (SP.out w0).mono ?_
  rintro e w1 ⟨a, cap, rfl, b1⟩
  have R1 : Hid (RB w w1 0 0 0 0 0) := R0.out.on b1
  clear b1 R0 HW0
  obtain ⟨c0, c1, c2, c3, c4⟩ := R1.out.r
  have fz := R1.out.k
  have f0 := fz 0
  have f1 := fz 1
  have f2 := fz 2
  have f3 := fz 3
  have f4 := fz 4
  clear fz
  go_wp2_with fail
  have V : Hid (RB w _ 0 0 0 0 0) := R1.out.put 0 0 0 0 0
  clear c0 c1 c2 c3 c4 f0 f1 f2 f3 f4 R1
  generalize World.setCell _ _ _ = wz at V ⊢
  obtain ⟨r0, r1, r2, r3, r4⟩ := V.out.r
  exact bodyPost_ret (v := .tuple #[sv 0 0 0 0 0, .bool false]) (by simp [results, Tryd.results8, go_sem, r0, r1, r2, r3, r4]) rfl ⟨rfl, V.out.b⟩

def arr (V : Nat → Int) (k : Nat) : Array Value := ((List.range 5).map fun j => if j < k then Value.int .i64 (V j) else Value.int .i64 0).toArray
theorem arr_set (V : Nat → Int) (k : Nat) : (arr V k).setIfInBounds k (.int .i64 (V k)) = arr V (k + 1) := by
  unfold arr
  rw [List.setIfInBounds_toArray]
  congr 1
  apply List.ext_getElem
  · simp
  · intro i h1 h2
    simp only [List.getElem_set, List.getElem_map, List.getElem_range]
    by_cases e : k = i
    · subst e
      simp
    · rw [if_neg e]
      by_cases q : i < k
      · rw [if_pos q, if_pos (by omega)]
      · rw [if_neg q, if_neg (by omega)]
theorem arr_get (V : Nat → Int) (k j : Nat) (h : j < 5) : (arr V k)[j]? = some (if j < k then Value.int .i64 (V j) else Value.int .i64 0) := by
  simp [arr, h]
theorem arr_zero (V : Nat → Int) : arr V 0 = #[.int .i64 0, .int .i64 0, .int .i64 0, .int .i64 0, .int .i64 0] := rfl
/-- What lies in a round: the answer's box, the words, the numbers so far. -/
structure LP (w wr : World) (gw ga : Nat) (P : Nat → ByteArray) (V : Nat → Int) (k : Nat) : Prop where
  rb : RB w wr 0 0 0 0 0
  wd : ∀ j, j < 5 → wr.cell? ⟨gw, j, none⟩ = some (.string (P j))
  ar : wr.heap[ga]? = some (.cells (arr V k) 44 (0, 0))
  lt : gw < wr.heap.size ∧ ga < wr.heap.size
  ne : w.heap.size < gw ∧ gw < ga
theorem LP.on {w wr wy : World} {gw ga : Nat} {P : Nat → ByteArray} {V : Nat → Int} {k : Nat} (h : LP w wr gw ga P V k) (hb : Below wr.heap.size wr wy) : LP w wy gw ga P V k :=
  ⟨h.rb.on hb, fun j hj => (hb.cell (p := ⟨gw, j, none⟩) h.lt.1).trans (h.wd j hj), (hb.block _ h.lt.2).trans h.ar, ⟨Nat.lt_of_lt_of_le h.lt.1 hb.size, Nat.lt_of_lt_of_le h.lt.2 hb.size⟩, h.ne⟩
theorem LP.set {w wr : World} {gw ga : Nat} {P : Nat → ByteArray} {V : Nat → Int} {k : Nat} (h : LP w wr gw ga P V k) : LP w (wr.setCell ⟨ga, k, none⟩ (.int .i64 (V k))) gw ga P V (k + 1) := by
  have z := h.ne
  have far : ∀ kk, kk ≠ ga → (wr.setCell ⟨ga, k, none⟩ (.int .i64 (V k))).heap[kk]? = wr.heap[kk]? := fun kk hkk => Below.heap_setCell wr ⟨ga, k, none⟩ _ kk (by simpa using hkk)
  have e0 := far w.heap.size (by omega)
  have e1 := far gw (by omega)
  refine ⟨⟨?_, fun o => (World.frozen?_of_block e0).trans (h.rb.k o), by simpa using h.rb.z, h.rb.b.setCell (p := ⟨ga, k, none⟩) (by show w.heap.size ≤ ga; omega) _⟩, fun j hj => (World.cell?_of_block e1).trans (h.wd j hj), ?_, by simpa using h.lt, h.ne⟩
  · obtain ⟨r0, r1, r2, r3, r4⟩ := h.rb.r
    exact ⟨(World.cell?_of_block e0).trans r0, (World.cell?_of_block e0).trans r1, (World.cell?_of_block e0).trans r2, (World.cell?_of_block e0).trans r3, (World.cell?_of_block e0).trans r4⟩
  · rw [heap_setCell_same wr _ k _ _ _ h.ar, arr_set]
set_option maxRecDepth 20000 in
set_option maxHeartbeats 2000000 in
theorem iread_five (s : ByteArray) (P : Nat → ByteArray) (w : World) (hT : Tb3 w) (hs : s.size ≤ 1048576) (h5 : pcs s = [P 0, P 1, P 2, P 3, P 4]) (a b c d f : Int) (B : Bool) (hB : ((∀ j, j < 5 → good (P j) = true) ∧ s.data.toList = txt (vl (P 0)) (vl (P 1)) (vl (P 2)) (vl (P 3)) (vl (P 4)) ∧ B = true ∧ a = vl (P 0) ∧ b = vl (P 1) ∧ c = vl (P 2) ∧ d = vl (P 3) ∧ f = vl (P 4)) ∨ (¬ ((∀ j, j < 5 → good (P j) = true) ∧ s.data.toList = txt (vl (P 0)) (vl (P 1)) (vl (P 2)) (vl (P 3)) (vl (P 4))) ∧ B = false ∧ a = 0 ∧ b = 0 ∧ c = 0 ∧ d = 0 ∧ f = 0)) :
    Calls Tryd.prog 8 #[.string s] w fun e w' => e = .returned (.tuple #[sv a b c d f, .bool B]) ∧ Below w.heap.size w w' := by
  have ps : ∀ j, j < 5 → (P j).size ≤ 4000000 := fun j hj => by
    have : P j ∈ pcs s := by
      rw [h5]
      have : j = 0 ∨ j = 1 ∨ j = 2 ∨ j = 3 ∨ j = 4 := by omega
      rcases this with rfl | rfl | rfl | rfl | rfl <;> simp
    have := pcs_size this
    omega
  have PI : Hid (∀ j (u : World), j < 5 → Below w.heap.size w u → Calls Tryd.prog 21 #[.string (P j), .int .i64 10, .int .i64 64] u fun e w' => ((good (P j) = true ∧ e = .returned (.tuple #[.int .i64 (vl (P j)), .nilIface])) ∨ (good (P j) = false ∧ ∃ (v : Int) (x : Value), e = .returned (.tuple #[.int .i64 v, .iface 72 x]))) ∧ Below u.heap.size u w') := fun j u hj hu => pint2 (P j) u (hT.keep hu) (ps j hj)
  have IT : Hid (∀ u : World, Below w.heap.size w u → Calls Tryd.prog 9 #[sv (vl (P 0)) (vl (P 1)) (vl (P 2)) (vl (P 3)) (vl (P 4))] u fun e w' => e = .returned (.string ⟨(txt (vl (P 0)) (vl (P 1)) (vl (P 2)) (vl (P 3)) (vl (P 4))).toArray⟩) ∧ Below u.heap.size u w') := fun u hu => itext_any _ _ _ _ _ u (hT.keep hu).1
  have SP : Hid (∀ w0 : World, Calls Tryd.prog 20 #[.string s, .string ⟨#[32]⟩] w0 fun e w' => e = .returned (.slice (some ⟨w0.heap.size, 0, none⟩) 5 5) ∧ w' = w0.alloc (.cells #[.string (P 0), .string (P 1), .string (P 2), .string (P 3), .string (P 4)] 9)) := fun w0 => (isplit s w0 hs).mono (by
    rintro e w' ⟨rfl, rfl⟩
    rw [h5]
    exact ⟨rfl, rfl⟩)
  have ht : s.data.toList = txt (vl (P 0)) (vl (P 1)) (vl (P 2)) (vl (P 3)) (vl (P 4)) ↔ (⟨(txt (vl (P 0)) (vl (P 1)) (vl (P 2)) (vl (P 3)) (vl (P 4))).toArray⟩ : ByteArray) = s := ⟨fun h => by rw [← h], fun h => by rw [← h]⟩
  rw [ht] at hB
  generalize (⟨(txt (vl (P 0)) (vl (P 1)) (vl (P 2)) (vl (P 3)) (vl (P 4))).toArray⟩ : ByteArray) = t at *
  obtain ⟨V, hV⟩ : ∃ V : Nat → Int, V = fun j => vl (P j) := ⟨_, rfl⟩
  have EV : ∀ j, vl (P j) = V j := fun j => by rw [hV]
  simp only [EV] at PI IT hB
  obtain ⟨G, hG⟩ : ∃ G : Nat → Bool, G = fun j => good (P j) := ⟨_, rfl⟩
  have EG : ∀ j, good (P j) = G j := fun j => by rw [hG]
  simp only [EG] at PI hB
  have HB : Hid (((∀ j, j < 5 → G j = true) ∧ t = s ∧ B = true ∧ a = V 0 ∧ b = V 1 ∧ c = V 2 ∧ d = V 3 ∧ f = V 4) ∨ (¬ ((∀ j, j < 5 → G j = true) ∧ t = s) ∧ B = false ∧ a = 0 ∧ b = 0 ∧ c = 0 ∧ d = 0 ∧ f = 0)) := hB
  obtain ⟨w0, hw0⟩ : ∃ w0, w0 = w.alloc (Obj.cells #[.int .i64 0, .int .i64 0, .int .i64 0, .int .i64 0, .int .i64 0] 25) := ⟨_, rfl⟩
  have HW0 : Hid (w0 = w.alloc (Obj.cells #[.int .i64 0, .int .i64 0, .int .i64 0, .int .i64 0, .int .i64 0] 25)) := hw0
  have R0 : Hid (RB w w0 0 0 0 0 0) := (by show RB _ _ _ _ _ _ _; rw [hw0]; exact RB.start w)
  have z0 : Hid (w0.heap.size = w.heap.size + 1) := (by show _ = _; rw [hw0]; simp)
  clear hw0 h5 ps hB hV hG EV EG ht hT
  go_enter Tryd.func8, Tryd.ntmps8
  go_wp2_with fail
  rw [← HW0.out]
  refine (SP.out w0).mono ?_
  rintro e w1 ⟨rfl, hw1⟩
  obtain ⟨w2, hw2⟩ : ∃ w2, w2 = w1.alloc (Obj.cells #[.int .i64 0, .int .i64 0, .int .i64 0, .int .i64 0, .int .i64 0] 44) := ⟨_, rfl⟩
  have HW2 : Hid (w2 = w1.alloc (Obj.cells #[.int .i64 0, .int .i64 0, .int .i64 0, .int .i64 0, .int .i64 0] 44)) := hw2
  have z1 : w1.heap.size = w0.heap.size + 1 := by rw [hw1]; simp
  have L0 : Hid (LP w w2 w0.heap.size (w0.heap.size + 1) P V 0) := (by
    show LP _ _ _ _ _ _ _
    have zz := z0.out
    have hb1 : Below w0.heap.size w0 w1 := by rw [hw1]; exact (Below.refl _ _).alloc (Nat.le_refl _) _
    have hb2 : Below w1.heap.size w1 w2 := by rw [hw2]; exact (Below.refl _ _).alloc (Nat.le_refl _) _
    refine ⟨(R0.out.on hb1).on hb2, fun j hj => ?_, ?_, ⟨by rw [hw2]; simp; omega, by rw [hw2]; simp; omega⟩, ⟨by omega, by omega⟩⟩
    · refine (hb2.cell (p := ⟨w0.heap.size, j, none⟩) (by show w0.heap.size < _; omega)).trans ?_
      rw [hw1]
      have : j = 0 ∨ j = 1 ∨ j = 2 ∨ j = 3 ∨ j = 4 := by omega
      rcases this with rfl | rfl | rfl | rfl | rfl <;> simp [go_sem]
    · rw [arr_zero, hw2, ← z1]
      exact heap_alloc_new w1 _)
  have Z1 : Hid (w1.heap.size = w0.heap.size + 1) := z1
  clear hw2 hw1 z1 R0 HW0 SP
  go_wp2_with fail
  rw [← HW2.out, Z1.out]
  generalize w0.heap.size = gw at *
  clear HW2 Z1 z0
  go_loopw [19] (fun i wr => ∃ k : Nat, k ≤ 5 ∧ i = .int .i64 k ∧ Hid (∀ j, j < k → G j = true) ∧ Hid (LP w wr gw (gw + 1) P V k)) (fun i _ => 5 - (intOf i).toNat)
  case atStart => exact ⟨0, by omega, rfl, fun j hj => by omega, L0⟩
  case round =>
    obtain ⟨k, hk, rfl, GD, LK⟩ := hrel
    clear L0
    by_cases hlt : k < 5
    · have i2 : (k : Int) < 5 := by omega
      have j1 : (0 : Int) ≤ (k : Int) := by omega
      have cw := LK.out.wd k hlt
      have F := PI.out k wr hlt LK.out.rb.b
      have HF : Hid (Calls Tryd.prog 21 #[.string (P k), .int .i64 10, .int .i64 64] wr fun e w' => ((G k = true ∧ e = .returned (.tuple #[.int .i64 (V k), .nilIface])) ∨ (G k = false ∧ ∃ (v : Int) (x : Value), e = .returned (.tuple #[.int .i64 v, .iface 72 x]))) ∧ Below wr.heap.size wr w') := F
      clear F
      go_wp2_with fail
      refine HF.out.mono ?_
      rintro e w3 ⟨hg, b3⟩
      have L3 : Hid (LP w w3 gw (gw + 1) P V k) := LK.out.on b3
      clear b3 cw HF
      rcases hg with ⟨gk, rfl⟩ | ⟨gk, v, x, rfl⟩
      · have q1 : w3.cell? ⟨gw + 1, k, none⟩ = some (.int .i64 0) := (by
          rw [cell_of_row w3 _ k _ _ _ L3.out.ar, arr_get _ _ _ hlt, if_neg (by omega)])
        have q2 : w3.frozen? ⟨gw + 1, k, none⟩ = false := frozen_of_row w3 _ k _ _ L3.out.ar
        have LN : Hid (LP w (w3.setCell ⟨gw + 1, k, none⟩ (.int .i64 (V k))) gw (gw + 1) P V (k + 1)) := L3.out.set
        have GN : Hid (∀ j, j < k + 1 → G j = true) := fun j hj => by
          by_cases e : j = k
          · rw [e]; exact gk
          · exact GD.out j (by omega)
        clear gk L3 LK
        generalize V k = vk at *
        go_wp2_with fail
        go_roundw
        case rel => exact ⟨k + 1, by omega, by go_num, GN, LN⟩
        case measure => simp [intOf]; omega
      · obtain ⟨_, rfl, rfl, rfl, rfl, rfl, rfl⟩ := HB.out.resolve_left (fun h => by have := h.1 k hlt; rw [gk] at this; cases this)
        have R3 : Hid (RB w w3 0 0 0 0 0) := L3.out.rb
        clear gk LK L3
        obtain ⟨c0, c1, c2, c3, c4⟩ := R3.out.r
        have fz := R3.out.k
        have f0 := fz 0
        have f1 := fz 1
        have f2 := fz 2
        have f3 := fz 3
        have f4 := fz 4
        clear fz
        go_wp2_with fail
        have V : Hid (RB w _ 0 0 0 0 0) := R3.out.put 0 0 0 0 0
        clear c0 c1 c2 c3 c4 f0 f1 f2 f3 f4 R3
        generalize World.setCell _ _ _ = wz at V ⊢
        obtain ⟨r0, r1, r2, r3, r4⟩ := V.out.r
        exact bodyPost_ret (v := .tuple #[sv 0 0 0 0 0, .bool false]) (by simp [results, Tryd.results8, go_sem, r0, r1, r2, r3, r4]) rfl ⟨rfl, V.out.b⟩
    · have hkn : k = 5 := by omega
      subst hkn
      have cc : ∀ j, j < 5 → wr.cell? ⟨gw + 1, j, none⟩ = some (.int .i64 (V j)) := fun j hj => by
        rw [cell_of_row wr _ j _ _ _ LK.out.ar, arr_get _ _ _ hj, if_pos hj]
      have k0 := cc 0 (by omega)
      have k1 := cc 1 (by omega)
      have k2 := cc 2 (by omega)
      have k3 := cc 3 (by omega)
      have k4 := cc 4 (by omega)
      have GA : Hid (∀ j, j < 5 → G j = true) := GD.out
      have R3 : Hid (RB w wr 0 0 0 0 0) := LK.out.rb
      clear cc LK GD
      generalize V 0 = v0 at *
      generalize V 1 = v1 at *
      generalize V 2 = v2 at *
      generalize V 3 = v3 at *
      generalize V 4 = v4 at *
      obtain ⟨wv, hwv⟩ : ∃ wv, wv = wr.alloc (Obj.cells #[.int .i64 v0, .int .i64 v1, .int .i64 v2, .int .i64 v3, .int .i64 v4] 25) := ⟨_, rfl⟩
      have HWV : Hid (wv = wr.alloc (Obj.cells #[.int .i64 v0, .int .i64 v1, .int .i64 v2, .int .i64 v3, .int .i64 v4] 25)) := hwv
      have RV : Hid (RB w wv 0 0 0 0 0) := (by show RB _ _ _ _ _ _ _; rw [hwv]; exact R3.out.on ((Below.refl _ _).alloc (Nat.le_refl _) _))
      have NV : Hid ((wv.cell? ⟨wr.heap.size, 0, none⟩ = some (.int .i64 v0) ∧ wv.cell? ⟨wr.heap.size, 1, none⟩ = some (.int .i64 v1) ∧ wv.cell? ⟨wr.heap.size, 2, none⟩ = some (.int .i64 v2) ∧ wv.cell? ⟨wr.heap.size, 3, none⟩ = some (.int .i64 v3) ∧ wv.cell? ⟨wr.heap.size, 4, none⟩ = some (.int .i64 v4)) ∧ wr.heap.size < wv.heap.size) := (by show _ ∧ _; rw [hwv]; simp [go_sem])
      clear hwv R3
      go_wp2_with fail
      rw [← HWV.out]
      clear k0 k1 k2 k3 k4 HWV
      refine (IT.out wv RV.out.b).mono ?_
      rintro e w4 ⟨rfl, b4⟩
      have R4 : Hid (RB w w4 0 0 0 0 0) := RV.out.on b4
      have N4 : Hid ((w4.cell? ⟨wr.heap.size, 0, none⟩ = some (.int .i64 v0) ∧ w4.cell? ⟨wr.heap.size, 1, none⟩ = some (.int .i64 v1) ∧ w4.cell? ⟨wr.heap.size, 2, none⟩ = some (.int .i64 v2) ∧ w4.cell? ⟨wr.heap.size, 3, none⟩ = some (.int .i64 v3) ∧ w4.cell? ⟨wr.heap.size, 4, none⟩ = some (.int .i64 v4)) ∧ wr.heap.size < w4.heap.size) := n5_on NV.out b4
      clear b4 RV NV
      by_cases hts : t = s
      · obtain ⟨_, _, rfl, rfl, rfl, rfl, rfl, rfl⟩ := HB.out.resolve_right (fun h => h.1 ⟨GA.out, hts⟩)
        have ne : (t.toList != s.toList) = false := by rw [hts]; simp
        obtain ⟨k0, k1, k2, k3, k4⟩ := N4.out.1
        clear hts
        obtain ⟨c0, c1, c2, c3, c4⟩ := R4.out.r
        have fz := R4.out.k
        have f0 := fz 0
        have f1 := fz 1
        have f2 := fz 2
        have f3 := fz 3
        have f4 := fz 4
        clear fz
        go_wp2_with fail
        clear k0 k1 k2 k3 k4
        have V : Hid (RB w _ a b c d f) := R4.out.put a b c d f
        clear c0 c1 c2 c3 c4 f0 f1 f2 f3 f4 R4
        generalize World.setCell _ _ _ = wz at V ⊢
        obtain ⟨r0, r1, r2, r3, r4⟩ := V.out.r
        exact bodyPost_ret (v := .tuple #[sv a b c d f, .bool true]) (by simp [results, Tryd.results8, go_sem, r0, r1, r2, r3, r4]) rfl ⟨rfl, V.out.b⟩
      · obtain ⟨_, rfl, rfl, rfl, rfl, rfl, rfl⟩ := HB.out.resolve_left (fun h => hts h.2.1)
        have ne : (t.toList != s.toList) = true := str_ne hts
        have ne2 : (t.toList == s.toList) = false := by simpa using ne
        have ne3 : ¬ t.toList = s.toList := by simpa using ne
        clear hts
        obtain ⟨c0, c1, c2, c3, c4⟩ := R4.out.r
        have fz := R4.out.k
        have f0 := fz 0
        have f1 := fz 1
        have f2 := fz 2
        have f3 := fz 3
        have f4 := fz 4
        clear fz
        go_wp2_with fail
        have V : Hid (RB w _ 0 0 0 0 0) := R4.out.put 0 0 0 0 0
        clear c0 c1 c2 c3 c4 f0 f1 f2 f3 f4 R4
        generalize World.setCell _ _ _ = wz at V ⊢
        obtain ⟨r0, r1, r2, r3, r4⟩ := V.out.r
        exact bodyPost_ret (v := .tuple #[sv 0 0 0 0 0, .bool false]) (by simp [results, Tryd.results8, go_sem, r0, r1, r2, r3, r4]) rfl ⟨rfl, V.out.b⟩
end Go.Proofs.YtgimdhdioigmiaaDoor.Rs
