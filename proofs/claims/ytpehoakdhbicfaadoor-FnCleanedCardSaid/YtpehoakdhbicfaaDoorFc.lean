/- DrawClean, told as a function of the code. -/
import Derived.Test.YtpehoakdhbicfaaDoorFw
import Derived.Test.YtpehoakdhbicfaaDoorSCl
import Derived.Lib.LazyBuf
namespace Go.Proofs.YtpehoakdhbicfaaDoor.Fd
open Go.ChangeShapes Go.WideShapes Go.ChangeAt Go.RowKit
open Go.Proofs.YtpehoakdhbicfaaDoor.Ru (Reads bvs bv row_reads)

theorem made_zero (m : Nat) : (madeCells (Value.int .u8 0).cells (m * 1)).toList = bvs (List.replicate m 0) := by
  apply List.ext_getElem
  · simp [madeCells, bvs]
  · intro i h1 h2
    simp [madeCells, bvs, Value.cells, Nat.mod_one, bv]
theorem reads_rep {w : World} {base g m : Nat} (h : w.ownsRow base 5 1 (.slice (some ⟨g, 0, none⟩) m m) m (bvs (List.replicate m 0))) (hm : m ≤ maxLen) : Reads w (.slice (some ⟨g, 0, none⟩) m m) (List.replicate m 0) := by
  refine Or.inr ⟨g, 0, m, by simp, by simp, hm, (h.lt g rfl).2, fun i hi => ?_⟩
  have hi' : i < m := by simpa using hi
  rw [Nat.zero_add, h.cellAt i (by omega)]
  simp [bvs, hi', bv]

/-- where a row of bytes lies: not in the reader's block -/
def Off (r : Nat) (v : Value) : Prop := ∀ b o n cap, v = .slice (some ⟨b, o, none⟩) n cap → 0 < n → b ≠ r
theorem reads_turn {r : Nat} {w w' : World} {v : Value} {L : List UInt8} (h : Reads w v L) (t : Turn r w w') (ho : Off r v) : Reads w' v L := by
  rcases h with h | ⟨b, o, cap, h1, h2, h3, h4, h5⟩
  · exact Or.inl h
  · refine Or.inr ⟨b, o, cap, h1, h2, h3, Nat.lt_of_lt_of_le h4 t.size, fun i hi => ?_⟩
    rw [t.cell (o + i) h4 (ho b o _ cap h1 (by omega))]
    exact h5 i hi

/-- the bytes of a converted text lie in block g -/
structure CB (g : Nat) (t : ByteArray) (cap : Nat) (w : World) : Prop where
  lt : g < w.heap.size
  tc : t.size ≤ cap
  cm : cap ≤ maxLen
  cell : ∀ j, j < t.size → w.cell? ⟨g, j, none⟩ = some (.int .u8 ((t.data.toList.getD j 0).toNat : Nat))
  is : ∀ j, j < cap → (w.cell? ⟨g, j, none⟩).isSome = true
  fr : ∀ j, j < cap → w.frozen? ⟨g, j, none⟩ = false
theorem CB.turn {g cap r : Nat} {t : ByteArray} {w w' : World} (h : CB g t cap w) (k : Turn r w w') (hg : g ≠ r) : CB g t cap w' :=
  ⟨Nat.lt_of_lt_of_le h.lt k.size, h.tc, h.cm, fun j hj => (k.cell j h.lt hg).trans (h.cell j hj), fun j hj => by rw [k.cell j h.lt hg]; exact h.is j hj, fun j hj => (k.frozen j h.lt hg).trans (h.fr j hj)⟩
theorem CB.alloc {g cap : Nat} {t : ByteArray} {w : World} (h : CB g t cap w) (o : Obj) : CB g t cap (w.alloc o) := by
  have b := (Below.refl w.heap.size w).alloc (Nat.le_refl _) o
  have hl := h.lt
  exact ⟨Nat.lt_of_lt_of_le h.lt b.size, h.tc, h.cm, fun j hj => (b.cell (p := ⟨g, j, none⟩) hl).trans (h.cell j hj), fun j hj => by rw [b.cell (p := ⟨g, j, none⟩) hl]; exact h.is j hj, fun j hj => (b.frozen (p := ⟨g, j, none⟩) hl).trans (h.fr j hj)⟩
theorem CB.reads {g cap : Nat} {t : ByteArray} {w : World} (h : CB g t cap w) : Reads w (.slice (some ⟨g, 0, none⟩) t.size cap) t.data.toList :=
  Or.inr ⟨g, 0, cap, by rw [Ru.len_data], by rw [Ru.len_data]; exact h.tc, h.cm, h.lt, fun i hi => by rw [Nat.zero_add]; exact h.cell i (by rw [Ru.len_data] at hi; exact hi)⟩
theorem cb_new (w : World) (t : ByteArray) (ht : t.size ≤ maxLen) : CB w.heap.size t (grownCap w t.size 0 5) (Lib.bytesWorld w 5 t) := by
  have hge := grownCap_ge w t.size 0 5
  have hsz : (Lib.bytesCells w 5 t).size = grownCap w t.size 0 5 := by
    simp [Lib.bytesCells]
    show t.size + _ = _
    omega
  refine ⟨by rw [Lib.bytesWorld_size]; omega, hge, grownCap_le_maxLen w t.size 0 5 ht, fun j hj => Lib.bytesWorld_cell w 5 t j hj, fun j hj => ?_, fun j hj => ?_⟩
  · simp [World.cell?, Lib.bytesWorld_at_new, hsz, hj]
  · simp [World.frozen?, Lib.bytesWorld_at_new, hsz]
    omega
theorem below_bytes (w : World) (t : ByteArray) : Below w.heap.size w (Lib.bytesWorld w 5 t) :=
  ⟨rfl, rfl, rfl, by rw [Lib.bytesWorld_size]; omega, fun j hj => Lib.bytesWorld_at_old w 5 t j hj⟩
theorem reads_room {g cap : Nat} {t : ByteArray} {w : World} (h : CB g t cap w) (X : List UInt8) (hx : t.size + X.length ≤ cap) :
    Reads (w.setCells g t.size (bvs X)) (.slice (some ⟨g, 0, none⟩) (t.size + X.length) cap) (t.data.toList ++ X) := by
  have hl : (t.data.toList ++ X).length = t.size + X.length := by rw [List.length_append, Ru.len_data]
  refine Or.inr ⟨g, 0, cap, by rw [hl], by rw [hl]; exact hx, h.cm, ?_, fun i hi => ?_⟩
  · have := (Go.below_setCells (B := 0) (b := g) (Nat.zero_le _) (bvs X) t.size w (Below.refl 0 w)).size
    exact Nat.lt_of_lt_of_le h.lt this
  · rw [Nat.zero_add]
    rw [hl] at hi
    by_cases hlt : i < t.size
    · rw [World.cell?_setCells_out g (bvs X) t.size w ⟨g, i, none⟩ (fun _ _ => Or.inl hlt), h.cell i hlt]
      simp [List.getD, List.getElem?_append, hlt, bv]
    · have e := World.cell?_setCells_in g (bvs X) t.size w (fun j hj => h.is _ (by simp [bvs] at hj; omega)) (i - t.size) (by simp [bvs]; omega)
      rw [show t.size + (i - t.size) = i by omega] at e
      rw [e]
      have hk2 : i - t.size < X.length := by omega
      simp [List.getD, List.getElem?_append, hlt, bv, bvs, hk2]
/-- what DrawClean gives: ahead of the last draw, and the place -/
def dc1 (B : List UInt8) : List UInt8 × Nat :=
  if ow B (wpl B 0) 5 = true then
    ((wtx B 0).data.toList ++ [UInt8.ofNat (nx B (bp B (wpl B 0) 5)), UInt8.ofNat (nx B (np B (bp B (wpl B 0) 5))), UInt8.ofNat (nx B (np B (np B (bp B (wpl B 0) 5))))], np B (np B (np B (bp B (wpl B 0) 5))))
  else ((wtx B 0).data.toList, bp B (wpl B 0) 5)
def dcl (B : List UInt8) : List UInt8 := if ow B (dc1 B).2 40 = true then List.replicate (20000 + bw B (bp B (dc1 B).2 40) 2) 0 else (dc1 B).1

set_option maxHeartbeats 4000000 in
set_option maxRecDepth 100000 in
theorem dclean_any (B : List UInt8) (a : Option Addr) (cap : Nat) (w : World) (h : Cod B a cap w w.heap.size) (hn : B.length ≤ 1048576) :
    Calls Tryd.prog 5 #[.slice a B.length cap] w fun e w' => ∃ v, e = .returned v ∧ Reads w' v (dcl B) ∧ Below w.heap.size w w' := by
  obtain ⟨i0, hi, hz0, hz1, hz2⟩ := info_parts Ru.Tryd.info5
  have OP : Hid (Calls Tryd.prog 12 #[.slice a B.length cap] w fun e w' => e = .returned (.pointer (some ⟨w.heap.size, 0, none⟩)) ∧ w' = w.alloc (.cells #[.slice a B.length cap, .int .i64 0] 52)) := open_any _ a B.length cap rfl w
  have RA : Hid (Rd B 0 w.heap.size (w.alloc (.cells #[.slice a B.length cap, .int .i64 0] 52))) := Rd.new h hn
  have WO : Hid (∀ q w', Rd B q w.heap.size w' → Calls Tryd.prog 13 #[.pointer (some ⟨w.heap.size, 0, none⟩), .int .i64 60] w' (Gives B w.heap.size w' (.string (wtx B q)) (wpl B q))) := fun q w' h => words_any B q _ w' h
  have NX : Hid (∀ q w', Rd B q w.heap.size w' → Calls Tryd.prog 15 #[.pointer (some ⟨w.heap.size, 0, none⟩)] w' (Gives B w.heap.size w' (.int .i64 (nx B q : Nat)) (np B q))) := fun q w' h => next_any B q _ w' h
  have O5 : Hid (∀ q w', Rd B q w.heap.size w' → Calls Tryd.prog 14 #[.pointer (some ⟨w.heap.size, 0, none⟩), .int .i64 5] w' (Gives B w.heap.size w' (.bool (ow B q 5)) (bp B q 5))) := fun q w' h => once_any B q _ w' h 5 (by omega) (by omega)
  have O40 : Hid (∀ q w', Rd B q w.heap.size w' → Calls Tryd.prog 14 #[.pointer (some ⟨w.heap.size, 0, none⟩), .int .i64 40] w' (Gives B w.heap.size w' (.bool (ow B q 40)) (bp B q 40))) := fun q w' h => once_any B q _ w' h 40 (by omega) (by omega)
  have B2 : Hid (∀ q w', Rd B q w.heap.size w' → Calls Tryd.prog 16 #[.pointer (some ⟨w.heap.size, 0, none⟩), .int .i64 2] w' (Gives B w.heap.size w' (.int .i64 (bw B q 2 : Nat)) (bp B q 2))) := fun q w' h => below_any B q _ w' h 2 (by omega) (by omega)
  have B0 : Hid (Below w.heap.size w (w.alloc (.cells #[.slice a B.length cap, .int .i64 0] 52))) := (Below.refl _ _).alloc (Nat.le_refl _) _
  have hts := wtx_size B 0
  have E1 : Hid (dc1 B = if ow B (wpl B 0) 5 = true then
    ((wtx B 0).data.toList ++ [UInt8.ofNat (nx B (bp B (wpl B 0) 5)), UInt8.ofNat (nx B (np B (bp B (wpl B 0) 5))), UInt8.ofNat (nx B (np B (np B (bp B (wpl B 0) 5))))], np B (np B (np B (bp B (wpl B 0) 5))))
    else ((wtx B 0).data.toList, bp B (wpl B 0) 5)) := rfl
  have E2 : Hid (dcl B = if ow B (dc1 B).2 40 = true then List.replicate (20000 + bw B (bp B (dc1 B).2 40) 2) 0 else (dc1 B).1) := rfl
  generalize dcl B = DD at *
  generalize dc1 B = D1 at *
  clear h hn
  generalize B.length = n at *
  go_enter Tryd.func5, Tryd.ntmps5
  go_wp2_with fail
  refine (Calls.mono OP.out) ?_
  rintro e w1 ⟨rfl, hw1⟩
  rw [← hw1] at RA B0
  have hr := RA.out.lt
  clear hw1 OP
  go_wp2_with fail
  refine (WO.out 0 _ RA.out).mono ?_
  rintro e w2 ⟨rfl, k2, t2⟩
  have K2 : Hid (Rd B (wpl B 0) w.heap.size w2) := k2
  have Bw2 : Hid (Below w.heap.size w w2) := B0.out.trans t2.bel
  have hr2 := k2.lt
  clear k2 t2 RA B0 hr WO
  generalize wtx B 0 = t at *
  generalize wpl B 0 = p2 at *
  have hcv := Lib.run_convert_string_bytes (P := Tryd.prog) w2 9 22 5 t (u := .string) Tryd.underlying9 Tryd.underlying22 Tryd.underlying5
  have CB2 : Hid (CB w2.heap.size t (grownCap w2 t.size 0 5) (Lib.bytesWorld w2 5 t)) := cb_new w2 t (by unfold maxLen; omega)
  have bb := below_bytes w2 t
  have K3 : Hid (Rd B p2 w.heap.size (Lib.bytesWorld w2 5 t)) := K2.out.kept bb hr2
  have Bw3 : Hid (Below w.heap.size w (Lib.bytesWorld w2 5 t)) := Bw2.out.trans (bb.mono Bw2.out.size)
  generalize Lib.bytesWorld w2 5 t = w3 at *
  generalize grownCap w2 t.size 0 5 = gc at *
  generalize w2.heap.size = g at *
  clear bb K2 Bw2
  go_wp2_with fail
  have C5 : Hid (Calls Tryd.prog 14 #[.pointer (some ⟨w.heap.size, 0, none⟩), .int .i64 5] w3 (Gives B w.heap.size w3 (.bool (ow B p2 5)) (bp B p2 5))) := O5.out p2 w3 K3.out
  generalize ow B p2 5 = c1 at *
  generalize bp B p2 5 = p4 at *
  refine (Calls.mono C5.out) ?_
  rintro e w4 ⟨rfl, k4, t4⟩
  have K4 : Hid (Rd B p4 w.heap.size w4) := k4
  have Bw4 : Hid (Below w.heap.size w w4) := Bw3.out.trans t4.bel
  have CB4 : Hid (CB g t gc w4) := CB2.out.turn t4 (by omega)
  clear k4 t4 K3 Bw3 CB2 C5 O5 hcv
  cases c1
  · have K8 : Hid (Rd B p4 w.heap.size w4) := K4
    have B8 : Hid (Below w.heap.size w w4) := Bw4
    have R8 : Hid (Reads w4 (.slice (some ⟨g, 0, none⟩) t.size gc) t.data.toList) := CB4.out.reads
    have A8 : Hid (Off w.heap.size (.slice (some ⟨g, 0, none⟩) t.size gc)) := fun b o n cap e _ => by simp at e; omega
    have EN0 : Hid (DD = if ow B p4 40 = true then List.replicate (20000 + bw B (bp B p4 40) 2) 0 else t.data.toList) := by
      show DD = _
      rw [E2.out, E1.out]; rfl
    obtain ⟨L8, hL8⟩ : ∃ L, L = t.data.toList := ⟨_, rfl⟩
    rw [← hL8] at R8 EN0
    have hlen : L8.length = t.size := by rw [hL8, Ru.len_data]
    clear K4 Bw4 CB4 E1 E2 NX hL8
    have EN : Hid ((ow B p4 40 = false → L8 = DD) ∧ (ow B p4 40 = true → DD = List.replicate (20000 + bw B (bp B p4 40) 2) 0)) := by
      refine ⟨fun h => ?_, fun h => ?_⟩
      · rw [EN0.out, if_neg (by rw [h]; decide)]
      · rw [EN0.out, if_pos h]
    clear EN0 hlen
    have B1 : Hid (Calls Tryd.prog 14 #[.pointer (some ⟨w.heap.size, 0, none⟩), .int .i64 40] w4 (Gives B w.heap.size w4 (.bool (ow B p4 40)) (bp B p4 40))) := O40.out p4 w4 K8.out
    have P4 : Hid (∀ w', Rd B (bp B p4 40) w.heap.size w' → Calls Tryd.prog 16 #[.pointer (some ⟨w.heap.size, 0, none⟩), .int .i64 2] w' (Gives B w.heap.size w' (.int .i64 (bw B (bp B p4 40) 2 : Nat)) (bp B (bp B p4 40) 2))) := fun w' h => B2.out _ w' h
    have hu := bw_lt B (bp B p4 40) 2 (by omega)
    generalize ow B p4 40 = c2 at *
    generalize bw B (bp B p4 40) 2 = u at *
    generalize bp B (bp B p4 40) 2 = p10 at *
    generalize bp B p4 40 = p9 at *
    go_wp2_with fail
    refine (Calls.mono B1.out) ?_
    rintro e w9 ⟨rfl, k9, t9⟩
    have K9 : Hid (Rd B p9 w.heap.size w9) := k9
    have B9 : Hid (Below w.heap.size w w9) := B8.out.trans t9.bel
    have R9 : Hid (Reads w9 (.slice (some ⟨g, 0, none⟩) t.size gc) L8) := reads_turn R8.out t9 A8.out
    clear k9 t9 K8 R8 A8 B1
    cases c2
    · go_wp2_with fail
      go_ret
      exact ⟨_, rfl, (EN.out.1 (by simp)) ▸ R9.out, B9.out⟩
    · go_wp2_with fail
      refine (P4.out _ K9.out).mono ?_
      rintro e w10 ⟨rfl, k10, t10⟩
      have B10 : Hid (Below w.heap.size w w10) := B9.out.trans t10.bel
      have hs10 := B10.out.size
      clear k10 t10 K9 R9 P4
      obtain ⟨m, hm⟩ : ∃ m, 20000 + u = m := ⟨_, rfl⟩
      have FZ : Hid ((madeCells (Value.int .u8 0).cells (m * 1)).toList = bvs (List.replicate m 0)) := made_zero m
      have hm2 : (20000 : Int) + (u : Int) = (m : Int) := by omega
      have m1 : m ≤ 20001 := by omega
      have HM : Hid (20000 + u = m) := hm
      clear hm
      go_wp2_with (at_make; refine wpList_make_full _ rfl _ _ 22 rfl w.heap.size 5 i0 (.int .u8 0) 1 Tryd.underlying22 hi hz0 hz1 .i64 .i64 (m : Int) (m : Int) m rfl rfl rfl rfl (by rw [hz2]; omega) (by unfold maxLen; omega) hs10 ?_; intro w11 hown hgrow)
      rw [FZ.out] at hown
      have R0 : Hid (Reads w11 (.slice (some ⟨w10.heap.size, 0, none⟩) m m) (List.replicate m 0)) := reads_rep hown (by unfold maxLen; omega)
      have B0 : Hid (Below w.heap.size w w11) := B10.out.grown hgrow hs10 (fun k hk => by cases hk)
      clear hown hgrow
      go_wp2_with fail
      go_ret
      refine ⟨_, rfl, ?_, B0.out⟩
      rw [EN.out.2 (by simp), HM.out]
      exact R0.out
  · have wr : ∀ q, IntKind.u8.wrap ((nx B q : Nat) : Int) = (nx B q : Nat) := fun q => by have := nx_le B q; exact IntWalk.u8_in _ (by omega)
    go_wp2_with fail
    refine (NX.out p4 _ K4.out).mono ?_
    rintro e w5 ⟨rfl, k5, t5⟩
    have K5 : Hid (Rd B (np B p4) w.heap.size w5) := k5
    have Bw5 : Hid (Below w.heap.size w w5) := Bw4.out.trans t5.bel
    have CB5 : Hid (CB g t gc w5) := CB4.out.turn t5 (by omega)
    clear k5 t5 K4 Bw4 CB4
    have wr5 := wr p4
    go_wp2_with fail
    refine (NX.out (np B p4) _ K5.out).mono ?_
    rintro e w6 ⟨rfl, k6, t6⟩
    have K6 : Hid (Rd B (np B (np B p4)) w.heap.size w6) := k6
    have Bw6 : Hid (Below w.heap.size w w6) := Bw5.out.trans t6.bel
    have CB6 : Hid (CB g t gc w6) := CB5.out.turn t6 (by omega)
    clear k6 t6 K5 Bw5 CB5
    have wr6 := wr (np B p4)
    go_wp2_with fail
    refine (NX.out (np B (np B p4)) _ K6.out).mono ?_
    rintro e w7 ⟨rfl, k7, t7⟩
    have K7 : Hid (Rd B (np B (np B (np B p4))) w.heap.size w7) := k7
    have Bw7 : Hid (Below w.heap.size w w7) := Bw6.out.trans t7.bel
    have CB7 : Hid (CB g t gc w7) := CB6.out.turn t7 (by omega)
    clear k7 t7 K6 Bw6 CB6 NX
    have wr7 := wr (np B (np B p4))
    clear wr
    have EN0 : Hid (DD = if ow B (np B (np B (np B p4))) 40 = true then List.replicate (20000 + bw B (bp B (np B (np B (np B p4))) 40) 2) 0 else t.data.toList ++ [UInt8.ofNat (nx B p4), UInt8.ofNat (nx B (np B p4)), UInt8.ofNat (nx B (np B (np B p4)))]) := by
      show DD = _
      rw [E2.out, E1.out]; rfl
    clear E1 E2
    have v5 := nx_le B p4
    have v6 := nx_le B (np B p4)
    have v7 := nx_le B (np B (np B p4))
    generalize nx B p4 = y5 at *
    generalize nx B (np B p4) = y6 at *
    generalize nx B (np B (np B p4)) = y7 at *
    obtain ⟨p8, hp8⟩ : ∃ p, p = np B (np B (np B p4)) := ⟨_, rfl⟩
    rw [← hp8] at K7 EN0
    clear hp8
    have KA : Hid (∀ o, Rd B p8 w.heap.size (w7.alloc o)) := fun o => K7.out.kept ((Below.refl w7.heap.size w7).alloc (Nat.le_refl _) _) K7.out.lt
    have BA : Hid (∀ o, Below w.heap.size w (w7.alloc o)) := fun o => Bw7.out.alloc Bw7.out.size _
    have CA : Hid (∀ o, CB g t gc (w7.alloc o)) := fun o => CB7.out.alloc o
    have hg0 := CB7.out.lt
    have hg1 := K7.out.lt
    clear K7 Bw7 CB7
    obtain ⟨X, hX⟩ : ∃ X : List UInt8, X = [UInt8.ofNat y5, UInt8.ofNat y6, UInt8.ofNat y7] := ⟨_, rfl⟩
    rw [← hX] at EN0
    have hXl : X.length = 3 := by rw [hX]; rfl
    have hXb : Hid (bvs X = [Value.int .u8 (y5 : Nat), Value.int .u8 (y6 : Nat), Value.int .u8 (y7 : Nat)]) := by
      show bvs X = _
      rw [hX]
      have a5 : (UInt8.ofNat y5).toNat = y5 := by simp; omega
      have a6 : (UInt8.ofNat y6).toNat = y6 := by simp; omega
      have a7 : (UInt8.ofNat y7).toNat = y7 := by simp; omega
      simp only [bvs, bv, List.map_cons, List.map_nil, a5, a6, a7]
    have hXl' : Hid (X.length = 3) := hXl
    clear hX hXl
    have hgt : t.size ≤ 660 := hts
    obtain ⟨W7, hW7⟩ : ∃ W, W = w7.alloc (.cells #[.int .u8 (y5 : Nat), .int .u8 (y6 : Nat), .int .u8 (y7 : Nat)] 5) := ⟨_, rfl⟩
    have K7 : Hid (Rd B p8 w.heap.size W7) := by rw [hW7]; exact KA.out _
    have Bw7 : Hid (Below w.heap.size w W7) := by rw [hW7]; exact BA.out _
    have CB7 : Hid (CB g t gc W7) := by rw [hW7]; exact CA.out _
    have hnew : Hid (∀ j u, (bvs X)[j]? = some u → W7.cell? ((⟨w7.heap.size, 0, none⟩ : Addr).add j) = some u) := by
      intro j u hj
      rw [hXb.out] at hj
      rw [Addr.add_lit, hW7]
      simp only [Nat.zero_add, World.cell?_alloc_new]
      simpa using hj
    have HW7 : Hid (W7 = w7.alloc (.cells #[.int .u8 (y5 : Nat), .int .u8 (y6 : Nat), .int .u8 (y7 : Nat)] 5)) := hW7
    have bl : Hid ((bvs X).length = 3 * 1) := by show (bvs X).length = _; rw [hXb.out]; rfl
    have b1 : Hid (∀ u ∈ bvs X, u.oneCell' = true) := by
      intro u hu
      rw [hXb.out] at hu
      simp at hu
      rcases hu with rfl | rfl | rfl <;> rfl
    have ol : Hid ((bvs t.data.toList).length = t.size * 1) := by show (bvs t.data.toList).length = _; rw [List.length_map, Ru.len_data]; omega
    have oc : Hid (∀ j u, (bvs t.data.toList)[j]? = some u → W7.cell? ⟨g, 0 + j, none⟩ = some u) := by
      intro j u hj
      have hjl : j < t.size := by
        have := (List.getElem?_eq_some_iff.1 hj).1
        rw [List.length_map, Ru.len_data] at this
        exact this
      rw [Nat.zero_add, CB7.out.cell j hjl]
      rw [← hj]
      simp [bvs, bv, List.getD, hjl]
    have hb2 : (t.size + 3) * 1 ≤ 140737488355328 := by omega
    have hb1 : t.size + 3 ≤ maxLen := by unfold maxLen; omega
    have hsp : Hid (t.size + 3 ≤ gc → ∀ j, j < (bvs X).length → (W7.cell? ⟨g, 0 + t.size * 1 + j, none⟩).isSome = true ∧ W7.frozen? ⟨g, 0 + t.size * 1 + j, none⟩ = false) := by
      intro hle j hj
      rw [bl.out] at hj
      rw [show 0 + t.size * 1 + j = t.size + j by omega]
      exact ⟨CB7.out.is _ (by omega), CB7.out.fr _ (by omega)⟩
    clear hW7 KA BA CA
    go_wp2_with (at_builtin; rw [← HW7.out]; refine wpList_append_arg _ rfl _ _ 22 rfl 5 i0 (.int .u8 0) 1 1 Tryd.underlying22 hi hz0 hz1 hz2 rfl (by decide) g 0 t.size gc (bvs t.data.toList) rfl ol.out oc.out ⟨w7.heap.size, 0, none⟩ 3 3 (bvs X) rfl bl.out hnew.out b1.out hsp.out hb1 hb2 ?room ?grow)
    case room =>
      intro hle
      have b8 : Below g W7 (W7.setCells g t.size (bvs X)) := Go.below_setCells (Nat.le_refl _) (bvs X) _ W7 (Below.refl _ _)
      have hgr : w.heap.size < g := by omega
      have K8 : Hid (Rd B p8 w.heap.size (W7.setCells g t.size (bvs X))) := K7.out.kept b8 hgr
      have B8 : Hid (Below w.heap.size w (W7.setCells g t.size (bvs X))) := Bw7.out.trans (b8.mono (by omega))
      have R8 : Hid (Reads (W7.setCells g t.size (bvs X)) (.slice (some ⟨g, 0, none⟩) (t.size + 3) gc) (t.data.toList ++ X)) := by
        have := reads_room CB7.out X (by rw [hXl'.out]; exact hle)
        rw [hXl'.out] at this
        exact this
      have A8 : Hid (Off w.heap.size (.slice (some ⟨g, 0, none⟩) (t.size + 3) gc)) := fun b o n cap e _ => by simp at e; omega
      obtain ⟨w8, hw8⟩ : ∃ x, x = W7.setCells g t.size (bvs X) := ⟨_, rfl⟩
      rw [← hw8] at K8 B8 R8
      rw [← hw8]
      obtain ⟨L8, hL8⟩ : ∃ L, L = t.data.toList ++ X := ⟨_, rfl⟩
      rw [← hL8] at R8 EN0
      have hlen : L8.length = t.size + 3 := by rw [hL8, List.length_append, hXl'.out, Ru.len_data]
      clear hw8 b8 hL8 K7 Bw7 CB7 hnew bl b1 ol oc hsp HW7 hXb hXl' wr5 wr6 wr7
      have EN : Hid ((ow B p8 40 = false → L8 = DD) ∧ (ow B p8 40 = true → DD = List.replicate (20000 + bw B (bp B p8 40) 2) 0)) := by
        refine ⟨fun h => ?_, fun h => ?_⟩
        · rw [EN0.out, if_neg (by rw [h]; decide)]
        · rw [EN0.out, if_pos h]
      clear EN0 hlen
      have B1 : Hid (Calls Tryd.prog 14 #[.pointer (some ⟨w.heap.size, 0, none⟩), .int .i64 40] w8 (Gives B w.heap.size w8 (.bool (ow B p8 40)) (bp B p8 40))) := O40.out p8 w8 K8.out
      have P4 : Hid (∀ w', Rd B (bp B p8 40) w.heap.size w' → Calls Tryd.prog 16 #[.pointer (some ⟨w.heap.size, 0, none⟩), .int .i64 2] w' (Gives B w.heap.size w' (.int .i64 (bw B (bp B p8 40) 2 : Nat)) (bp B (bp B p8 40) 2))) := fun w' h => B2.out _ w' h
      have hu := bw_lt B (bp B p8 40) 2 (by omega)
      generalize ow B p8 40 = c2 at *
      generalize bw B (bp B p8 40) 2 = u at *
      generalize bp B (bp B p8 40) 2 = p10 at *
      generalize bp B p8 40 = p9 at *
      go_wp2_with fail
      refine (Calls.mono B1.out) ?_
      rintro e w9 ⟨rfl, k9, t9⟩
      have K9 : Hid (Rd B p9 w.heap.size w9) := k9
      have B9 : Hid (Below w.heap.size w w9) := B8.out.trans t9.bel
      have R9 : Hid (Reads w9 (.slice (some ⟨g, 0, none⟩) (t.size + 3) gc) L8) := reads_turn R8.out t9 A8.out
      clear k9 t9 K8 R8 A8 B1
      cases c2
      · go_wp2_with fail
        go_ret
        exact ⟨_, rfl, (EN.out.1 (by simp)) ▸ R9.out, B9.out⟩
      · go_wp2_with fail
        refine (P4.out _ K9.out).mono ?_
        rintro e w10 ⟨rfl, k10, t10⟩
        have B10 : Hid (Below w.heap.size w w10) := B9.out.trans t10.bel
        have hs10 := B10.out.size
        clear k10 t10 K9 R9 P4
        obtain ⟨m, hm⟩ : ∃ m, 20000 + u = m := ⟨_, rfl⟩
        have FZ : Hid ((madeCells (Value.int .u8 0).cells (m * 1)).toList = bvs (List.replicate m 0)) := made_zero m
        have hm2 : (20000 : Int) + (u : Int) = (m : Int) := by omega
        have m1 : m ≤ 20001 := by omega
        have HM : Hid (20000 + u = m) := hm
        clear hm
        go_wp2_with (at_make; refine wpList_make_full _ rfl _ _ 22 rfl w.heap.size 5 i0 (.int .u8 0) 1 Tryd.underlying22 hi hz0 hz1 .i64 .i64 (m : Int) (m : Int) m rfl rfl rfl rfl (by rw [hz2]; omega) (by unfold maxLen; omega) hs10 ?_; intro w11 hown hgrow)
        rw [FZ.out] at hown
        have R0 : Hid (Reads w11 (.slice (some ⟨w10.heap.size, 0, none⟩) m m) (List.replicate m 0)) := reads_rep hown (by unfold maxLen; omega)
        have B0 : Hid (Below w.heap.size w w11) := B10.out.grown hgrow hs10 (fun k hk => by cases hk)
        clear hown hgrow
        go_wp2_with fail
        go_ret
        refine ⟨_, rfl, ?_, B0.out⟩
        rw [EN.out.2 (by simp), HM.out]
        exact R0.out
    case grow =>
      intro hlt v' w8 hown hgrow
      have b8 : Below W7.heap.size W7 w8 := (Below.refl _ _).grown hgrow (Nat.le_refl _) (fun k hk => by cases hk)
      have hgr : w.heap.size < W7.heap.size := K7.out.lt
      have K8 : Hid (Rd B p8 w.heap.size w8) := K7.out.kept b8 hgr
      have B8 : Hid (Below w.heap.size w w8) := Bw7.out.trans (b8.mono (by omega))
      obtain ⟨L8, hL8⟩ : ∃ L, L = t.data.toList ++ X := ⟨_, rfl⟩
      have hlen : L8.length = t.size + 3 := by rw [hL8, List.length_append, hXl'.out, Ru.len_data]
      have R8 : Hid (Reads w8 v' L8) := by
        refine row_reads (base := W7.heap.size) ?_
        rw [hlen]
        have e : Lib.byteCells L8 = bvs t.data.toList ++ bvs X := by rw [hL8]; simp [Lib.byteCells, bvs]
        rw [e]
        exact hown
      have A8 : Hid (Off w.heap.size v') := fun b o n cap e _ => by
        have := hown.lt b (by rw [e]; rfl)
        omega
      rw [← hL8] at EN0
      clear b8 hL8 hown hgrow K7 Bw7 CB7 hnew bl b1 ol oc hsp HW7 hXb hXl' wr5 wr6 wr7
      have EN : Hid ((ow B p8 40 = false → L8 = DD) ∧ (ow B p8 40 = true → DD = List.replicate (20000 + bw B (bp B p8 40) 2) 0)) := by
        refine ⟨fun h => ?_, fun h => ?_⟩
        · rw [EN0.out, if_neg (by rw [h]; decide)]
        · rw [EN0.out, if_pos h]
      clear EN0 hlen
      have B1 : Hid (Calls Tryd.prog 14 #[.pointer (some ⟨w.heap.size, 0, none⟩), .int .i64 40] w8 (Gives B w.heap.size w8 (.bool (ow B p8 40)) (bp B p8 40))) := O40.out p8 w8 K8.out
      have P4 : Hid (∀ w', Rd B (bp B p8 40) w.heap.size w' → Calls Tryd.prog 16 #[.pointer (some ⟨w.heap.size, 0, none⟩), .int .i64 2] w' (Gives B w.heap.size w' (.int .i64 (bw B (bp B p8 40) 2 : Nat)) (bp B (bp B p8 40) 2))) := fun w' h => B2.out _ w' h
      have hu := bw_lt B (bp B p8 40) 2 (by omega)
      obtain ⟨b8, o8, hv8⟩ := R8.out.form
      subst hv8
      generalize L8.length = n8 at *
      generalize ow B p8 40 = c2 at *
      generalize bw B (bp B p8 40) 2 = u at *
      generalize bp B (bp B p8 40) 2 = p10 at *
      generalize bp B p8 40 = p9 at *
      go_wp2_with fail
      refine (Calls.mono B1.out) ?_
      rintro e w9 ⟨rfl, k9, t9⟩
      have K9 : Hid (Rd B p9 w.heap.size w9) := k9
      have B9 : Hid (Below w.heap.size w w9) := B8.out.trans t9.bel
      have R9 : Hid (Reads w9 (.slice b8 n8 o8) L8) := reads_turn R8.out t9 A8.out
      clear k9 t9 K8 R8 A8 B1
      cases c2
      · go_wp2_with fail
        go_ret
        exact ⟨_, rfl, (EN.out.1 (by simp)) ▸ R9.out, B9.out⟩
      · go_wp2_with fail
        refine (P4.out _ K9.out).mono ?_
        rintro e w10 ⟨rfl, k10, t10⟩
        have B10 : Hid (Below w.heap.size w w10) := B9.out.trans t10.bel
        have hs10 := B10.out.size
        clear k10 t10 K9 R9 P4
        obtain ⟨m, hm⟩ : ∃ m, 20000 + u = m := ⟨_, rfl⟩
        have FZ : Hid ((madeCells (Value.int .u8 0).cells (m * 1)).toList = bvs (List.replicate m 0)) := made_zero m
        have hm2 : (20000 : Int) + (u : Int) = (m : Int) := by omega
        have m1 : m ≤ 20001 := by omega
        have HM : Hid (20000 + u = m) := hm
        clear hm
        go_wp2_with (at_make; refine wpList_make_full _ rfl _ _ 22 rfl w.heap.size 5 i0 (.int .u8 0) 1 Tryd.underlying22 hi hz0 hz1 .i64 .i64 (m : Int) (m : Int) m rfl rfl rfl rfl (by rw [hz2]; omega) (by unfold maxLen; omega) hs10 ?_; intro w11 hown hgrow)
        rw [FZ.out] at hown
        have R0 : Hid (Reads w11 (.slice (some ⟨w10.heap.size, 0, none⟩) m m) (List.replicate m 0)) := reads_rep hown (by unfold maxLen; omega)
        have B0 : Hid (Below w.heap.size w w11) := B10.out.grown hgrow hs10 (fun k hk => by cases hk)
        clear hown hgrow
        go_wp2_with fail
        go_ret
        refine ⟨_, rfl, ?_, B0.out⟩
        rw [EN.out.2 (by simp), HM.out]
        exact R0.out
end Go.Proofs.YtpehoakdhbicfaaDoor.Fd
