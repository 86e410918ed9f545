/- Clean in the program: for every row of bytes. -/
import Derived.Test.YtpehoakdhbicfaaDoorBy
import Derived.Lib.RuneCountTail
import Derived.BigCall
namespace Go.Proofs.YtpehoakdhbicfaaDoor.Ru
open Go.ChangeShapes Go.WideShapes Go.ChangeAt Go.RowKit

theorem decode_tail (s : ByteArray) (p : Nat) (hp : p < s.size) : Lib.decodeGo (s.extract p s.size) = Utf8.decode s p := by
  unfold Lib.decodeGo
  rw [if_neg (by rw [Lib.tail_size]; omega), Lib.tail_decode]
  rfl

set_option maxHeartbeats 1000000 in
set_option maxRecDepth 8000 in
theorem bad_yes (s : ByteArray) (p : Nat) (w : World) (_hs : s.size ≤ 4194304) (hp : p < s.size) (hT0 : Lib.Utf8Tabs 0 1 w) (hb : bad s p) :
    Calls Tryd.prog 17 #[.string s, .int .i64 p] w fun e w' => e = .returned (.bool true) ∧ Below w.heap.size w w' := by
  have C : Hid (Calls Tryd.prog 27 #[.string (s.extract p s.size)] w fun e w' => e = .returned (.tuple #[.int .i32 65533, .int .i64 1]) ∧ Below w.heap.size w w') := by
    have := Tryd.utf8_DecodeRuneInString (s.extract p s.size) w hT0
    rw [decode_tail s p hp, show Utf8.decode s p = (65533, 1) from hb] at this
    exact this
  clear hT0
  go_enter Tryd.func17, Tryd.ntmps17
  go_wp2_with fail
  refine C.out.mono ?_
  rintro e w1 ⟨rfl, b1⟩
  go_wp2
  go_ret
  exact ⟨rfl, b1⟩
set_option maxHeartbeats 1000000 in
set_option maxRecDepth 8000 in
theorem bad_no (s : ByteArray) (p : Nat) (w : World) (_hs : s.size ≤ 4194304) (hp : p < s.size) (hT0 : Lib.Utf8Tabs 0 1 w) (hb : ¬ bad s p) :
    Calls Tryd.prog 17 #[.string s, .int .i64 p] w fun e w' => e = .returned (.bool false) ∧ Below w.heap.size w w' := by
  have C : Hid (Calls Tryd.prog 27 #[.string (s.extract p s.size)] w fun e w' => e = .returned (.tuple #[.int .i32 (Utf8.decode s p).1, .int .i64 (Utf8.decode s p).2]) ∧ Below w.heap.size w w') := by
    have := Tryd.utf8_DecodeRuneInString (s.extract p s.size) w hT0
    rw [decode_tail s p hp] at this
    exact this
  have hb' : (Utf8.decode s p).1 ≠ 65533 ∨ (Utf8.decode s p).2 ≠ 1 := by
    by_cases a : (Utf8.decode s p).1 = 65533
    · by_cases b : (Utf8.decode s p).2 = 1
      · exact absurd (Prod.ext a b) hb
      · exact .inr b
    · exact .inl a
  clear hT0 hb
  generalize (Utf8.decode s p).1 = r at *
  generalize (Utf8.decode s p).2 = n at *
  by_cases hr : r = 65533
  · subst hr
    have hn : ((n : Int) == 1) = false := by rw [beq_eq_false_iff_ne]; omega
    clear hb'
    go_enter Tryd.func17, Tryd.ntmps17
    go_wp2_with fail
    refine C.out.mono ?_
    rintro e w1 ⟨rfl, b1⟩
    go_wp2
    go_ret
    exact ⟨rfl, b1⟩
  · have hn : ((r : Int) == 65533) = false := by rw [beq_eq_false_iff_ne]; omega
    clear hb'
    go_enter Tryd.func17, Tryd.ntmps17
    go_wp2_with fail
    refine C.out.mono ?_
    rintro e w1 ⟨rfl, b1⟩
    go_wp2
    go_ret
    exact ⟨rfl, b1⟩

set_option maxHeartbeats 1000000 in
theorem hid_any (r : Nat) (w : World) : Calls Tryd.prog 19 #[.int .i32 (r : Int)] w fun e w' => e = .returned (.bool (decide (r < 32 ∨ (127 ≤ r ∧ r < 160)))) ∧ w' = w := by
  by_cases h1 : r < 32
  · rw [decide_eq_true (by omega)]
    go_enter Tryd.func19, Tryd.ntmps19
    go_wp2
    go_ret
    exact ⟨rfl, rfl⟩
  · have d1 : decide ((r : Int) < 32) = false := decide_eq_false (by omega)
    by_cases h2 : 127 ≤ r
    · by_cases h3 : r ≤ 159
      · rw [decide_eq_true (by omega)]
        have d2 : decide ((r : Int) ≤ 159) = true := decide_eq_true (by omega)
        go_enter Tryd.func19, Tryd.ntmps19
        go_wp2
        go_ret
        exact ⟨rfl, rfl⟩
      · rw [decide_eq_false (by omega)]
        have d2 : decide ((r : Int) ≤ 159) = false := decide_eq_false (by omega)
        go_enter Tryd.func19, Tryd.ntmps19
        go_wp2
        go_ret
        exact ⟨rfl, rfl⟩
    · rw [decide_eq_false (by omega)]
      go_enter Tryd.func19, Tryd.ntmps19
      go_wp2
      go_ret
      exact ⟨rfl, rfl⟩

theorem builder_below {T e : TypeId} {B b : Nat} {bs : List Value} {W W' : World} (h : Lib.IsBuilderF T e B b bs W) (hb : Below W.heap.size W W') : Lib.IsBuilderF T e B b bs W' := by
  have one : ∀ {p : Value}, Lib.BuilderAtF T e B b p bs W → Lib.BuilderAtF T e B b p bs W' := fun {p} h => by
    obtain ⟨hB, v, hv, hown, hne⟩ := h
    exact ⟨hB, v, (hb.block b (Array.getElem?_eq_some_iff.1 hv).1).trans hv, hown.kept (row := none) ⟨hb.os, hb.tape, hb.output, hb.size, fun k hk _ => hb.block k hk⟩ (Classical.em _), hne⟩
  exact h.elim (fun x => .inl (one x)) (fun x => .inr (one x))

theorem rune_byte (c : Nat) (h : c < 128) : Lib.runeCells (c : Int) = Lib.byteCells [UInt8.ofNat c] := by
  unfold Lib.runeCells
  rw [Lib.encodeRuneZ_one (by omega) (by omega)]
  have : (UInt8.ofNat c).toNat = c := by rw [UInt8.toNat_ofNat']; omega
  simp [Lib.byteCells]
  omega

set_option maxHeartbeats 4000000 in
set_option maxRecDepth 1000000 in
theorem iclean (v : Value) (L : List UInt8) (s : ByteArray) (hsL : s = ⟨L.toArray⟩) (w : World) (hR0 : Reads w v L) (hs : s.size ≤ 20000) (hT0 : Lib.Utf8Tabs 0 1 w) :
    Calls Tryd.prog 6 #[v] w fun e w' => ∃ k, Ends s k ∧ e = .returned (.string ⟨(outs s k).toArray⟩) ∧ Below w.heap.size w w' := by
  have hcv := conv_reads hR0
  rw [← hsL] at hcv
  have hll : s.size = L.length := by rw [hsL]; simp [ByteArray.size]
  obtain ⟨a0, cap0, rfl⟩ := hR0.form
  rw [← hll] at hcv hR0 ⊢
  have T0 : Hid (Lib.Utf8Tabs 0 1 w) := hT0
  clear hR0 hsL hT0 hll
  go_enter Tryd.func6, Tryd.ntmps6
  go_wp2
  go_loopw [] (fun wr => ∃ k : Nat, Hid (lows s k) ∧ Lib.IsBuilderF 37 5 w.heap.size w.heap.size (Lib.byteCells (outs s k)) wr ∧ wr.heap[w.heap.size + 1]? = some (.stringIter s (pos s k)) ∧ Below w.heap.size w wr) (fun wr => s.size - wr.iterPos (w.heap.size + 1))
  case atStart =>
    refine ⟨0, lows_zero s, (Lib.IsBuilderF.of (Lib.fresh_isBuilder 37 5 w)).alloc _, ?_, ((Below.refl _ w).alloc (Nat.le_refl _) _).alloc (by simp) _⟩
    have := World.iter_heap (w.alloc (.cells #[.pointer none, .slice none 0 0] 37)) s 0
    simpa [pos] using this
  case round =>
    obtain ⟨k, hlo, hI, hit, hbw⟩ := hrel
    have hsz : w.heap.size + 1 < wr.heap.size := (Array.getElem?_eq_some_iff.1 hit).1
    have pb := pos_ge hlo.out
    have os := outs_size hlo.out
    have HO : Hid (outs s (k + 1) = outs s k ++ cl s (pos s k)) := rfl
    by_cases hp : pos s k < s.size
    · have hnx : ∀ ty, (Instr.next (.pointer (some ⟨w.heap.size + 1, 0, none⟩)) true ty).run Tryd.prog wr = _ := fun ty => Lib.run_next_any_at wr (w.heap.size + 1) s (pos s k) ty hit hp
      have hwd : 1 ≤ (Utf8.decode s (pos s k)).2 := (wd_in s (pos s k) hp).1
      have hd1 := decode_le s (pos s k)
      have hI2 := hI.iterAt hit (pos s k + (Utf8.decode s (pos s k)).2)
      have hit2 := Lib.iterAt_heap wr (w.heap.size + 1) s (pos s k) (pos s k + (Utf8.decode s (pos s k)).2) hit
      have hbw2 := Lib.below_iterAt hbw (k := w.heap.size + 1) (by omega) s (pos s k + (Utf8.decode s (pos s k)).2)
      have hsz2 : w.heap.size + 1 < (wr.iterAt (w.heap.size + 1) s (pos s k + (Utf8.decode s (pos s k)).2)).heap.size := by rw [Lib.iterAt_size]; omega
      have LO : Hid (lows s (k + 1)) := lows_succ hlo.out hp
      have NX : Hid (pos s k + (Utf8.decode s (pos s k)).2 = pos s (k + 1)) := rfl
      have T2 : Hid (Lib.Utf8Tabs 0 1 (wr.iterAt (w.heap.size + 1) s (pos s k + (Utf8.decode s (pos s k)).2))) := Utf8Tabs_below T0.out hbw2
      have BY : Hid (bad s (pos s k) → ∀ w', Lib.Utf8Tabs 0 1 w' → Calls Tryd.prog 17 #[.string s, .int .i64 (pos s k : Nat)] w' fun e w'' => e = .returned (.bool true) ∧ Below w'.heap.size w' w'') := fun h w' t => bad_yes s _ w' (by omega) hp t h
      have BN : Hid (¬ bad s (pos s k) → ∀ w', Lib.Utf8Tabs 0 1 w' → Calls Tryd.prog 17 #[.string s, .int .i64 (pos s k : Nat)] w' fun e w'' => e = .returned (.bool false) ∧ Below w'.heap.size w' w'') := fun h w' t => bad_no s _ w' (by omega) hp t h
      by_cases hbad : bad s (pos s k)
      · have E : Hid (Lib.byteCells (cl s (pos s k)) = Lib.byteCells [63]) := by show _ = _; rw [cl_bad hbad]
        have BY' := BY.out hbad _ T2.out
        have BYh : Hid (Calls Tryd.prog 17 #[.string s, .int .i64 (pos s k : Nat)] (wr.iterAt (w.heap.size + 1) s (pos s k + (Utf8.decode s (pos s k)).2)) fun e w'' => e = .returned (.bool true) ∧ Below (wr.iterAt (w.heap.size + 1) s (pos s k + (Utf8.decode s (pos s k)).2)).heap.size (wr.iterAt (w.heap.size + 1) s (pos s k + (Utf8.decode s (pos s k)).2)) w'') := BY'
        clear BY BN BY' hbad
        generalize (Utf8.decode s (pos s k)).2 = wdt at *
        generalize (Utf8.decode s (pos s k)).1 = r at *
        go_wp2_with fail
        refine BYh.out.mono ?_
        rintro e W0 ⟨rfl, b0⟩
        have hI3 := builder_below hI2 b0
        have hit3 : W0.heap[w.heap.size + 1]? = some (.stringIter s (pos s k + wdt)) := (b0.block _ hsz2).trans hit2
        have hbw3 := hbw2.trans (b0.mono hbw2.size)
        have hsz3 : w.heap.size ≤ W0.heap.size := hbw3.size
        go_wp2_with (go_at_call 18; refine (Tryd.Builder_WriteString_k w.heap.size w.heap.size _ _ _ hI3 (by rw [Lib.byteCells_length]; show _ + 1 ≤ _; omega) hsz3).mono ?_; rintro e W1 ⟨rfl, h1, b1, k1⟩)
        go_roundw
        case rel =>
          refine ⟨k + 1, LO.out, ?_, ?_, hbw3.trans b1⟩
          · rw [HO.out, Lib.byteCells_append, E.out]; exact Or.inr h1
          · rw [← NX.out]; exact k1.iter hit3 (by omega)
        case measure =>
          simp only [World.iterPos, k1.iter hit3 (by omega), hit]
          omega
      · have BNh : Hid (Calls Tryd.prog 17 #[.string s, .int .i64 (pos s k : Nat)] (wr.iterAt (w.heap.size + 1) s (pos s k + (Utf8.decode s (pos s k)).2)) fun e w'' => e = .returned (.bool false) ∧ Below (wr.iterAt (w.heap.size + 1) s (pos s k + (Utf8.decode s (pos s k)).2)).heap.size (wr.iterAt (w.heap.size + 1) s (pos s k + (Utf8.decode s (pos s k)).2)) w'') := BN.out hbad _ T2.out
        have C13 : Hid ((Utf8.decode s (pos s k)).1 = 13 → cl s (pos s k) = []) := fun h => cl_cr hbad h
        have CH : Hid ((Utf8.decode s (pos s k)).1 ≠ 13 → hid (Utf8.decode s (pos s k)).1 → cl s (pos s k) = [32]) := fun h h' => cl_hid hbad h h'
        have CO : Hid ((Utf8.decode s (pos s k)).1 ≠ 13 → ¬ hid (Utf8.decode s (pos s k)).1 → Lib.byteCells (cl s (pos s k)) = Lib.runeCells ((Utf8.decode s (pos s k)).1 : Int)) := fun h h' => by
          rw [cl_own hbad h h', cells_data, enc_of hp hbad]
        clear BY BN hbad
        generalize (Utf8.decode s (pos s k)).2 = wdt at *
        generalize (Utf8.decode s (pos s k)).1 = r at *
        by_cases q13 : r = 13
        · subst q13
          have E : Hid (Lib.byteCells (outs s (k + 1)) = Lib.byteCells (outs s k)) := by show _ = _; rw [HO.out, C13.out rfl, List.append_nil]
          go_wp2_with fail
          refine BNh.out.mono ?_
          rintro e W0 ⟨rfl, b0⟩
          have hI3 := builder_below hI2 b0
          have hit3 : W0.heap[w.heap.size + 1]? = some (.stringIter s (pos s k + wdt)) := (b0.block _ hsz2).trans hit2
          have hbw3 := hbw2.trans (b0.mono hbw2.size)
          have hsz3 : w.heap.size ≤ W0.heap.size := hbw3.size
          go_wp2
          go_roundw
          case rel =>
            refine ⟨k + 1, LO.out, ?_, ?_, hbw3⟩
            · rw [E.out]; exact hI3
            · rw [← NX.out]; exact hit3
          case measure =>
            simp only [World.iterPos, hit3, hit]
            omega
        by_cases q10 : r = 10
        · subst q10
          have E : Hid (Lib.byteCells (cl s (pos s k)) = Lib.runeCells ((10 : Nat) : Int)) := CO.out (by omega) (by unfold hid; omega)
          have hd : decide (10 < 32 ∨ (127 ≤ 10 ∧ 10 < 160)) = true := rfl
          go_wp2_with fail
          refine BNh.out.mono ?_
          rintro e W0 ⟨rfl, b0⟩
          have hI3 := builder_below hI2 b0
          have hit3 : W0.heap[w.heap.size + 1]? = some (.stringIter s (pos s k + wdt)) := (b0.block _ hsz2).trans hit2
          have hbw3 := hbw2.trans (b0.mono hbw2.size)
          have hsz3 : w.heap.size ≤ W0.heap.size := hbw3.size
          go_wp2_with (first | (go_at_call 19; refine (hid_any _ _).mono ?_; rintro e w' ⟨rfl, hw⟩; subst hw; rw [hd]) | (go_at_call 20; refine (Tryd.Builder_WriteRune_k w.heap.size w.heap.size _ _ (by omega) (by omega) _ hI3 (by rw [Lib.byteCells_length]; omega) hsz3).mono ?_; rintro e W1 ⟨rfl, h1, b1, k1⟩))
          go_roundw
          case rel =>
            refine ⟨k + 1, LO.out, ?_, ?_, hbw3.trans b1⟩
            · rw [HO.out, Lib.byteCells_append, E.out]; exact Or.inr h1
            · rw [← NX.out]; exact k1.iter hit3 (by omega)
          case measure =>
            simp only [World.iterPos, k1.iter hit3 (by omega), hit]
            omega
        by_cases q1 : r < 32 ∨ (127 ≤ r ∧ r < 160)
        · have q13' := q13
          have E : Hid (Lib.byteCells (cl s (pos s k)) = Lib.runeCells 32) := by show _ = _; rw [CH.out (by omega) (by unfold hid; omega)]; exact (rune_byte 32 (by omega)).symm
          have e13 : ((r : Int) == 13) = false := by rw [beq_eq_false_iff_ne]; omega
          have e10 : ((r : Int) == 10) = false := by rw [beq_eq_false_iff_ne]; omega
          have e10b : ((r : Int) != 10) = true := by rw [bne, e10]; rfl
          have hd : decide (r < 32 ∨ (127 ≤ r ∧ r < 160)) = true := decide_eq_true (by omega)
          go_wp2_with fail
          refine BNh.out.mono ?_
          rintro e W0 ⟨rfl, b0⟩
          have hI3 := builder_below hI2 b0
          have hit3 : W0.heap[w.heap.size + 1]? = some (.stringIter s (pos s k + wdt)) := (b0.block _ hsz2).trans hit2
          have hbw3 := hbw2.trans (b0.mono hbw2.size)
          have hsz3 : w.heap.size ≤ W0.heap.size := hbw3.size
          go_wp2_with (first | (go_at_call 19; refine (hid_any _ _).mono ?_; rintro e w' ⟨rfl, hw⟩; subst hw; rw [hd]) | (go_at_call 20; refine (Tryd.Builder_WriteRune_k w.heap.size w.heap.size _ _ (by omega) (by omega) _ hI3 (by rw [Lib.byteCells_length]; omega) hsz3).mono ?_; rintro e W1 ⟨rfl, h1, b1, k1⟩))
          go_roundw
          case rel =>
            refine ⟨k + 1, LO.out, ?_, ?_, hbw3.trans b1⟩
            · rw [HO.out, Lib.byteCells_append, E.out]; exact Or.inr h1
            · rw [← NX.out]; exact k1.iter hit3 (by omega)
          case measure =>
            simp only [World.iterPos, k1.iter hit3 (by omega), hit]
            omega
        · have q13' := q13
          have E : Hid (Lib.byteCells (cl s (pos s k)) = Lib.runeCells (r : Int)) := CO.out (by omega) (by unfold hid; omega)
          have e13 : ((r : Int) == 13) = false := by rw [beq_eq_false_iff_ne]; omega
          have e10 : ((r : Int) == 10) = false := by rw [beq_eq_false_iff_ne]; omega
          have e10b : ((r : Int) != 10) = true := by rw [bne, e10]; rfl
          have hd : decide (r < 32 ∨ (127 ≤ r ∧ r < 160)) = false := decide_eq_false (by omega)
          go_wp2_with fail
          refine BNh.out.mono ?_
          rintro e W0 ⟨rfl, b0⟩
          have hI3 := builder_below hI2 b0
          have hit3 : W0.heap[w.heap.size + 1]? = some (.stringIter s (pos s k + wdt)) := (b0.block _ hsz2).trans hit2
          have hbw3 := hbw2.trans (b0.mono hbw2.size)
          have hsz3 : w.heap.size ≤ W0.heap.size := hbw3.size
          go_wp2_with (first | (go_at_call 19; refine (hid_any _ _).mono ?_; rintro e w' ⟨rfl, hw⟩; subst hw; rw [hd]) | (go_at_call 20; refine (Tryd.Builder_WriteRune_k w.heap.size w.heap.size _ _ (by omega) (by omega) _ hI3 (by rw [Lib.byteCells_length]; omega) hsz3).mono ?_; rintro e W1 ⟨rfl, h1, b1, k1⟩))
          go_roundw
          case rel =>
            refine ⟨k + 1, LO.out, ?_, ?_, hbw3.trans b1⟩
            · rw [HO.out, Lib.byteCells_append, E.out]; exact Or.inr h1
            · rw [← NX.out]; exact k1.iter hit3 (by omega)
          case measure =>
            simp only [World.iterPos, k1.iter hit3 (by omega), hit]
            omega
    · have hnx : ∀ ty, (Instr.next (.pointer (some ⟨w.heap.size + 1, 0, none⟩)) true ty).run Tryd.prog wr = _ := fun ty => Lib.run_next_end_at wr (w.heap.size + 1) s (pos s k) ty hit hp
      have EN : Hid (Ends s k) := ⟨hp, hlo.out⟩
      go_wp2_with (go_at_call 21; refine (Tryd.Builder_String_any_k w.heap.size w.heap.size (outs s k) _ hI (by omega)).mono ?_)
      rintro e W1 ⟨rfl, _, b1, _⟩
      go_wp2
      go_ret
      exact ⟨k, EN.out, rfl, hbw.trans b1⟩
end Go.Proofs.YtpehoakdhbicfaaDoor.Ru
