/- Upper in the program: for every text. -/
import Derived.Test.YtpehoakdhbicfaaDoorPos
import Derived.Test.YtpehoakdhbicfaaDoorShelf
import Derived.BigCall
namespace Go.Proofs.YtpehoakdhbicfaaDoor.Uq
open Go.Proofs.YtpehoakdhbicfaaDoor.Ru
open Go.ChangeShapes Go.WideShapes Go.ChangeAt Go.RowKit

theorem rune_byte (c : Nat) (h : c < 128) : Lib.runeCells (c : Int) = Lib.byteCells [UInt8.ofNat c] := by
  unfold Lib.runeCells
  rw [Lib.encodeRuneZ_one (by omega) (by omega)]
  have : (UInt8.ofNat c).toNat = c := by rw [UInt8.toNat_ofNat']; omega
  simp [Lib.byteCells]
  omega
theorem str_cells (l : List UInt8) : Lib.strCells ⟨l.toArray⟩ = Lib.byteCells l := by
  simp [Lib.strCells, Lib.byteCells]

set_option maxHeartbeats 4000000 in
set_option maxRecDepth 1000000 in
theorem iupper (s : ByteArray) (w : World) (hs : s.size ≤ 20000) :
    Calls Tryd.prog 9 #[.string s] w fun e w' => ∃ k, Ends s k ∧ e = .returned (.string ⟨(outs s k).toArray⟩) ∧ Below w.heap.size w w' := by
  go_enter Tryd.func9, Tryd.ntmps9
  go_wp2
  go_loopw [] (fun wr => ∃ k : Nat, Hid (lows s k) ∧ Lib.IsBuilderF 37 5 w.heap.size w.heap.size (Lib.byteCells (outs s k)) wr ∧ wr.heap[w.heap.size + 1]? = some (.stringIter s (pos s k)) ∧ Below w.heap.size w wr) (fun wr => s.size - wr.iterPos (w.heap.size + 1))
  case atStart =>
    refine ⟨0, lows_zero s, (Lib.IsBuilderF.of (Lib.fresh_isBuilder 37 5 w)).alloc _, ?_, ((Below.refl _ w).alloc (Nat.le_refl _) _).alloc (by simp) _⟩
    have := World.iter_heap (w.alloc (.cells #[.pointer none, .slice none 0 0] 37)) s 0
    simpa [pos] using this
  case round =>
    obtain ⟨k, hlo, hI, hit, hbw⟩ := hrel
    have hsz : w.heap.size + 1 < wr.heap.size := (Array.getElem?_eq_some_iff.1 hit).1
    have pb := pos_ge hlo.out
    have os := outs_size s k
    have HO : Hid (outs s (k + 1) = outs s k ++ ol s (pos s k)) := rfl
    have WD := wd_in s (pos s k)
    have LS : Hid (pos s k < s.size → lows s (k + 1)) := fun h => lows_succ hlo.out h
    have AO := ascii_or s (pos s k)
    have OL : Hid (ol s (pos s k) = if bt s (pos s k) < 128 then [upb (bt s (pos s k))] else plain (Utf8.decode s (pos s k)).1) := rfl
    by_cases hp : pos s k < s.size
    · have hnx : ∀ ty, (Instr.next (.pointer (some ⟨w.heap.size + 1, 0, none⟩)) true ty).run Tryd.prog wr = _ := fun ty => Lib.run_next_any_at wr (w.heap.size + 1) s (pos s k) ty hit hp
      have hwd : 1 ≤ (Utf8.decode s (pos s k)).2 := (WD hp).1
      have hd1 := decode_le s (pos s k)
      have hI2 := hI.iterAt hit (pos s k + (Utf8.decode s (pos s k)).2)
      have hit2 := Lib.iterAt_heap wr (w.heap.size + 1) s (pos s k) (pos s k + (Utf8.decode s (pos s k)).2) hit
      have hbw2 := Lib.below_iterAt hbw (k := w.heap.size + 1) (by omega) s (pos s k + (Utf8.decode s (pos s k)).2)
      have hsz2 : w.heap.size ≤ (wr.iterAt (w.heap.size + 1) s (pos s k + (Utf8.decode s (pos s k)).2)).heap.size := by rw [Lib.iterAt_size]; omega
      have lo' := LS.out hp
      have LO : Hid (lows s (k + 1)) := lo'
      have NX : Hid (pos s k + (Utf8.decode s (pos s k)).2 = pos s (k + 1)) := rfl
      rcases AO hp with ⟨a1, a2⟩ | ⟨a1, a2⟩
      · have E : Hid (ol s (pos s k) = [upb (bt s (pos s k))]) := by show _ = _; rw [OL.out, if_pos a1]
        rw [a2] at hnx hd1
        clear AO OL lo' WD LS
        generalize (Utf8.decode s (pos s k)).2 = wdt at *
        generalize bt s (pos s k) = z at *
        by_cases c : 97 ≤ z ∧ z ≤ 122
        · have C : Hid (Lib.runeCells ((z : Int) - 97 + 65) = Lib.byteCells [upb z]) := by
            show _ = _
            rw [show (z : Int) - 97 + 65 = ((z - 32 : Nat) : Int) by omega, rune_byte (z - 32) (by omega)]
            unfold upb
            rw [if_pos c]
          obtain ⟨c1, c2⟩ := c
          go_wp2_with (go_at_call 20; refine (Tryd.Builder_WriteRune_k w.heap.size w.heap.size _ _ (by omega) (by omega) _ hI2 (by rw [Lib.byteCells_length]; omega) hsz2).mono ?_; rintro e W1 ⟨rfl, h1, b1, k1⟩)
          go_wp2
          go_roundw
          case rel =>
            refine ⟨k + 1, LO.out, ?_, ?_, hbw2.trans b1⟩
            · rw [HO.out, E.out, Lib.byteCells_append, ← C.out]; exact Or.inr h1
            · rw [← NX.out]; exact k1.iter hit2 (by omega)
          case measure =>
            simp only [World.iterPos, k1.iter hit2 (by omega), hit]
            omega
        · have C : Hid (Lib.runeCells (z : Int) = Lib.byteCells [upb z]) := by
            show _ = _
            rw [rune_byte z (by omega)]
            unfold upb
            rw [if_neg c]
          have c' : z < 97 ∨ 122 < z := by omega
          rcases c' with c' | c'
          · go_wp2_with (go_at_call 20; refine (Tryd.Builder_WriteRune_k w.heap.size w.heap.size _ _ (by omega) (by omega) _ hI2 (by rw [Lib.byteCells_length]; omega) hsz2).mono ?_; rintro e W1 ⟨rfl, h1, b1, k1⟩)
            go_wp2
            go_roundw
            case rel =>
              refine ⟨k + 1, LO.out, ?_, ?_, hbw2.trans b1⟩
              · rw [HO.out, E.out, Lib.byteCells_append, ← C.out]; exact Or.inr h1
              · rw [← NX.out]; exact k1.iter hit2 (by omega)
            case measure =>
              simp only [World.iterPos, k1.iter hit2 (by omega), hit]
              omega
          · go_wp2_with (go_at_call 20; refine (Tryd.Builder_WriteRune_k w.heap.size w.heap.size _ _ (by omega) (by omega) _ hI2 (by rw [Lib.byteCells_length]; omega) hsz2).mono ?_; rintro e W1 ⟨rfl, h1, b1, k1⟩)
            go_wp2
            go_roundw
            case rel =>
              refine ⟨k + 1, LO.out, ?_, ?_, hbw2.trans b1⟩
              · rw [HO.out, E.out, Lib.byteCells_append, ← C.out]; exact Or.inr h1
              · rw [← NX.out]; exact k1.iter hit2 (by omega)
            case measure =>
              simp only [World.iterPos, k1.iter hit2 (by omega), hit]
              omega
      · have E : Hid (ol s (pos s k) = plain (Utf8.decode s (pos s k)).1) := by show _ = _; rw [OL.out, if_neg (by omega)]
        clear AO OL lo' WD LS
        generalize (Utf8.decode s (pos s k)).2 = wdt at *
        generalize (Utf8.decode s (pos s k)).1 = r at *
        have pl := plain_size r
        have ps : (⟨(plain r).toArray⟩ : ByteArray).size ≤ 2 := by show (plain r).toArray.size ≤ 2; simpa using pl
        go_wp2_with (go_at_call 23; refine (of_any r _).mono ?_; rintro e W0 ⟨rfl, rfl⟩)
        go_wp2_with (go_at_call 18; refine (Tryd.Builder_WriteString_k w.heap.size w.heap.size _ _ _ hI2 (by rw [Lib.byteCells_length]; omega) hsz2).mono ?_; rintro e W1 ⟨rfl, h1, b1, k1⟩)
        go_wp2
        go_roundw
        case rel =>
          refine ⟨k + 1, LO.out, ?_, ?_, hbw2.trans b1⟩
          · rw [HO.out, E.out, Lib.byteCells_append, ← str_cells (plain r)]; exact Or.inr h1
          · rw [← NX.out]; exact k1.iter hit2 (by omega)
        case measure =>
          simp only [World.iterPos, k1.iter hit2 (by omega), hit]
          omega
    · have hnx : ∀ ty, (Instr.next (.pointer (some ⟨w.heap.size + 1, 0, none⟩)) true ty).run Tryd.prog wr = _ := fun ty => Lib.run_next_end_at wr (w.heap.size + 1) s (pos s k) ty hit hp
      have EN : Hid (Ends s k) := ⟨hp, hlo.out⟩
      go_wp2_with (go_at_call 21; refine (Tryd.Builder_String_any_k w.heap.size w.heap.size (outs s k) _ hI (by omega)).mono ?_)
      rintro e W1 ⟨rfl, _, b1, _⟩
      go_wp2
      go_ret
      exact ⟨k, EN.out, rfl, hbw.trans b1⟩
end Go.Proofs.YtpehoakdhbicfaaDoor.Uq
