/- A word cut into pieces, in the program. -/
import Derived.Test.YtchdhiojhdoenaaGoM
namespace Go.Proofs.Ytchdhiojhdoenaa.Ru
open Go.ChangeShapes Go.WideShapes Go.ChangeAt Go.RowKit

set_option maxHeartbeats 4000000 in
set_option maxRecDepth 1000000 in
theorem icut (x : ByteArray) (b : Nat) (w : World) (hs : x.size ≤ 20000) (hb8 : 8 ≤ b) (hb200 : b ≤ 200) :
    Calls Try.prog 17 #[.string x, .int .i64 b] w fun e w' => ∃ v, e = .returned (.tuple #[v, .int .i64 ((chs x b).2 : Nat)]) ∧ w'.ownsRow w.heap.size 9 1 v (chs x b).1.length (strs (chs x b).1) ∧ Below w.heap.size w w' := by
  obtain ⟨i0, hi, hz0, hz1, hz2⟩ := info_parts Try.info9
  have C0 : Hid ([] ++ (chf x b (cnt x) (cnt x) 0).1 = [] ++ (chs x b).1) := rfl
  have C1 : Hid ((chf x b (cnt x) (cnt x) 0).2 = (chs x b).2) := rfl
  go_enter Try.func17, Try.ntmps17
  go_wp2
  go_loopw [6, 7, 8] (fun v st ct wr => ∃ (j a cj f : Nat) (O : List ByteArray), Hid (lows x j) ∧ Hid (O ++ (chf x b (cnt x) f a).1 = [] ++ (chs x b).1) ∧ Hid ((chf x b (cnt x) f a).2 = (chs x b).2) ∧ Hid (cnt x - a ≤ f) ∧ Hid (j = a + cj) ∧ cj ≤ b ∧ Hid (st = .int .i64 (pos x a : Nat)) ∧ ct = .int .i64 (cj : Nat) ∧ O.length ≤ a ∧ Hid (wr.ownsRow w.heap.size 9 1 v O.length (strs O)) ∧ Hid (wr.heap[w.heap.size]? = some (.stringIter x (pos x j))) ∧ Hid (Below w.heap.size w wr)) (fun _ _ _ wr => x.size - wr.iterPos w.heap.size)
  case atStart =>
    refine ⟨0, 0, 0, cnt x, [], lows_zero x, C0, C1, Nat.le_refl _, rfl, Nat.zero_le _, rfl, rfl, Nat.le_refl _, World.ownsRow_nil _ _ _ _, ?_, (Below.refl _ _).alloc (Nat.le_refl _) _⟩
    show _ = _
    have := World.iter_heap w x 0
    simpa [pos] using this
  case round =>
    clear C0 C1
    obtain ⟨j, a, cj, f, O, LO, HC0, HC1, HF, HJ, hcj, HS, rfl, hO, R, HIT, BW⟩ := hrel
    have hst := HS.out
    subst hst
    clear HS
    obtain ⟨aa, cap, hv⟩ := row_form R.out
    subst hv
    have hit := HIT.out
    have pb := pos_ge LO.out
    have hj := HJ.out
    have pa : pos x a ≤ pos x j := pos_up x (by omega)
    have NI := own_ne_iter R.out hit
    by_cases hp : pos x j < x.size
    · have hnx : ∀ ty, (Instr.next (.pointer (some ⟨w.heap.size, 0, none⟩)) true ty).run Try.prog wr = _ := fun ty => Lib.run_next_any_at wr w.heap.size x (pos x j) ty hit hp
      have hwd := wd_in x (pos x j) hp
      have LO' : Hid (lows x (j + 1)) := lows_succ LO.out hp
      have NX : Hid (pos x j + (Utf8.decode x (pos x j)).2 = pos x (j + 1)) := rfl
      have hwd' : 1 ≤ (Utf8.decode x (pos x j)).2 := hwd.1
      have hit2 : Hid ((wr.iterAt w.heap.size x (pos x j + (Utf8.decode x (pos x j)).2)).heap[w.heap.size]? = some (.stringIter x (pos x j + (Utf8.decode x (pos x j)).2))) := Lib.iterAt_heap wr w.heap.size x (pos x j) (pos x j + (Utf8.decode x (pos x j)).2) hit
      have R2 : Hid ((wr.iterAt w.heap.size x (pos x j + (Utf8.decode x (pos x j)).2)).ownsRow w.heap.size 9 1 (.slice aa O.length cap) O.length (strs O)) := own_iterAt R.out hit _
      have B2 : Hid (Below w.heap.size w (wr.iterAt w.heap.size x (pos x j + (Utf8.decode x (pos x j)).2))) := Lib.below_iterAt BW.out (k := w.heap.size) (Nat.le_refl _) x _
      have MP : Hid (wr.iterPos w.heap.size = pos x j) := by show _ = _; simp only [World.iterPos, hit]
      have CJ : j + 1 ≤ cnt x := by
        have e := cnt_ends x
        by_cases c : j < cnt x
        · omega
        · exfalso
          have := LO'.out (cnt x) (by omega)
          exact e.1 this
      by_cases hc : cj = b
      · obtain ⟨g, hg, D0, D1⟩ := chs_more HC0.out HC1.out (by omega) HF.out (by omega)
        have E0 : Hid _ := D0
        have E1 : Hid _ := D1
        have EG : Hid (cnt x - (a + b) ≤ g) := hg
        have EJ : Hid (j = a + b) := by show _ = _; omega
        have e1 : ((cj : Int) == (b : Int)) = true := by rw [hc]; simp
        have SG : Hid (x.extract (pos x a) (pos x j) = seg x a (a + b)) := by
          show _ = _
          rw [EJ.out]
          rfl
        have ST : Hid (Value.int .i64 ((pos x j : Nat) : Int) = .int .i64 ((pos x (a + b) : Nat) : Int)) := by show _ = _; rw [EJ.out]
        have oa : O.length ≤ 20000 := by
          have := cnt_le x
          omega
        clear HC0 HC1 HF D0 D1 hg HJ hj R hit HIT BW hc LO CJ hwd
        generalize (Utf8.decode x (pos x j)).2 = wdt at *
        generalize (Utf8.decode x (pos x j)).1 = rr at *
        generalize pos x j = pj at *
        generalize pos x a = pa' at *
        generalize wr.iterAt w.heap.size x (pj + wdt) = wi at *
        go_wp2_with (at_builtin; refine wpList_append_own _ rfl _ _ 26 rfl w.heap.size 9 i0 (.string ⟨#[]⟩) 1 16 Try.underlying26 hi hz0 hz1 hz2 rfl (by decide) _ _ _ rfl (R2.out.alloc _) ⟨wi.heap.size, 0, none⟩ 1 1 [.string (x.extract pa' pj)] rfl rfl ?c1 ?c2 ?c3 ?c4 ?c5 ?_)
        case c1 =>
          intro j u hj
          match j, hj with
          | 0, hj => simp at hj; subst hj; simp [Addr.add]
        case c2 => intro u hu; simp at hu; subst hu; rfl
        case c3 => unfold maxLen; omega
        case c4 => omega
        case c5 => have := B2.out.size; simp; omega
        · intro v' w4 hown' hgrow _
          have hob : ∀ b', (Value.slice aa O.length cap).ownBlock = some b' → w.heap.size ≤ b' := fun b' hb => (R2.out.lt b' hb).1
          have R4 : Hid (w4.ownsRow w.heap.size 9 1 v' (O ++ [seg x a (a + b)]).length (strs (O ++ [seg x a (a + b)]))) := by
            show World.ownsRow _ _ _ _ _ _ _
            rw [strs, List.map_append, List.length_append, ← SG.out]
            exact hown'
          have B4 : Hid (Below w.heap.size w w4) := (B2.out.alloc B2.out.size _).grown hgrow (by have := B2.out.size; simp; omega) hob
          have I4 : Hid (w4.heap[w.heap.size]? = some (.stringIter x (pos x (j + 1)))) := by
            show _ = _
            have hlt : w.heap.size < wi.heap.size := (Array.getElem?_eq_some_iff.1 hit2.out).1
            rw [hgrow.block w.heap.size (by simp; omega) NI, ← NX.out]
            rw [Below.heap_alloc wi _ w.heap.size hlt]
            exact hit2.out
          clear hown' hgrow hob R2 B2 hit2
          go_wp2_with fail
          go_roundw
          case rel => exact ⟨j + 1, a + b, 1, g, O ++ [seg x a (a + b)], LO', E0, E1, EG, by show _ = _; have := EJ.out; omega, by omega, ST, rfl, by simp; omega, R4, I4, B4⟩
          case measure =>
            rw [MP.out]
            simp only [World.iterPos, I4.out]
            rw [← NX.out]
            omega
      · have e1 : ((cj : Int) == (b : Int)) = false := by rw [beq_eq_false_iff_ne]; omega
        have I4 : Hid ((wr.iterAt w.heap.size x (pos x j + (Utf8.decode x (pos x j)).2)).heap[w.heap.size]? = some (.stringIter x (pos x (j + 1)))) := by
          show _ = _
          rw [← NX.out]
          exact hit2.out
        have EJ : Hid (j + 1 = a + (cj + 1)) := by show _ = _; omega
        have hc' : cj + 1 ≤ b := by omega
        clear HJ hj R hit HIT BW LO CJ hwd hc
        go_wp2_with fail
        go_roundw
        case rel => exact ⟨j + 1, a, cj + 1, f, O, LO', HC0, HC1, HF, EJ, hc', rfl, by go_num, hO, R2, I4, B2⟩
        case measure =>
          rw [MP.out]
          simp only [World.iterPos, I4.out]
          rw [← NX.out]
          omega
    · have hnx : ∀ ty, (Instr.next (.pointer (some ⟨w.heap.size, 0, none⟩)) true ty).run Try.prog wr = _ := fun ty => Lib.run_next_end_at wr w.heap.size x (pos x j) ty hit hp
      have EC : j = cnt x := ends_cnt ⟨hp, LO.out⟩
      obtain ⟨D0, D1⟩ := chs_last HC0.out HC1.out (by omega)
      have E0 : Hid (O ++ [x.extract (pos x a) x.size] = (chs x b).1) := by
        show _ = _
        have e : x.extract (pos x a) x.size = seg x a (cnt x) := by unfold seg; rw [pos_cnt]
        rw [e]
        exact D0
      have E1 : Hid (cj = (chs x b).2) := by show _ = _; omega
      have oa : O.length ≤ 20000 := by
        have := cnt_le x
        omega
      have pa2 : pos x a ≤ x.size := by omega
      clear HC0 HC1 HF D0 D1 HJ hj hit HIT LO EC NI pa pb
      generalize pos x a = pa' at *
      go_wp2_with (at_builtin; refine wpList_append_own _ rfl _ _ 26 rfl w.heap.size 9 i0 (.string ⟨#[]⟩) 1 16 Try.underlying26 hi hz0 hz1 hz2 rfl (by decide) _ _ _ rfl (R.out.alloc _) ⟨wr.heap.size, 0, none⟩ 1 1 [.string (x.extract pa' x.size)] rfl rfl ?c1 ?c2 ?c3 ?c4 ?c5 ?_)
      case c1 =>
        intro j u hj
        match j, hj with
        | 0, hj => simp at hj; subst hj; simp [Addr.add]
      case c2 => intro u hu; simp at hu; subst hu; rfl
      case c3 => unfold maxLen; omega
      case c4 => omega
      case c5 => have := BW.out.size; simp; omega
      · intro v' w4 hown' hgrow _
        have hob : ∀ b', (Value.slice aa O.length cap).ownBlock = some b' → w.heap.size ≤ b' := fun b' hb => (R.out.lt b' hb).1
        have R4 : Hid (w4.ownsRow w.heap.size 9 1 v' (chs x b).1.length (strs (chs x b).1)) := by
          show World.ownsRow _ _ _ _ _ _ _
          rw [← E0.out, strs, List.map_append, List.length_append]
          exact hown'
        have B4 : Hid (Below w.heap.size w w4) := (BW.out.alloc BW.out.size _).grown hgrow (by have := BW.out.size; simp; omega) hob
        clear hown' hgrow hob R BW
        go_wp2_with fail
        go_ret2
        exact ⟨_, by rw [E1.out]; rfl, R4.out, B4.out⟩
end Go.Proofs.Ytchdhiojhdoenaa.Ru
