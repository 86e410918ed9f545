/- Fold in the model. -/
import Derived.Test.YtchdhiojhdoenaaGoN
import Derived.Maps.AppendAt
namespace Go.Proofs.Ytchdhiojhdoenaa.Ru
open Go.ChangeShapes Go.WideShapes Go.ChangeAt Go.RowKit
attribute [local go_sem ↓] Go.wp_at_zero Go.wp_at_succ

theorem chs_last {x : ByteArray} {w f a : Nat} {O L : List ByteArray} (h : O ++ (chf x w (cnt x) f a).1 = L ++ (chs x w).1) (h2 : (chf x w (cnt x) f a).2 = (chs x w).2) (hc : cnt x ≤ a + w) : O ++ [seg x a (cnt x)] = L ++ (chs x w).1 ∧ cnt x - a = (chs x w).2 := by
  rw [chf_last x w (cnt x) f a hc] at h h2
  exact ⟨h, h2⟩
theorem chs_more {x : ByteArray} {w f a : Nat} {O L : List ByteArray} (h : O ++ (chf x w (cnt x) f a).1 = L ++ (chs x w).1) (h2 : (chf x w (cnt x) f a).2 = (chs x w).2) (hc : ¬ cnt x ≤ a + w) (hf : cnt x - a ≤ f) (hw : 1 ≤ w) :
    ∃ g, cnt x - (a + w) ≤ g ∧ (O ++ [seg x a (a + w)]) ++ (chf x w (cnt x) g (a + w)).1 = L ++ (chs x w).1 ∧ (chf x w (cnt x) g (a + w)).2 = (chs x w).2 := by
  obtain ⟨g, hg, e⟩ := chf_more x w (cnt x) f a hc hf hw
  rw [e] at h h2
  exact ⟨g, hg, by rw [← h]; simp, h2⟩

/-- the cells of a row that is only read -/
def Cs (w : World) (g : Nat) (L : List ByteArray) : Prop := g < w.heap.size ∧ ∀ j, j < L.length → w.cell? ⟨g, j, none⟩ = some (.string (L.getD j emp))
theorem Cs.below {w w' : World} {g : Nat} {L : List ByteArray} (h : Cs w g L) (hb : Below w.heap.size w w') : Cs w' g L :=
  ⟨Nat.lt_of_lt_of_le h.1 hb.size, fun j hj => by rw [hb.cell (p := ⟨g, j, none⟩) h.1]; exact h.2 j hj⟩
theorem Cs.grown {w w' : World} {g : Nat} {L : List ByteArray} {row : Option Nat} (h : Cs w g L) (hb : w.grownBy w' row) (hr : row ≠ some g) : Cs w' g L :=
  ⟨Nat.lt_of_lt_of_le h.1 hb.size, fun j hj => hb.cell (h.2 j hj) (fun e => hr e.symm)⟩
theorem Cs.alloc {w : World} {g : Nat} {L : List ByteArray} (h : Cs w g L) (o : Obj) : Cs (w.alloc o) g L := h.below ((Below.refl _ _).alloc (Nat.le_refl _) _)
theorem at_ne {N : Nat} {v v' : Value} {g : Nat} (hat : v'.ownBlock = v.ownBlock ∨ v'.ownBlock = some N) (hv : v.ownBlock ≠ some g) (hg : g < N) : v'.ownBlock ≠ some g := by
  rcases hat with h | h
  · rw [h]; exact hv
  · rw [h]; intro e; simp at e; omega
def segs (x : ByteArray) : List ByteArray := (List.range (cnt x)).map fun j => seg x j (j + 1)
theorem segs_len (x : ByteArray) : (segs x).length = cnt x := by simp [segs]
theorem segs_get (x : ByteArray) (j : Nat) (h : j < cnt x) : (segs x).getD j emp = seg x j (j + 1) := by simp [segs, List.getD_eq_getElem?_getD, h]
theorem pieces_segs (x : ByteArray) : pieces x (cnt x) = strs (segs x) := by
  unfold pieces strs segs
  rw [List.map_map]
  rfl

def slLen (v : Value) : Nat := match v with | .slice _ n _ => n | _ => 0
set_option maxHeartbeats 4000000 in
set_option maxRecDepth 1000000 in
theorem sfold (s : ByteArray) (b : Nat) (w : World) (hs : s.size ≤ 20000) (hb8 : 8 ≤ b) (hb200 : b ≤ 200) (RA0 : ∀ x : ByteArray, x.size ≤ 20000 → RuneAt x) :
    Calls Try.prog 7 #[.string s, .int .i64 b] w fun e w' => ∃ v, e = .returned v ∧ w'.ownsRow w.heap.size 9 1 v (fld b (wordsB s)).1.length (strs (fld b (wordsB s)).1) ∧ Below w.heap.size w w' := by
  obtain ⟨i0, hi, hz0, hz1, hz2⟩ := info_parts Try.info9
  have SW : Hid (∀ w, Calls Try.prog 19 #[.string s] w fun e w' => ∃ v, e = .returned v ∧ w'.ownsRow w.heap.size 9 1 v (wordsB s).length (strs (wordsB s)) ∧ Below w.heap.size w w') := fun w => swords s w (by omega)
  have SR : Hid (∀ (x : ByteArray) (w : World), x.size ≤ 20000 → Calls Try.prog 20 #[.string x] w fun e w' => ∃ v, e = .returned v ∧ w'.ownsRow w.heap.size 9 1 v (cnt x) (strs (segs x)) ∧ Below w.heap.size w w') := fun x w hx => by
    refine (srunes x w (by omega) (RA0 x hx)).mono ?_
    rintro e w' ⟨k, v, ek, rfl, R, B⟩
    have := ends_cnt ek
    subst this
    rw [pieces_segs] at R
    exact ⟨v, rfl, R, B⟩
  have SJ : Hid (∀ (x : ByteArray) (g a n cap : Nat) (w : World), x.size ≤ 20000 → a + n ≤ cnt x → Cs w g (segs x) → Calls Try.prog 21 #[.slice (some ⟨g, a, none⟩) n cap] w fun e w' => e = .returned (.string (seg x a (a + n))) ∧ Below w.heap.size w w') := fun x g a n cap w hx ha hc =>
    sjoined x _ a n cap w hx ha (.inr ⟨g, a, rfl, hc.1, fun j hj => by rw [hc.2 (a + j) (by rw [segs_len]; omega), segs_get x (a + j) (by omega)]⟩)
  have WB := words_bnd s
  have WP : Hid (∀ x ∈ wordsB s, 0 < x.size ∧ x.size ≤ s.size) := words_pos s
  have FI : Hid (∀ l, FInv b l) := finv b (by omega)
  have R0 : Hid ((w.alloc (.cells #[] 9)).ownsRow w.heap.size 9 1 (.slice (some ⟨w.heap.size, 0, none⟩) 0 0) (fld b ((wordsB s).take 0)).1.length (strs (fld b ((wordsB s).take 0)).1)) := by
    show World.ownsRow _ _ _ _ _ _ _
    exact empty_row 9 w _ (Nat.le_refl _)
  have d1 : ¬ (b : Int) < 8 := by omega
  have d2 : ¬ 200 < (b : Int) := by omega
  have d3 : ¬ (20000 : Int) < (s.size : Int) := by omega
  clear RA0
  go_enter Try.func7, Try.ntmps7
  go_wp2_with fail
  refine (SW.out _).mono ?_
  rintro e w1 ⟨wv, rfl, WR, WBl⟩
  have R1 : Hid (w1.ownsRow w.heap.size 9 1 (.slice (some ⟨w.heap.size, 0, none⟩) 0 0) (fld b ((wordsB s).take 0)).1.length (strs (fld b ((wordsB s).take 0)).1)) := row_below R0.out WBl
  have B1 : Hid (Below w.heap.size w w1) := ((Below.refl _ w).alloc (Nat.le_refl _) _).trans (WBl.mono (by simp))
  have AL : Hid (wordsB s = (wordsB s).take (wordsB s).length) := (List.take_length).symm
  by_cases hW : (wordsB s).length = 0
  · obtain ⟨wa, wc, rfl⟩ := row_form WR
    have e0 : wordsB s = [] := List.eq_nil_of_length_eq_zero hW
    have RF : Hid (w1.ownsRow w.heap.size 9 1 (.slice (some ⟨w.heap.size, 0, none⟩) 0 0) (fld b (wordsB s)).1.length (strs (fld b (wordsB s)).1)) := by
      show World.ownsRow _ _ _ _ _ _ _
      rw [e0]
      have := R1.out
      rw [e0] at this
      exact this
    rw [hW]
    clear WR WBl hW e0
    go_wp2_with fail
    go_loopw [5, 7, 9] (fun v r i wr => v = .slice (some ⟨w.heap.size, 0, none⟩) 0 0 ∧ i = .int .i64 0 ∧ wr = w1) (fun _ _ _ _ => 0)
    case atStart => exact ⟨rfl, rfl, rfl⟩
    case round =>
      obtain ⟨rfl, rfl, rfl⟩ := hrel
      go_wp2_with fail
      go_ret
      exact ⟨_, rfl, RF.out, B1.out⟩
  have WC : ∃ gw wc, wv = .slice (some ⟨gw, 0, none⟩) (wordsB s).length wc ∧ (wordsB s).length ≤ wc ∧ wc ≤ maxLen ∧ w.heap.size + 1 ≤ gw ∧ Cs w1 gw (wordsB s) := by
    rcases srow_cases WR with ⟨h, _⟩ | ⟨gw, wc, rfl, h1, h2, h3, h4⟩
    · rw [h] at hW; exact absurd rfl hW
    · exact ⟨gw, wc, rfl, h3, h4, by simpa using h1, h2, fun j hj => srow_cell WR j hj⟩
  obtain ⟨gw, wc, rfl, wc1, wc2, hgw, CW0⟩ := WC
  have CW : Hid (Cs w1 gw (wordsB s)) := CW0
  have GW : Hid (w.heap.size + 1 ≤ gw) := hgw
  have VN : Hid ((Value.slice (some ⟨w.heap.size, 0, none⟩) 0 0).ownBlock ≠ some gw) := by
    show _ ≠ _
    intro e
    simp [Value.ownBlock] at e
    omega
  have bl := bnd_len (wordsB s)
  unfold maxLen at wc2
  clear WR WBl CW0 hgw hW
  have E0 : Hid ((fld b ((wordsB s).take 0)).2 = 0) := rfl
  go_wp2_with fail
  go_loopw [5, 7, 9] (fun v r y wr => ∃ i : Nat, i ≤ (wordsB s).length ∧ y = .int .i64 (i : Nat) ∧ Hid (r = .int .i64 ((fld b ((wordsB s).take i)).2 : Nat)) ∧ Hid (wr.ownsRow w.heap.size 9 1 v (fld b ((wordsB s).take i)).1.length (strs (fld b ((wordsB s).take i)).1)) ∧ Hid (Cs wr gw (wordsB s)) ∧ Hid (v.ownBlock ≠ some gw) ∧ Hid (Below w.heap.size w wr)) (fun _ _ y _ => ((wordsB s).length - intOf y).toNat)
  case atStart => exact ⟨0, Nat.zero_le _, rfl, rfl, R1, CW, VN, B1⟩
  case round =>
    clear R1 CW VN B1
    obtain ⟨i, hiW, rfl, HR, R, CW, VN, BW⟩ := hrel
    have hr := HR.out
    subst hr
    clear HR
    obtain ⟨aa, cap, hv⟩ := row_form R.out
    subst hv
    by_cases hik : i < (wordsB s).length
    · have q := CW.out.2 i hik
      have XP := WP.out _ (getD_mem (wordsB s) i hik)
      have TS : Hid ((wordsB s).take (i + 1) = (wordsB s).take i ++ [(wordsB s).getD i emp]) := take_snoc (wordsB s) i hik
      have F := FI.out ((wordsB s).take i)
      have F1 := FI.out ((wordsB s).take (i + 1))
      have bt1 := bnd_take (wordsB s) i
      have bt2 := bnd_take (wordsB s) (i + 1)
      obtain ⟨f1, f2, f3, f4⟩ := F
      obtain ⟨g1, g2, _, _⟩ := F1
      have FS : Hid (fld b ((wordsB s).take (i + 1)) = fst1 b (fld b ((wordsB s).take i)) ((wordsB s).getD i emp)) := by
        show _ = _
        rw [TS.out, fld_snoc]
      have i0' : (0 : Int) ≤ (i : Int) := by omega
      have i1' : (i : Int) < ((wordsB s).length : Int) := by omega
      generalize (wordsB s).getD i emp = x at *
      have cp := cnt_pos x XP.1
      have cl := cnt_le x
      have SRx : Hid (∀ (w : World), Calls Try.prog 20 #[.string x] w fun e w' => ∃ v, e = .returned v ∧ w'.ownsRow w.heap.size 9 1 v (cnt x) (strs (segs x)) ∧ Below w.heap.size w w') := fun w => SR.out x w (by omega)
      have SJx : Hid (∀ (g a n cap : Nat) (w : World), a + n ≤ cnt x → Cs w g (segs x) → Calls Try.prog 21 #[.slice (some ⟨g, a, none⟩) n cap] w fun e w' => e = .returned (.string (seg x a (a + n))) ∧ Below w.heap.size w w') := fun g a n cap w ha hc => SJ.out x g a n cap w (by omega) ha hc
      obtain ⟨st, hst⟩ : ∃ st, fld b ((wordsB s).take i) = st := ⟨_, rfl⟩
      rw [hst] at R FS VN f1 f2 f3 f4 ⊢
      obtain ⟨L, room⟩ := st
      clear hst
      dsimp only at R FS VN f1 f2 f3 f4 ⊢
      go_wp2_with fail
      refine (SRx.out _).mono ?_
      rintro e w2 ⟨pv, rfl, PR, PB⟩
      have R2 : Hid (w2.ownsRow w.heap.size 9 1 (.slice aa L.length cap) L.length (strs L)) := row_below R.out PB
      have CW2 : Hid (Cs w2 gw (wordsB s)) := CW.out.below PB
      have BW2 : Hid (Below w.heap.size w w2) := BW.out.trans (PB.mono BW.out.size)
      have q2 : w2.cell? ⟨gw, i, none⟩ = some (.string x) := by rw [PB.cell (p := ⟨gw, i, none⟩) CW.out.1]; exact q
      have PC : ∃ gp pc, pv = .slice (some ⟨gp, 0, none⟩) (cnt x) pc ∧ cnt x ≤ pc ∧ pc ≤ maxLen ∧ wr.heap.size ≤ gp ∧ Cs w2 gp (segs x) := by
        have PR' : w2.ownsRow wr.heap.size 9 1 pv (segs x).length (strs (segs x)) := by rw [segs_len]; exact PR
        rcases srow_cases PR' with ⟨h, _⟩ | ⟨gp, pc, h0, h1, h2, h3, h4⟩
        · have := segs_len x
          rw [h] at this
          have : 0 = cnt x := this
          omega
        · subst h0
          rw [segs_len] at h3
          refine ⟨gp, pc, by rw [segs_len], h3, h4, h1, h2, fun j hj => srow_cell PR' j hj⟩
      obtain ⟨gp, pc, rfl, pc1, pc2, hgp, CP0⟩ := PC
      have CP : Hid (Cs w2 gp (segs x)) := CP0
      have VP : Hid ((Value.slice aa L.length cap).ownBlock ≠ some gp) := by
        show _ ≠ _
        intro e
        have := (R.out.lt gp e).2
        omega
      unfold maxLen at pc2
      clear R CW BW q PR PB CP0 SRx
      by_cases hc : 0 < L.length ∧ cnt x + 1 ≤ room
      · obtain ⟨hc1, hc2⟩ := hc
        have RC : ∃ g0, aa = some ⟨g0, 0, none⟩ ∧ w.heap.size ≤ g0 ∧ L.length ≤ cap ∧ cap ≤ maxLen := by
          rcases srow_cases R2.out with ⟨h, _⟩ | ⟨g0, c0, h0, h1, h2, h3, h4⟩
          · rw [h] at hc1; exact absurd hc1 (by decide)
          · simp at h0
            obtain ⟨rfl, rfl⟩ := h0
            exact ⟨g0, rfl, h1, h3, h4⟩
        obtain ⟨g0, rfl, hg0, hcap1, hcap2⟩ := RC
        have lc := srow_cell R2.out (L.length - 1) (by omega)
        have lf : w2.frozen? ⟨g0, L.length - 1, none⟩ = false := R2.out.frozenAt _
        have lsz := f2 _ (getD_mem L (L.length - 1) (by omega))
        have FP : Hid (fld b ((wordsB s).take (i + 1)) = (L.set (L.length - 1) (L.getD (L.length - 1) emp ++ ⟨#[32]⟩ ++ x), room - (cnt x + 1))) := by
          show _ = _
          rw [FS.out]
          unfold fst1
          rw [if_pos ⟨hc1, hc2⟩]
        have RS : Hid ((w2.setCell ⟨g0, L.length - 1, none⟩ (.string (L.getD (L.length - 1) emp ++ ⟨#[32]⟩ ++ x))).ownsRow w.heap.size 9 1 (.slice (some ⟨g0, 0, none⟩) L.length cap) (fld b ((wordsB s).take (i + 1))).1.length (strs (fld b ((wordsB s).take (i + 1))).1)) := by
          show World.ownsRow _ _ _ _ _ _ _
          rw [FP.out]
          show World.ownsRow _ _ _ _ _ (L.set _ _).length _
          rw [List.length_set, ← strs_set]
          exact (R2.out.stored _ _).1
        have GS : Hid (w2.grownBy (w2.setCell ⟨g0, L.length - 1, none⟩ (.string (L.getD (L.length - 1) emp ++ ⟨#[32]⟩ ++ x))) (some g0)) := (R2.out.stored _ _).2
        have CS : Hid (Cs (w2.setCell ⟨g0, L.length - 1, none⟩ (.string (L.getD (L.length - 1) emp ++ ⟨#[32]⟩ ++ x))) gw (wordsB s)) := CW2.out.grown GS.out (by have := VN.out; simpa [Value.ownBlock] using this)
        have BS : Hid (Below w.heap.size w (w2.setCell ⟨g0, L.length - 1, none⟩ (.string (L.getD (L.length - 1) emp ++ ⟨#[32]⟩ ++ x)))) := BW2.out.setCell hg0 _
        have HR2 : Hid ((room : Int) - (cnt x : Int) - 1 = ((fld b ((wordsB s).take (i + 1))).2 : Nat)) := by
          show _ = _
          rw [FP.out]
          show _ = ((room - (cnt x + 1) : Nat) : Int)
          omega
        have hLn : L.length ≤ 1000000 := by omega
        have k1 : (0 : Int) < (L.length : Int) := by omega
        have k2 : (cnt x : Int) + 1 ≤ (room : Int) := by omega
        have zz : (L.getD (L.length - 1) emp).size ≤ 100000 := by omega
        have zx : x.size ≤ 100000 := by omega
        clear GS R2 CW2 BW2 FP FS CP
        generalize L.getD (L.length - 1) emp = la at *
        obtain ⟨m, hm⟩ : ∃ m, L.length = m + 1 := ⟨L.length - 1, by omega⟩
        generalize L.length = n at *
        subst hm
        simp only [Nat.add_sub_cancel] at *
        have j0 : (0 : Int) ≤ (m : Int) := by omega
        have j1 : (m : Int) < (m : Int) + 1 := by omega
        have j2 : (m : Int) ≤ 1000000 := by omega
        have j3 : (m : Int) + 1 - 1 = (m : Int) := by omega
        have j4 : IntKind.i64.wrap ((m : Int) + 1 - 1) = (m : Int) := by rw [j3]; exact IntWalk.i64_in _ (by omega)
        go_upto_region 12 with fail
        go_region
        go_wp2_with fail
        go_roundw
        case rel => exact ⟨i + 1, by omega, by go_num, congrArg (Value.int .i64) HR2.out, RS, CS, VN, BS.out.drew⟩
        case measure => simp [intOf]; omega
      · have k1 : 0 < L.length ∧ (room : Int) < (cnt x : Int) + 1 ∨ L.length = 0 := by
          by_cases h0 : 0 < L.length
          · exact .inl ⟨h0, Int.not_le.1 (fun h => hc ⟨h0, by omega⟩)⟩
          · exact .inr (by omega)
        have FP : Hid (fld b ((wordsB s).take (i + 1)) = (L ++ (chs x b).1, b - (chs x b).2)) := by
          show _ = _
          rw [FS.out]
          unfold fst1
          rw [if_neg hc]
        have C0 : Hid (L ++ (chf x b (cnt x) (cnt x) 0).1 = L ++ (chs x b).1) := rfl
        have C1 : Hid ((chf x b (cnt x) (cnt x) 0).2 = (chs x b).2) := rfl
        have hn2 : L.length ≤ 1000000 := by omega
        obtain ⟨n, hn⟩ : ∃ n, n = L.length := ⟨_, rfl⟩
        have R2n : Hid (w2.ownsRow w.heap.size 9 1 (.slice aa n cap) L.length (strs L)) := by
          show World.ownsRow _ _ _ _ _ _ _
          rw [hn]; exact R2.out
        rw [← hn] at k1 VN VP f1 hn2 ⊢
        have HN : Hid (n = L.length) := hn
        have hnL : L.length ≤ 1000000 := by omega
        clear FS hc f4 hn R2
        rcases k1 with ⟨k1, k2⟩ | k1
        rotate_left 1
        · subst k1
          go_wp2_with fail
          go_loopw [5, 10] (fun v p wi => ∃ (a ln lc f : Nat) (O : List ByteArray), Hid (O ++ (chf x b (cnt x) f a).1 = L ++ (chs x b).1) ∧ Hid ((chf x b (cnt x) f a).2 = (chs x b).2) ∧ Hid (cnt x - a ≤ f) ∧ Hid (cnt x = a + ln) ∧ p = .slice (some ⟨gp, a, none⟩) ln lc ∧ ln ≤ lc ∧ lc ≤ 9223372036854775807 ∧ O.length ≤ 1000000 + a ∧ Hid (wi.ownsRow w.heap.size 9 1 v O.length (strs O)) ∧ Hid (Cs wi gp (segs x)) ∧ Hid (Cs wi gw (wordsB s)) ∧ Hid (v.ownBlock ≠ some gp) ∧ Hid (v.ownBlock ≠ some gw) ∧ Hid (Below w.heap.size w wi)) (fun _ p _ => slLen p)
          case atStart => exact ⟨0, cnt x, pc, cnt x, L, C0, C1, Nat.le_refl _, by show _ = _; omega, rfl, pc1, pc2, by omega, R2n, CP, CW2, VP, VN, BW2⟩
          case round =>
            clear R2n CP CW2 VP VN BW2 C0 C1
            obtain ⟨a, ln, lc, f, O, HC0, HC1, HF, HCN, rfl, l1, l2, hO, R, CP, CW, VP, VN, BW⟩ := hrel
            obtain ⟨ab, capb, hv⟩ := row_form R.out
            subst hv
            have hF := HF.out
            have hcn := HCN.out
            by_cases hbl : b < ln
            · obtain ⟨g, hg, D0, D1⟩ := chs_more HC0.out HC1.out (by omega) HF.out (by omega)
              have E0 : Hid _ := D0
              have E1 : Hid _ := D1
              have EG : Hid (cnt x - (a + b) ≤ g) := hg
              have E2 : Hid (cnt x = (a + b) + (ln - b)) := by show _ = _; omega
              have J := fun w hc => SJx.out gp a b lc w (by omega) hc
              have JH : Hid (∀ w, Cs w gp (segs x) → Calls Try.prog 21 #[.slice (some ⟨gp, a, none⟩) b lc] w fun e w' => e = .returned (.string (seg x a (a + b))) ∧ Below w.heap.size w w') := J
              have z1 : (b : Int) < (ln : Int) := by omega
              have z2 : (b : Int) ≤ (lc : Int) := by omega
              have z3 : (b : Int) ≤ (ln : Int) := by omega
              have z4 : (ln : Int) ≤ (lc : Int) := by omega
              have z5 : b < lc := by omega
              have h1000 : a ≤ 20000 := by omega
              clear HC0 HC1 HF D0 D1 hg J hF hcn HCN
              go_wp2_with fail
              refine (JH.out _ CP.out).mono ?_
              rintro e w3 ⟨rfl, hb3⟩
              have R3 : Hid (w3.ownsRow w.heap.size 9 1 (.slice ab O.length capb) O.length (strs O)) := row_below R.out hb3
              have CP3 : Hid (Cs w3 gp (segs x)) := CP.out.below hb3
              have CW3 : Hid (Cs w3 gw (wordsB s)) := CW.out.below hb3
              have BW3 : Hid (Below w.heap.size w w3) := BW.out.trans (hb3.mono BW.out.size)
              clear R CP CW BW hb3
              go_wp2_with (at_builtin; refine wpList_append_own_at _ rfl _ _ 26 rfl w.heap.size 9 i0 (.string ⟨#[]⟩) 1 16 Try.underlying26 hi hz0 hz1 hz2 rfl (by decide) _ _ _ rfl (R3.out.alloc _) ⟨w3.heap.size, 0, none⟩ 1 1 [.string (seg x a (a + b))] rfl rfl ?c1 ?c2 ?c3 ?c4 ?c5 ?_)
              case c1 =>
                intro j u hj
                match j, hj with
                | 0, hj => simp at hj; subst hj; simp [Addr.add]
              case c2 => intro u hu; simp at hu; subst hu; rfl
              case c3 => unfold maxLen; omega
              case c4 => omega
              case c5 => have := BW3.out.size; simp; omega
              · intro v' w4 hown' hgrow _ hat
                have hob : ∀ b', (Value.slice ab O.length capb).ownBlock = some b' → w.heap.size ≤ b' := fun b' hb => (R3.out.lt b' hb).1
                have R4 : Hid (w4.ownsRow w.heap.size 9 1 v' (O ++ [(seg x a (a + b))]).length (strs (O ++ [(seg x a (a + b))]))) := by
                  show World.ownsRow _ _ _ _ _ _ _
                  rw [strs, List.map_append, List.length_append]
                  exact hown'
                have B4 : Hid (Below w.heap.size w w4) := (BW3.out.alloc BW3.out.size _).grown hgrow (by have := BW3.out.size; simp; omega) hob
                have CP4 : Hid (Cs w4 gp (segs x)) := (CP3.out.alloc _).grown hgrow VP.out
                have CW4 : Hid (Cs w4 gw (wordsB s)) := (CW3.out.alloc _).grown hgrow VN.out
                have VP4 : Hid (v'.ownBlock ≠ some gp) := at_ne hat VP.out (by have := CP3.out.1; omega)
                have VN4 : Hid (v'.ownBlock ≠ some gw) := at_ne hat VN.out (by have := CW3.out.1; omega)
                clear hown' hgrow hob hat R3 BW3 CP3 CW3 VP VN
                go_wp2_with fail
                go_roundw
                case rel => exact ⟨a + b, ln - b, lc - b, g, O ++ [seg x a (a + b)], E0, E1, EG, E2, by simp, by omega, by omega, by simp; omega, R4, CP4, CW4, VP4, VN4, B4⟩
                case measure => simp [slLen]; omega
            · obtain ⟨D0, D1⟩ := chs_last HC0.out HC1.out (by omega)
              have JH : Hid (∀ w, Cs w gp (segs x) → Calls Try.prog 21 #[.slice (some ⟨gp, a, none⟩) ln lc] w fun e w' => e = .returned (.string (seg x a (cnt x))) ∧ Below w.heap.size w w') := fun w hc => by
                have := SJx.out gp a ln lc w (by omega) hc
                rw [← hcn] at this
                exact this
              have E0 : Hid (O ++ [seg x a (cnt x)] = (fld b ((wordsB s).take (i + 1))).1) := by
                show _ = _
                rw [FP.out]
                exact D0
              have E1 : Hid ((b : Int) - (ln : Int) = ((fld b ((wordsB s).take (i + 1))).2 : Nat)) := by
                show _ = _
                rw [FP.out]
                show _ = ((b - (chs x b).2 : Nat) : Int)
                omega
              have z1 : ¬ (b : Int) < (ln : Int) := by omega
              have h1000 : a ≤ 20000 := by omega
              clear HC0 HC1 HF D0 D1 hF hcn HCN
              go_wp2_with fail
              refine (JH.out _ CP.out).mono ?_
              rintro e w3 ⟨rfl, hb3⟩
              have R3 : Hid (w3.ownsRow w.heap.size 9 1 (.slice ab O.length capb) O.length (strs O)) := row_below R.out hb3
              have CP3 : Hid (Cs w3 gp (segs x)) := CP.out.below hb3
              have CW3 : Hid (Cs w3 gw (wordsB s)) := CW.out.below hb3
              have BW3 : Hid (Below w.heap.size w w3) := BW.out.trans (hb3.mono BW.out.size)
              clear R CP CW BW hb3
              go_wp2_with (at_builtin; refine wpList_append_own_at _ rfl _ _ 26 rfl w.heap.size 9 i0 (.string ⟨#[]⟩) 1 16 Try.underlying26 hi hz0 hz1 hz2 rfl (by decide) _ _ _ rfl (R3.out.alloc _) ⟨w3.heap.size, 0, none⟩ 1 1 [.string (seg x a (cnt x))] rfl rfl ?c1 ?c2 ?c3 ?c4 ?c5 ?_)
              case c1 =>
                intro j u hj
                match j, hj with
                | 0, hj => simp at hj; subst hj; simp [Addr.add]
              case c2 => intro u hu; simp at hu; subst hu; rfl
              case c3 => unfold maxLen; omega
              case c4 => omega
              case c5 => have := BW3.out.size; simp; omega
              · intro v' w4 hown' hgrow _ hat
                have hob : ∀ b', (Value.slice ab O.length capb).ownBlock = some b' → w.heap.size ≤ b' := fun b' hb => (R3.out.lt b' hb).1
                have R4 : Hid (w4.ownsRow w.heap.size 9 1 v' (O ++ [(seg x a (cnt x))]).length (strs (O ++ [(seg x a (cnt x))]))) := by
                  show World.ownsRow _ _ _ _ _ _ _
                  rw [strs, List.map_append, List.length_append]
                  exact hown'
                have B4 : Hid (Below w.heap.size w w4) := (BW3.out.alloc BW3.out.size _).grown hgrow (by have := BW3.out.size; simp; omega) hob
                have CP4 : Hid (Cs w4 gp (segs x)) := (CP3.out.alloc _).grown hgrow VP.out
                have CW4 : Hid (Cs w4 gw (wordsB s)) := (CW3.out.alloc _).grown hgrow VN.out
                have VP4 : Hid (v'.ownBlock ≠ some gp) := at_ne hat VP.out (by have := CP3.out.1; omega)
                have VN4 : Hid (v'.ownBlock ≠ some gw) := at_ne hat VN.out (by have := CW3.out.1; omega)
                clear hown' hgrow hob hat R3 BW3 CP3 CW3 VP VN
                have R5 : Hid (w4.ownsRow w.heap.size 9 1 v' (fld b ((wordsB s).take (i + 1))).1.length (strs (fld b ((wordsB s).take (i + 1))).1)) := by
                  show World.ownsRow _ _ _ _ _ _ _
                  rw [← E0.out]
                  exact R4.out
                go_wp2_with fail
                go_roundw
                case rel => exact ⟨i + 1, by omega, by go_num, congrArg (Value.int .i64) E1.out, R5, CW4, VN4, B4⟩
                case measure => simp [intOf]; omega
        · have k3 : (0 : Int) < (n : Int) := by omega
          go_wp2_with fail
          go_loopw [5, 10] (fun v p wi => ∃ (a ln lc f : Nat) (O : List ByteArray), Hid (O ++ (chf x b (cnt x) f a).1 = L ++ (chs x b).1) ∧ Hid ((chf x b (cnt x) f a).2 = (chs x b).2) ∧ Hid (cnt x - a ≤ f) ∧ Hid (cnt x = a + ln) ∧ p = .slice (some ⟨gp, a, none⟩) ln lc ∧ ln ≤ lc ∧ lc ≤ 9223372036854775807 ∧ O.length ≤ 1000000 + a ∧ Hid (wi.ownsRow w.heap.size 9 1 v O.length (strs O)) ∧ Hid (Cs wi gp (segs x)) ∧ Hid (Cs wi gw (wordsB s)) ∧ Hid (v.ownBlock ≠ some gp) ∧ Hid (v.ownBlock ≠ some gw) ∧ Hid (Below w.heap.size w wi)) (fun _ p _ => slLen p)
          case atStart => exact ⟨0, cnt x, pc, cnt x, L, C0, C1, Nat.le_refl _, by show _ = _; omega, rfl, pc1, pc2, by omega, R2n, CP, CW2, VP, VN, BW2⟩
          case round =>
            clear R2n CP CW2 VP VN BW2 C0 C1
            obtain ⟨a, ln, lc, f, O, HC0, HC1, HF, HCN, rfl, l1, l2, hO, R, CP, CW, VP, VN, BW⟩ := hrel
            obtain ⟨ab, capb, hv⟩ := row_form R.out
            subst hv
            have hF := HF.out
            have hcn := HCN.out
            by_cases hbl : b < ln
            · obtain ⟨g, hg, D0, D1⟩ := chs_more HC0.out HC1.out (by omega) HF.out (by omega)
              have E0 : Hid _ := D0
              have E1 : Hid _ := D1
              have EG : Hid (cnt x - (a + b) ≤ g) := hg
              have E2 : Hid (cnt x = (a + b) + (ln - b)) := by show _ = _; omega
              have J := fun w hc => SJx.out gp a b lc w (by omega) hc
              have JH : Hid (∀ w, Cs w gp (segs x) → Calls Try.prog 21 #[.slice (some ⟨gp, a, none⟩) b lc] w fun e w' => e = .returned (.string (seg x a (a + b))) ∧ Below w.heap.size w w') := J
              have z1 : (b : Int) < (ln : Int) := by omega
              have z2 : (b : Int) ≤ (lc : Int) := by omega
              have z3 : (b : Int) ≤ (ln : Int) := by omega
              have z4 : (ln : Int) ≤ (lc : Int) := by omega
              have z5 : b < lc := by omega
              have h1000 : a ≤ 20000 := by omega
              clear HC0 HC1 HF D0 D1 hg J hF hcn HCN
              go_wp2_with fail
              refine (JH.out _ CP.out).mono ?_
              rintro e w3 ⟨rfl, hb3⟩
              have R3 : Hid (w3.ownsRow w.heap.size 9 1 (.slice ab O.length capb) O.length (strs O)) := row_below R.out hb3
              have CP3 : Hid (Cs w3 gp (segs x)) := CP.out.below hb3
              have CW3 : Hid (Cs w3 gw (wordsB s)) := CW.out.below hb3
              have BW3 : Hid (Below w.heap.size w w3) := BW.out.trans (hb3.mono BW.out.size)
              clear R CP CW BW hb3
              go_wp2_with (at_builtin; refine wpList_append_own_at _ rfl _ _ 26 rfl w.heap.size 9 i0 (.string ⟨#[]⟩) 1 16 Try.underlying26 hi hz0 hz1 hz2 rfl (by decide) _ _ _ rfl (R3.out.alloc _) ⟨w3.heap.size, 0, none⟩ 1 1 [.string (seg x a (a + b))] rfl rfl ?c1 ?c2 ?c3 ?c4 ?c5 ?_)
              case c1 =>
                intro j u hj
                match j, hj with
                | 0, hj => simp at hj; subst hj; simp [Addr.add]
              case c2 => intro u hu; simp at hu; subst hu; rfl
              case c3 => unfold maxLen; omega
              case c4 => omega
              case c5 => have := BW3.out.size; simp; omega
              · intro v' w4 hown' hgrow _ hat
                have hob : ∀ b', (Value.slice ab O.length capb).ownBlock = some b' → w.heap.size ≤ b' := fun b' hb => (R3.out.lt b' hb).1
                have R4 : Hid (w4.ownsRow w.heap.size 9 1 v' (O ++ [(seg x a (a + b))]).length (strs (O ++ [(seg x a (a + b))]))) := by
                  show World.ownsRow _ _ _ _ _ _ _
                  rw [strs, List.map_append, List.length_append]
                  exact hown'
                have B4 : Hid (Below w.heap.size w w4) := (BW3.out.alloc BW3.out.size _).grown hgrow (by have := BW3.out.size; simp; omega) hob
                have CP4 : Hid (Cs w4 gp (segs x)) := (CP3.out.alloc _).grown hgrow VP.out
                have CW4 : Hid (Cs w4 gw (wordsB s)) := (CW3.out.alloc _).grown hgrow VN.out
                have VP4 : Hid (v'.ownBlock ≠ some gp) := at_ne hat VP.out (by have := CP3.out.1; omega)
                have VN4 : Hid (v'.ownBlock ≠ some gw) := at_ne hat VN.out (by have := CW3.out.1; omega)
                clear hown' hgrow hob hat R3 BW3 CP3 CW3 VP VN
                go_wp2_with fail
                go_roundw
                case rel => exact ⟨a + b, ln - b, lc - b, g, O ++ [seg x a (a + b)], E0, E1, EG, E2, by simp, by omega, by omega, by simp; omega, R4, CP4, CW4, VP4, VN4, B4⟩
                case measure => simp [slLen]; omega
            · obtain ⟨D0, D1⟩ := chs_last HC0.out HC1.out (by omega)
              have JH : Hid (∀ w, Cs w gp (segs x) → Calls Try.prog 21 #[.slice (some ⟨gp, a, none⟩) ln lc] w fun e w' => e = .returned (.string (seg x a (cnt x))) ∧ Below w.heap.size w w') := fun w hc => by
                have := SJx.out gp a ln lc w (by omega) hc
                rw [← hcn] at this
                exact this
              have E0 : Hid (O ++ [seg x a (cnt x)] = (fld b ((wordsB s).take (i + 1))).1) := by
                show _ = _
                rw [FP.out]
                exact D0
              have E1 : Hid ((b : Int) - (ln : Int) = ((fld b ((wordsB s).take (i + 1))).2 : Nat)) := by
                show _ = _
                rw [FP.out]
                show _ = ((b - (chs x b).2 : Nat) : Int)
                omega
              have z1 : ¬ (b : Int) < (ln : Int) := by omega
              have h1000 : a ≤ 20000 := by omega
              clear HC0 HC1 HF D0 D1 hF hcn HCN
              go_wp2_with fail
              refine (JH.out _ CP.out).mono ?_
              rintro e w3 ⟨rfl, hb3⟩
              have R3 : Hid (w3.ownsRow w.heap.size 9 1 (.slice ab O.length capb) O.length (strs O)) := row_below R.out hb3
              have CP3 : Hid (Cs w3 gp (segs x)) := CP.out.below hb3
              have CW3 : Hid (Cs w3 gw (wordsB s)) := CW.out.below hb3
              have BW3 : Hid (Below w.heap.size w w3) := BW.out.trans (hb3.mono BW.out.size)
              clear R CP CW BW hb3
              go_wp2_with (at_builtin; refine wpList_append_own_at _ rfl _ _ 26 rfl w.heap.size 9 i0 (.string ⟨#[]⟩) 1 16 Try.underlying26 hi hz0 hz1 hz2 rfl (by decide) _ _ _ rfl (R3.out.alloc _) ⟨w3.heap.size, 0, none⟩ 1 1 [.string (seg x a (cnt x))] rfl rfl ?c1 ?c2 ?c3 ?c4 ?c5 ?_)
              case c1 =>
                intro j u hj
                match j, hj with
                | 0, hj => simp at hj; subst hj; simp [Addr.add]
              case c2 => intro u hu; simp at hu; subst hu; rfl
              case c3 => unfold maxLen; omega
              case c4 => omega
              case c5 => have := BW3.out.size; simp; omega
              · intro v' w4 hown' hgrow _ hat
                have hob : ∀ b', (Value.slice ab O.length capb).ownBlock = some b' → w.heap.size ≤ b' := fun b' hb => (R3.out.lt b' hb).1
                have R4 : Hid (w4.ownsRow w.heap.size 9 1 v' (O ++ [(seg x a (cnt x))]).length (strs (O ++ [(seg x a (cnt x))]))) := by
                  show World.ownsRow _ _ _ _ _ _ _
                  rw [strs, List.map_append, List.length_append]
                  exact hown'
                have B4 : Hid (Below w.heap.size w w4) := (BW3.out.alloc BW3.out.size _).grown hgrow (by have := BW3.out.size; simp; omega) hob
                have CP4 : Hid (Cs w4 gp (segs x)) := (CP3.out.alloc _).grown hgrow VP.out
                have CW4 : Hid (Cs w4 gw (wordsB s)) := (CW3.out.alloc _).grown hgrow VN.out
                have VP4 : Hid (v'.ownBlock ≠ some gp) := at_ne hat VP.out (by have := CP3.out.1; omega)
                have VN4 : Hid (v'.ownBlock ≠ some gw) := at_ne hat VN.out (by have := CW3.out.1; omega)
                clear hown' hgrow hob hat R3 BW3 CP3 CW3 VP VN
                have R5 : Hid (w4.ownsRow w.heap.size 9 1 v' (fld b ((wordsB s).take (i + 1))).1.length (strs (fld b ((wordsB s).take (i + 1))).1)) := by
                  show World.ownsRow _ _ _ _ _ _ _
                  rw [← E0.out]
                  exact R4.out
                go_wp2_with fail
                go_roundw
                case rel => exact ⟨i + 1, by omega, by go_num, congrArg (Value.int .i64) E1.out, R5, CW4, VN4, B4⟩
                case measure => simp [intOf]; omega
    · have ei : i = (wordsB s).length := by omega
      have RF : Hid (wr.ownsRow w.heap.size 9 1 (.slice aa (fld b ((wordsB s).take i)).1.length cap) (fld b (wordsB s)).1.length (strs (fld b (wordsB s)).1)) := by
        show World.ownsRow _ _ _ _ _ _ _
        have := R.out
        rw [ei, List.take_length] at this ⊢
        exact this
      have ei' : ¬ (i : Int) < ((wordsB s).length : Int) := by omega
      clear R ei
      go_wp2_with fail
      go_ret
      exact ⟨_, rfl, RF.out, BW.out⟩
end Go.Proofs.Ytchdhiojhdoenaa.Ru
