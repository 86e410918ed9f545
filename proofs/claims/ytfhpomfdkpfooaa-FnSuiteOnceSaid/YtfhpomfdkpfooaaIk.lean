/- Stuck: the program. -/
import Derived.Test.YtfhpomfdkpfooaaIt
namespace Go.Proofs.Ytfhpomfdkpfooaa.Ty
open Go.ChangeShapes Go.WideShapes Go.ChangeAt Go.RowKit
open Go.Proofs.Ytfhpomfdkpfooaa.Lists Go.Proofs.Ytfhpomfdkpfooaa.Tm Go.Proofs.Ytfhpomfdkpfooaa.Rk Go.Proofs.Ytfhpomfdkpfooaa.Ru Go.Proofs.Ytfhpomfdkpfooaa.Al

/-- which tasks are stuck, of the first k -/
def fl (R : Tk.Ls) (J : Jb.Ls) : Nat → Nat → Bool
  | 0 => fun _ => false
  | k + 1 => fun i => if i = k then (hw J k == 3 || bst R (fl R J k) k) else fl R J k i
def sl (R : Tk.Ls) (J : Jb.Ls) : Nat → List Int
  | 0 => []
  | k + 1 => if (hw J k == 3 || bst R (fl R J k) k) = true then sl R J k ++ [(k : Int) + 1] else sl R J k
theorem fl_at (R : Tk.Ls) (J : Jb.Ls) (k : Nat) : fl R J (k + 1) k = (hw J k == 3 || bst R (fl R J k) k) := by simp [fl]
theorem fl_off {R : Tk.Ls} {J : Jb.Ls} {k i : Nat} (h : i ≠ k) : fl R J (k + 1) i = fl R J k i := by simp [fl, h]
theorem sl_len (R : Tk.Ls) (J : Jb.Ls) : ∀ k, (sl R J k).length ≤ k
  | 0 => by simp [sl]
  | k + 1 => by
    have := sl_len R J k
    unfold sl
    split
    · simp; exact this
    · omega
theorem sl_yes {R : Tk.Ls} {J : Jb.Ls} {k : Nat} (h : (hw J k == 3 || bst R (fl R J k) k) = true) : sl R J (k + 1) = sl R J k ++ [(k : Int) + 1] := by rw [sl, if_pos h]
theorem sl_no {R : Tk.Ls} {J : Jb.Ls} {k : Nat} (h : (hw J k == 3 || bst R (fl R J k) k) = false) : sl R J (k + 1) = sl R J k := by rw [sl, if_neg (by simp [h])]
theorem Tied.flag {B : Nat} {R : Tk.Ls} {X : List Int} {J : Jb.Ls} {r x : Value} {jb jc tb h : Nat} {xs : List Value} {u a : Nat → Value} {P : Nat → Nat} {run : Int → Int} {st st' : Nat → Bool} {wr : World} (t : Tied B R X J r x jb jc tb h xs u a P run st wr) {k : Nat} (hk : k < R.length) {b : Bool} (h1 : st' k = b) (h2 : ∀ i, i ≠ k → st' i = st i) :
    Tied B R X J r x jb jc tb h xs u a P run st' (wr.setCell ⟨P k, 8, none⟩ (.bool b)) where
  ro := t.ro.kb (kb_set wr (P k) 8 _) (fun g hg => by
    obtain ⟨e, he, ht⟩ := ro_ty t.ro g hg
    exact fun q => ht.ne (t.td.tsk k hk).ty (by rcases he with q | q | q <;> subst q <;> decide) q)
  td := {
    tsk := fun i hi => by
      by_cases e : i = k
      · subst e
        rw [h1]
        exact (t.td.tsk i hi).set 8 _
      · rw [h2 i e]
        exact (t.td.tsk i hi).kb (kb_set wr (P k) 8 _) (fun q => by
          rcases Nat.lt_or_gt_of_ne e with l | l
          · exact t.td.inj i k l hk q
          · exact t.td.inj k i l hi q.symm)
    aft := fun i hi => row_kb (t.td.aft i hi) (kb_set wr (P k) 8 _) (fun g hg q => (row_ty (t.td.aft i hi) g hg).ne (t.td.tsk k hk).ty (by decide) q)
    grp := fun g hg => (t.td.grp g hg).kb (kb_set wr (P k) 8 _) (fun q => (t.td.grp g hg).ty.ne (t.td.tsk k hk).ty (by decide) q)
    low := t.td.low
    inj := t.td.inj }
  trow := row_kb t.trow (kb_set wr (P k) 8 _) (fun g hg q => (row_ty t.trow g hg).ne (t.td.tsk k hk).ty (by decide) q)
  hl := t.hl

set_option maxHeartbeats 2000000 in
theorem istuck_no (R : Tk.Ls) (X : List Int) (now : Int) (J : Jb.Ls) (vr vx vj : Value) (w : World) (hh : RR w vr vx vj R X J) (hk : okR R X now J = false) :
    Calls Try.prog 20 #[rv vr vx now vj] w fun e w' => e = .returned nilS ∧ Below w.heap.size w w' := by
  obtain ⟨ar, cr, er⟩ := hh.1.form
  obtain ⟨ax, cx, ex⟩ := hh.2.1.form
  obtain ⟨aj, cj, ej⟩ := hh.2.2.form
  obtain ⟨w0, hw0⟩ : ∃ w0, w0 = w.alloc (.cells #[vr, vx, .int .i64 now, vj] 30) := ⟨_, rfl⟩
  have HW0 : Hid (w0 = w.alloc (.cells #[vr, vx, .int .i64 now, vj] 30)) := hw0
  have B0 : Hid (Below w.heap.size w w0) := (by show Below _ _ _; rw [hw0]; exact (Below.refl _ _).alloc (Nat.le_refl _) _)
  have A0 : Hid (Bl w0 w.heap.size 30 #[vr, vx, .int .i64 now, vj]) := (by show Bl _ _ _ _; rw [hw0]; exact Bl.new w 30 _)
  have Z0 : Hid (w0.heap.size = w.heap.size + 1) := (by show _ = _; rw [hw0]; simp)
  have C1 : Hid (Calls Try.prog 28 #[rv vr vx now vj] w0 fun e w' => e = .returned noRun ∧ Below w0.heap.size w0 w') := tied_no R X now J vr vx vj w0 (hh.on B0.out) hk
  have y0 : w0.cell? ⟨w.heap.size, 0, none⟩ = some vr := (A0.out.cell 0).trans rfl
  have y1 : w0.cell? ⟨w.heap.size, 1, none⟩ = some vx := (A0.out.cell 1).trans rfl
  have y2 : w0.cell? ⟨w.heap.size, 2, none⟩ = some (.int .i64 now) := (A0.out.cell 2).trans rfl
  have y3 : w0.cell? ⟨w.heap.size, 3, none⟩ = some vj := (A0.out.cell 3).trans rfl
  subst er ex ej
  generalize R.length = n at *
  generalize X.length = m at *
  generalize J.length = k at *
  clear hh hw0 hk
  go_enter Try.func20, Try.ntmps20
  go_wp2_with fail
  rw [← HW0.out]
  refine (Calls.mono C1.out) ?_
  rintro e w1 ⟨rfl, hb⟩
  have B1 : Below w.heap.size w w1 := B0.out.trans (hb.mono B0.out.size)
  have BA : Hid (Below w.heap.size w (w1.alloc (.cells #[nilS, nilS, .int .i64 0, nilS] 30))) := B1.alloc B1.size _
  clear y0 y1 y2 y3 hb HW0 A0 C1
  go_wp2_with fail
  go_ret
  exact ⟨rfl, BA.out⟩

set_option maxHeartbeats 4000000 in
set_option maxRecDepth 20000 in
theorem istuck_yes (R : Tk.Ls) (X : List Int) (now : Int) (J : Jb.Ls) (vr vx vj : Value) (w : World) (hh : RR w vr vx vj R X J) (hk : okR R X now J = true) :
    Calls Try.prog 20 #[rv vr vx now vj] w fun e w' => ∃ la lc, e = .returned (.slice la (sl R J R.length).length lc) ∧ w'.ownsRow w.heap.size 2 1 (.slice la (sl R J R.length).length lc) (sl R J R.length).length (ints (sl R J R.length)) ∧ Below w.heap.size w w' := by
  obtain ⟨ar, cr, er⟩ := hh.1.form
  obtain ⟨ax, cx, ex⟩ := hh.2.1.form
  obtain ⟨aj, cj, ej⟩ := hh.2.2.form
  obtain ⟨w0, hw0⟩ : ∃ w0, w0 = w.alloc (.cells #[vr, vx, .int .i64 now, vj] 30) := ⟨_, rfl⟩
  have HW0 : Hid (w0 = w.alloc (.cells #[vr, vx, .int .i64 now, vj] 30)) := hw0
  have B0 : Hid (Below w.heap.size w w0) := (by show Below _ _ _; rw [hw0]; exact (Below.refl _ _).alloc (Nat.le_refl _) _)
  have A0 : Hid (Bl w0 w.heap.size 30 #[vr, vx, .int .i64 now, vj]) := (by show Bl _ _ _ _; rw [hw0]; exact Bl.new w 30 _)
  have Z0 : Hid (w0.heap.size = w.heap.size + 1) := (by show _ = _; rw [hw0]; simp)
  have C1 : Hid (Calls Try.prog 28 #[rv vr vx now vj] w0 fun e w' => ∃ ra rc xa xc jb jc tb h xs u a P, e = .returned (.tuple #[rv (.slice ra R.length rc) (.slice xa X.length xc) now (.slice (some ⟨jb, 0, none⟩) J.length jc), .slice (some ⟨tb, 0, none⟩) R.length R.length, .bool true]) ∧
      Tied w0.heap.size R X J (.slice ra R.length rc) (.slice xa X.length xc) jb jc tb h xs u a P (fun g => rn R J g R.length) (fun _ => false) w' ∧ Below w0.heap.size w0 w') := tied_yes R X now J vr vx vj w0 (hh.on B0.out) hk
  have y0 : w0.cell? ⟨w.heap.size, 0, none⟩ = some vr := (A0.out.cell 0).trans rfl
  have y1 : w0.cell? ⟨w.heap.size, 1, none⟩ = some vx := (A0.out.cell 1).trans rfl
  have y2 : w0.cell? ⟨w.heap.size, 2, none⟩ = some (.int .i64 now) := (A0.out.cell 2).trans rfl
  have y3 : w0.cell? ⟨w.heap.size, 3, none⟩ = some vj := (A0.out.cell 3).trans rfl
  obtain ⟨o1, o2, o3⟩ := okR_parts hk
  have F := fit_of o1
  have HF : Hid (Fit R X) := F
  have n60 := F.r60
  have n1 := F.r1
  subst er ex ej
  obtain ⟨n, hn⟩ : ∃ n, R.length = n := ⟨_, rfl⟩
  obtain ⟨m, hm⟩ : ∃ m, X.length = m := ⟨_, rfl⟩
  have HN : Hid (R.length = n) := hn
  have HJ : Hid (J.length = n) := o3.trans hn
  simp only [o3, hn, hm] at y0 y1 y2 y3 HW0 n60 n1
  have C2 : Hid (Calls Try.prog 28 #[rv (.slice ar n cr) (.slice ax m cx) now (.slice aj n cj)] w0 fun e w' => ∃ ra rc xa xc jb jc tb h xs u a P, e = .returned (.tuple #[rv (.slice ra n rc) (.slice xa m xc) now (.slice (some ⟨jb, 0, none⟩) n jc), .slice (some ⟨tb, 0, none⟩) n n, .bool true]) ∧
      Tied w0.heap.size R X J (.slice ra n rc) (.slice xa m xc) jb jc tb h xs u a P (fun g => rn R J g n) (fun _ => false) w' ∧ Below w0.heap.size w0 w') := (by have := C1.out; simp only [o3, hn, hm] at this; exact this)
  simp only [o3, hn, hm]
  clear hh hw0 hk o1 o2 o3 hn hm F C1 A0
  go_enter Try.func20, Try.ntmps20
  go_wp2_with fail
  rw [← HW0.out]
  refine (Calls.mono C2.out) ?_
  rintro e w1 ⟨ra, rc, xa, xc, jb, jc, tb, h, xs, u, a, P, rfl, t1, b1⟩
  have B1 : Below w.heap.size w w1 := B0.out.trans (b1.mono B0.out.size)
  obtain ⟨w2, hw2⟩ : ∃ y, y = w1.alloc (.cells #[.slice ra n rc, .slice xa m xc, .int .i64 now, .slice (some ⟨jb, 0, none⟩) n jc] 30) := ⟨_, rfl⟩
  have HW2 : Hid (w2 = w1.alloc (.cells #[.slice ra n rc, .slice xa m xc, .int .i64 now, .slice (some ⟨jb, 0, none⟩) n jc] 30)) := hw2
  have bA : Below w1.heap.size w1 w2 := by rw [hw2]; exact (Below.refl _ _).alloc (Nat.le_refl _) _
  obtain ⟨H0, hH0⟩ : ∃ y, y = w2.heap.size := ⟨_, rfl⟩
  have T2 := t1.on bA
  have B2 : Below w.heap.size w w2 := B1.trans (bA.mono B1.size)
  have L0 : Hid (∀ g, RB (.slice ra n rc) (.slice xa m xc) (.slice (some ⟨jb, 0, none⟩) J.length jc) xs R.length g → g < H0) := fun g hg => (by rw [hH0]; exact (T2.ro.bs g hg).2)
  have LH : Hid (w.heap.size ≤ H0) := (by rw [hH0]; exact B2.size)
  have TBL : Hid (w.heap.size ≤ tb) := (by have h1 := (T2.trow.lt tb rfl).1; have := Z0.out; show _ ≤ _; omega)
  have S2 : Hid (Tied w0.heap.size R X J (.slice ra n rc) (.slice xa m xc) jb jc tb h xs u a P (fun g => rn R J g n) (fl R J 0) w2 ∧ World.ownsRow w2 H0 2 1 (.slice none 0 0) (sl R J 0).length (ints (sl R J 0)) ∧ Below w.heap.size w w2 ∧ H0 ≤ (w2).heap.size) := ⟨T2, ⟨rfl, .inl ⟨rfl, rfl⟩⟩, B2, by rw [hH0]; exact Nat.le_refl _⟩
  clear hw2 bA B1 t1 b1 y0 y1 y2 y3 HW0 C2 B0 T2 B2 hH0
  go_upto_region 4 with fail
  rw [← HW2.out]
  clear HW2
  obtain ⟨i0, hi, hz0, hz1, hz2⟩ := info_parts Lists.Try.info2
  go_upto_region 6 with fail
  go_loopw [19, 6] (fun c v wr => ∃ (k : Nat) (la : Option Addr) (lc : Nat), k ≤ n ∧ c = .int .i64 k ∧ v = (.slice la (sl R J k).length lc) ∧ Hid (Tied w0.heap.size R X J (.slice ra n rc) (.slice xa m xc) jb jc tb h xs u a P (fun g => rn R J g n) (fl R J k) wr ∧ World.ownsRow wr H0 2 1 (.slice la (sl R J k).length lc) (sl R J k).length (ints (sl R J k)) ∧ Below w.heap.size w wr ∧ H0 ≤ (wr).heap.size)) (fun c _ _ => n - (intOf c).toNat)
  case atStart => exact ⟨0, none, 0, Nat.zero_le _, rfl, rfl, S2⟩
  case round =>
    clear S2
    obtain ⟨k, la, lc, hk, rfl, rfl, S⟩ := hrel
    by_cases hlt : k < n
    · have hkR : k < R.length := by rw [HN.out]; exact hlt
      have hkJ : k < J.length := by rw [HJ.out]; exact hlt
      have tk := S.out.1.task k hkR
      obtain ⟨_, _, _, t5, _, t8, t8f⟩ := S.out.1.cells k hkR
      obtain ⟨j0, _⟩ := S.out.1.job k hkJ
      have i0' : (0 : Int) ≤ (k : Int) := by omega
      have i1 : (k : Int) < (n : Int) := by omega
      have hl := sl_len R J k
      by_cases hs : hw J k = 3
      · have hT : Hid ((hw J k == 3 || bst R (fl R J k) k) = true) := (by show _ = _; simp [hs])
        have HL : Hid (sl R J (k + 1) = sl R J k ++ [(k : Int) + 1]) := sl_yes hT.out
        rw [hs] at j0
        clear hs
        go_upto_region 9 with fail
        have SS : Hid (Tied w0.heap.size R X J (.slice ra n rc) (.slice xa m xc) jb jc tb h xs u a P (fun g => rn R J g n) (fl R J (k + 1)) (wr.setCell ⟨P k, 8, none⟩ (.bool true)) ∧ World.ownsRow (wr.setCell ⟨P k, 8, none⟩ (.bool true)) H0 2 1 (.slice la (sl R J k).length lc) (sl R J k).length (ints (sl R J k)) ∧ Below w.heap.size w (wr.setCell ⟨P k, 8, none⟩ (.bool true)) ∧ H0 ≤ ((wr.setCell ⟨P k, 8, none⟩ (.bool true))).heap.size) := (by
          obtain ⟨s1, s2, s3, s4⟩ := S.out
          have ks := kb_set wr (P k) 8 (.bool true)
          refine ⟨s1.flag hkR (by rw [fl_at]; exact hT.out) (fun i hi => fl_off hi), ?_, s3.setCell (p := ⟨P k, 8, none⟩) (by show w.heap.size ≤ P k; have := TBL.out; have := s1.td.low k hkR; omega) _, Nat.le_trans s4 ks.size⟩
          exact row_kb s2 ks (fun g hg q => (row_ty s2 g hg).ne (s1.td.tsk k hkR).ty (by decide) q))
        clear S
        generalize (wr.setCell ⟨P k, 8, none⟩ (.bool true)) = wq at SS ⊢
        obtain ⟨t0q, _, _, _, _, t8q, _⟩ := SS.out.1.cells k hkR
        rw [fl_at, hT.out] at t8q
        clear tk t5 j0 t8 t8f
        go_upto_region 10 with fail
        have OA : Hid ((wq.alloc (.cells #[.int .i64 ((k : Int) + 1)] 2)).ownsRow H0 2 1 (.slice la (sl R J k).length lc) (sl R J k).length (ints (sl R J k))) := SS.out.2.1.alloc _
        have ZA : Hid (H0 ≤ (wq.alloc (.cells #[.int .i64 ((k : Int) + 1)] 2)).heap.size) := (by have := SS.out.2.2.2; show _ ≤ _; simp; omega)
        obtain ⟨len, hlen⟩ : ∃ y, (sl R J k).length = y := ⟨_, rfl⟩
        rw [hlen] at hl
        have HLN : Hid ((sl R J k).length = len) := hlen
        simp only [hlen] at OA ⊢
        clear hlen
        go_wp2_with (at_builtin; refine wpList_append_own _ rfl _ _ 25 rfl H0 2 i0 (.int .i64 0) 1 8 Try.underlying25 hi hz0 hz1 hz2 rfl (by decide) _ _ _ rfl OA.out ⟨wq.heap.size, 0, none⟩ 1 1 [.int .i64 ((k : Int) + 1)] rfl rfl ?c1 ?c2 ?c3 ?c4 ZA.out ?_)
        case c1 =>
          intro j u hj
          match j, hj with
          | 0, hj => simp at hj; subst hj; simp [Addr.add]
        case c2 => intro u hu; simp at hu; subst hu; rfl
        case c3 => unfold maxLen; omega
        case c4 => omega
        intro v5 w5 hown hgrow hnil5
        obtain ⟨g5, c5, rfl, p1, p2, p3, p4⟩ := Cp.row_some hown (by first | exact hnil5 | (intro e; have := hnil5.1 e; simp at this))
        have SN : Hid (Tied w0.heap.size R X J (.slice ra n rc) (.slice xa m xc) jb jc tb h xs u a P (fun g => rn R J g n) (fl R J (k + 1)) w5 ∧ World.ownsRow w5 H0 2 1 (.slice (some ⟨g5, 0, none⟩) (len + 1) c5) (sl R J (k + 1)).length (ints (sl R J (k + 1))) ∧ Below w.heap.size w w5 ∧ H0 ≤ (w5).heap.size) := (by
          obtain ⟨s1, s2, s3, s4⟩ := SS.out
          have bA : Below wq.heap.size wq (wq.alloc (.cells #[.int .i64 ((k : Int) + 1)] 2)) := (Below.refl _ _).alloc (Nat.le_refl _) _
          refine ⟨(s1.on bA).grown OA.out hgrow L0.out, ?_, ?_, Nat.le_trans ZA.out hgrow.size⟩
          · rw [HL.out]
            simpa [ints, HLN.out] using hown
          · exact (s3.trans (bA.mono s3.size)).trans ((KB.of_grown (S := fun b => H0 ≤ b) hgrow (fun b hb => (OA.out.lt b hb).1)).below (Nat.le_trans s3.size bA.size) (fun b hb => Nat.le_trans LH.out hb)))
        have HL2 : Hid ((sl R J (k + 1)).length = len + 1) := (by show _ = _; rw [HL.out]; simp [HLN.out])
        clear hown hgrow hnil5 p1 p2 p3 p4 SS OA ZA t0q t8q
        go_wp2_with fail
        go_roundw
        case rel => exact ⟨k + 1, some ⟨g5, 0, none⟩, c5, by omega, by go_num, by rw [HL2.out], by have q := SN; rw [HL2.out] at q ⊢; exact q⟩
        case measure => simp [intOf]; omega
      · have hs2 : (hw J k == 3) = false := by simpa using hs
        have BH : Hid (Calls Try.prog 39 #[.pointer (some ⟨P k, 0, none⟩)] wr fun e w' => e = .returned (.bool (bst R (fl R J k) k)) ∧ w' = wr) := behind_td S.out.1.td k hkR (HF.out.len k hkR) (HF.out.aft k hkR)
        cases hb : bst R (fl R J k) k
        · have hT : Hid ((hw J k == 3 || bst R (fl R J k) k) = false) := (by show _ = _; rw [hs2, hb]; rfl)
          have HL : Hid (sl R J (k + 1) = sl R J k) := sl_no hT.out
          rw [hb] at BH
          clear hs hb
          go_wp2_with fail
          refine BH.out.mono ?_
          rintro e wx ⟨rfl, hwx⟩
          subst wx
          go_upto_region 9 with fail
          have SS : Hid (Tied w0.heap.size R X J (.slice ra n rc) (.slice xa m xc) jb jc tb h xs u a P (fun g => rn R J g n) (fl R J (k + 1)) (wr.setCell ⟨P k, 8, none⟩ (.bool false)) ∧ World.ownsRow (wr.setCell ⟨P k, 8, none⟩ (.bool false)) H0 2 1 (.slice la (sl R J k).length lc) (sl R J k).length (ints (sl R J k)) ∧ Below w.heap.size w (wr.setCell ⟨P k, 8, none⟩ (.bool false)) ∧ H0 ≤ ((wr.setCell ⟨P k, 8, none⟩ (.bool false))).heap.size) := (by
            obtain ⟨s1, s2, s3, s4⟩ := S.out
            have ks := kb_set wr (P k) 8 (.bool false)
            refine ⟨s1.flag hkR (by rw [fl_at]; exact hT.out) (fun i hi => fl_off hi), ?_, s3.setCell (p := ⟨P k, 8, none⟩) (by show w.heap.size ≤ P k; have := TBL.out; have := s1.td.low k hkR; omega) _, Nat.le_trans s4 ks.size⟩
            exact row_kb s2 ks (fun g hg q => (row_ty s2 g hg).ne (s1.td.tsk k hkR).ty (by decide) q))
          clear S
          generalize (wr.setCell ⟨P k, 8, none⟩ (.bool false)) = wq at SS ⊢
          obtain ⟨_, _, _, _, _, t8q, _⟩ := SS.out.1.cells k hkR
          rw [fl_at, hT.out] at t8q
          clear tk t5 j0 t8 t8f
          go_wp2_with fail
          go_roundw
          case rel => exact ⟨k + 1, la, lc, by omega, by go_num, by rw [HL.out], by have q := SS; rw [HL.out]; exact q⟩
          case measure => simp [intOf]; omega
        · have hT : Hid ((hw J k == 3 || bst R (fl R J k) k) = true) := (by show _ = _; rw [hb]; simp)
          have HL : Hid (sl R J (k + 1) = sl R J k ++ [(k : Int) + 1]) := sl_yes hT.out
          rw [hb] at BH
          clear hs hb
          go_wp2_with fail
          refine BH.out.mono ?_
          rintro e wx ⟨rfl, hwx⟩
          subst wx
          go_upto_region 9 with fail
          have SS : Hid (Tied w0.heap.size R X J (.slice ra n rc) (.slice xa m xc) jb jc tb h xs u a P (fun g => rn R J g n) (fl R J (k + 1)) (wr.setCell ⟨P k, 8, none⟩ (.bool true)) ∧ World.ownsRow (wr.setCell ⟨P k, 8, none⟩ (.bool true)) H0 2 1 (.slice la (sl R J k).length lc) (sl R J k).length (ints (sl R J k)) ∧ Below w.heap.size w (wr.setCell ⟨P k, 8, none⟩ (.bool true)) ∧ H0 ≤ ((wr.setCell ⟨P k, 8, none⟩ (.bool true))).heap.size) := (by
            obtain ⟨s1, s2, s3, s4⟩ := S.out
            have ks := kb_set wr (P k) 8 (.bool true)
            refine ⟨s1.flag hkR (by rw [fl_at]; exact hT.out) (fun i hi => fl_off hi), ?_, s3.setCell (p := ⟨P k, 8, none⟩) (by show w.heap.size ≤ P k; have := TBL.out; have := s1.td.low k hkR; omega) _, Nat.le_trans s4 ks.size⟩
            exact row_kb s2 ks (fun g hg q => (row_ty s2 g hg).ne (s1.td.tsk k hkR).ty (by decide) q))
          clear S
          generalize (wr.setCell ⟨P k, 8, none⟩ (.bool true)) = wq at SS ⊢
          obtain ⟨t0q, _, _, _, _, t8q, _⟩ := SS.out.1.cells k hkR
          rw [fl_at, hT.out] at t8q
          clear tk t5 j0 t8 t8f
          go_upto_region 10 with fail
          have OA : Hid ((wq.alloc (.cells #[.int .i64 ((k : Int) + 1)] 2)).ownsRow H0 2 1 (.slice la (sl R J k).length lc) (sl R J k).length (ints (sl R J k))) := SS.out.2.1.alloc _
          have ZA : Hid (H0 ≤ (wq.alloc (.cells #[.int .i64 ((k : Int) + 1)] 2)).heap.size) := (by have := SS.out.2.2.2; show _ ≤ _; simp; omega)
          obtain ⟨len, hlen⟩ : ∃ y, (sl R J k).length = y := ⟨_, rfl⟩
          rw [hlen] at hl
          have HLN : Hid ((sl R J k).length = len) := hlen
          simp only [hlen] at OA ⊢
          clear hlen
          go_wp2_with (at_builtin; refine wpList_append_own _ rfl _ _ 25 rfl H0 2 i0 (.int .i64 0) 1 8 Try.underlying25 hi hz0 hz1 hz2 rfl (by decide) _ _ _ rfl OA.out ⟨wq.heap.size, 0, none⟩ 1 1 [.int .i64 ((k : Int) + 1)] rfl rfl ?c1 ?c2 ?c3 ?c4 ZA.out ?_)
          case c1 =>
            intro j u hj
            match j, hj with
            | 0, hj => simp at hj; subst hj; simp [Addr.add]
          case c2 => intro u hu; simp at hu; subst hu; rfl
          case c3 => unfold maxLen; omega
          case c4 => omega
          intro v5 w5 hown hgrow hnil5
          obtain ⟨g5, c5, rfl, p1, p2, p3, p4⟩ := Cp.row_some hown (by first | exact hnil5 | (intro e; have := hnil5.1 e; simp at this))
          have SN : Hid (Tied w0.heap.size R X J (.slice ra n rc) (.slice xa m xc) jb jc tb h xs u a P (fun g => rn R J g n) (fl R J (k + 1)) w5 ∧ World.ownsRow w5 H0 2 1 (.slice (some ⟨g5, 0, none⟩) (len + 1) c5) (sl R J (k + 1)).length (ints (sl R J (k + 1))) ∧ Below w.heap.size w w5 ∧ H0 ≤ (w5).heap.size) := (by
            obtain ⟨s1, s2, s3, s4⟩ := SS.out
            have bA : Below wq.heap.size wq (wq.alloc (.cells #[.int .i64 ((k : Int) + 1)] 2)) := (Below.refl _ _).alloc (Nat.le_refl _) _
            refine ⟨(s1.on bA).grown OA.out hgrow L0.out, ?_, ?_, Nat.le_trans ZA.out hgrow.size⟩
            · rw [HL.out]
              simpa [ints, HLN.out] using hown
            · exact (s3.trans (bA.mono s3.size)).trans ((KB.of_grown (S := fun b => H0 ≤ b) hgrow (fun b hb => (OA.out.lt b hb).1)).below (Nat.le_trans s3.size bA.size) (fun b hb => Nat.le_trans LH.out hb)))
          have HL2 : Hid ((sl R J (k + 1)).length = len + 1) := (by show _ = _; rw [HL.out]; simp [HLN.out])
          clear hown hgrow hnil5 p1 p2 p3 p4 SS OA ZA t0q t8q
          go_wp2_with fail
          go_roundw
          case rel => exact ⟨k + 1, some ⟨g5, 0, none⟩, c5, by omega, by go_num, by rw [HL2.out], by have q := SN; rw [HL2.out] at q ⊢; exact q⟩
          case measure => simp [intOf]; omega
    · have ek : k = n := by omega
      subst ek
      have i1 : ¬ (k : Int) < (k : Int) := by omega
      go_wp2_with fail
      go_ret
      exact ⟨la, lc, rfl, Tk1.own_down S.out.2.1 LH.out, S.out.2.2.1⟩
end Go.Proofs.Ytfhpomfdkpfooaa.Ty
