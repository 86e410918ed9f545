/- The law of what is stored. -/
import Derived.Test.YtfnkcoppdelmjaaPq
import Derived.Test.YtfnkcoppdelmjaaDst
import Derived.Test.YtfnkcoppdelmjaaSm
import Derived.Test.YtfnkcoppdelmjaaSi
import Derived.Test.YtfnkcoppdelmjaaSs
import Derived.BigRegion
import Derived.BigQuiet
namespace Go.Proofs.Ytfnkcoppdelmjaa.Ix
open Go.ChangeShapes Go.WideShapes Go.ChangeAt Go.RowKit
open Al Eo Ky Ed

theorem row_one {w : World} {base : Nat} {v : Value} {p : ByteArray} {t s l z : Int} (h : En.Row w base v [(p, t, s, l, z)]) : ∃ g cap, v = .slice (some ⟨g, 0, none⟩) 1 cap ∧ g < w.heap.size ∧ w.cell? ⟨g, 0, none⟩ = some (.string p) ∧ w.cell? ⟨g, 1, none⟩ = some (.int .i64 t) ∧ w.cell? ⟨g, 2, none⟩ = some (.int .i64 s) ∧ w.cell? ⟨g, 3, none⟩ = some (.int .i64 l) ∧ w.cell? ⟨g, 4, none⟩ = some (.int .i64 z) := by
  obtain ⟨xs, h, hg⟩ := h
  rcases En.row_cases h with ⟨hn, rfl⟩ | ⟨g, cap, rfl, _, h2, h3, h4⟩
  · simp at hn
  · obtain ⟨h10, h11, h12, h13, h14⟩ := hg 0 (by simp)
    have c0 := h.cellAt 0 (by simp)
    have c1 := h.cellAt 1 (by simp)
    have c2 := h.cellAt 2 (by simp)
    have c3 := h.cellAt 3 (by simp)
    have c4 := h.cellAt 4 (by simp)
    exact ⟨g, cap, rfl, h2, c0.trans h10, c1.trans h11, c2.trans h12, c3.trans h13, c4.trans h14⟩
theorem one_word (w : World) (p : ByteArray) (b : Nat) (hb : b = w.heap.size) : Reads (w.alloc (.cells #[.string p] 9)) (.slice (some ⟨b, 0, none⟩) 1 1) [p] := by
  subst hb
  refine Or.inr ⟨w.heap.size, 0, 1, rfl, Nat.le_refl _, by unfold maxLen; omega, by simp, fun i hi => ?_⟩
  have e : i = 0 := by simp at hi; omega
  subst e
  simp [go_sem]
theorem one_int (w : World) (t : Int) (b : Nat) (hb : b = w.heap.size) : Lists.Reads (w.alloc (.cells #[.int .i64 t] 2)) (.slice (some ⟨b, 0, none⟩) 1 1) [t] := by
  subst hb
  refine Or.inr ⟨w.heap.size, 0, 1, rfl, Nat.le_refl _, by unfold maxLen; omega, by simp, fun i hi => ?_⟩
  have e : i = 0 := by simp at hi; omega
  subst e
  simp [go_sem]
theorem below_new (w : World) (o : Obj) : Below w.heap.size w (w.alloc o) := (Below.refl _ _).alloc (Nat.le_refl _) _
theorem own_lists (w3 : World) (p : ByteArray) (t s l : Int) (hp : p.size ≤ 1048576) : RqR ((((w3.alloc (.cells #[.string p] 9)).alloc (.cells #[.int .i64 t] 2)).alloc (.cells #[.int .i64 s] 2)).alloc (.cells #[.int .i64 l] 2)) (.slice (some ⟨w3.heap.size, 0, none⟩) 1 1) (.slice (some ⟨w3.heap.size + 1, 0, none⟩) 1 1) (.slice (some ⟨w3.heap.size + 1 + 1, 0, none⟩) 1 1) (.slice (some ⟨w3.heap.size + 1 + 1 + 1, 0, none⟩) 1 1) ([p], [t], [s], [l]) :=
  ⟨(((one_word w3 p _ rfl).on (below_new _ _)).on (below_new _ _)).on (below_new _ _), ((one_int _ t _ (by simp)).on (below_new _ _)).on (below_new _ _), (one_int _ s _ (by simp)).on (below_new _ _), one_int _ l _ (by simp), fun i hi => by
    have e : i = 0 := by simp at hi; omega
    subst e
    exact hp⟩
theorem own_below (w3 : World) (a b c d : Obj) : Below w3.heap.size w3 ((((w3.alloc a).alloc b).alloc c).alloc d) := ((((Below.refl _ _).alloc (Nat.le_refl _) _).alloc (by simp) _).alloc (by simp; omega) _).alloc (by simp; omega) _
theorem no_lists (w : World) : RqR w (.slice none 0 0) (.slice none 0 0) (.slice none 0 0) (.slice none 0 0) ([], [], [], []) := ⟨Or.inl ⟨rfl, _, _, rfl⟩, Or.inl ⟨rfl, _, _, rfl⟩, Or.inl ⟨rfl, _, _, rfl⟩, Or.inl ⟨rfl, _, _, rfl⟩, fun i hi => by simp at hi⟩

set_option maxRecDepth 20000 in
set_option maxHeartbeats 1000000 in
theorem storedLaw0 (a : Option Addr) (len cap : Nat) (w : World) (hc : Go.Proofs.Ytfnkcoppdelmjaa.Rd.Code w a len cap) (hn : len < 9223372036854775808) : Calls Try.prog 3 #[.slice a len cap] w fun e w' => e = .returned (.bool true) ∧ Below w.heap.size w w' := by
  by_cases hl : 1048576 < len
  · have C : Hid (Calls Try.prog 5 #[.slice a len cap] w fun e w' => e = .returned (.bool true) ∧ w' = w) := Rd.big_yes a len cap w hl hn
    clear hc
    go_enter Try.func3, Try.ntmps3
    go_wp2_with fail
    refine C.out.mono ?_
    rintro e w1 ⟨rfl, hw⟩
    subst hw
    go_wp2_with fail
    go_ret
    exact ⟨rfl, Below.refl _ _⟩
  have C : Hid (Calls Try.prog 5 #[.slice a len cap] w fun e w' => e = .returned (.bool false) ∧ w' = w) := Rd.big_no a len cap w (by omega)
  have D : Hid (Calls Try.prog 6 #[.slice a len cap] w fun e w' => ∃ v L p, ∃ t s l z : Int, e = .returned (.tuple #[v, .agg #[.string p, .int .i64 t, .int .i64 s, .int .i64 l, .int .i64 z]]) ∧ En.Reads w' v L ∧ Ft L ∧ L.length ≤ 301 ∧ p.size ≤ 1048576 ∧ Below w.heap.size w w') := Ed.drawstore_any a len cap w hc (by omega)
  clear hc
  go_enter Try.func3, Try.ntmps3
  go_wp2_with fail
  refine C.out.mono ?_
  rintro e w1 ⟨rfl, hw⟩
  have hw' := hw.symm
  subst hw'
  clear hw
  go_wp2_with fail
  refine D.out.mono ?_
  rintro e w1 ⟨v, L, p, t, s, l, z, rfl, rL, fL, lL, hp, hb⟩
  obtain ⟨wx, hwx⟩ : ∃ wx, wx = w1.alloc (.cells #[.string p, .int .i64 t, .int .i64 s, .int .i64 l, .int .i64 z] 26) := ⟨_, rfl⟩
  have BX1 : Below w1.heap.size w1 wx := by rw [hwx]; exact (Below.refl _ _).alloc (Nat.le_refl _) _
  have EX : EB wx w1.heap.size p t s l z := by rw [hwx]; exact EB.new w1 p t s l z
  have ZX : w1.heap.size < wx.heap.size := EX.lt
  have BWX : Hid (Below w.heap.size w wx) := hb.trans (BX1.mono hb.size)
  have RX : En.Reads wx v L := rL.on BX1
  have HW : Hid (wx = w1.alloc (.cells #[.string p, .int .i64 t, .int .i64 s, .int .i64 l, .int .i64 z] 26)) := hwx
  obtain ⟨X, hX⟩ : ∃ X, X = w1.heap.size := ⟨_, rfl⟩
  have HX : Hid (X = w1.heap.size) := hX
  rw [← hX] at EX ZX
  clear hwx hX C D hb
  have SA : Hid (Calls Try.prog 7 #[v, .agg #[.string p, .int .i64 t, .int .i64 s, .int .i64 l, .int .i64 z]] wx fun e w' => ∃ u0, e = .returned (.tuple #[u0, .bool (okS L (p, t, s, l, z))]) ∧ Below wx.heap.size wx w') := (sstore_any wx v L p t s l z RX fL hp _ rfl).mono (by rintro e w' ⟨u0, rfl, _, hb⟩; exact ⟨u0, rfl, hb⟩)
  have IA : Hid (∀ w2, Below wx.heap.size wx w2 → Calls Try.prog 8 #[v, .agg #[.string p, .int .i64 t, .int .i64 s, .int .i64 l, .int .i64 z]] w2 fun e w' => ∃ u0, e = .returned (.tuple #[u0, .bool (okS L (p, t, s, l, z))]) ∧ En.Row w' w2.heap.size u0 (if okS L (p, t, s, l, z) then stL L (p, t, s, l, z) else []) ∧ Below w2.heap.size w2 w') := fun w2 hb => istore_any w2 v L p t s l z (RX.on hb) fL hp _ rfl
  have EH : Hid (EB wx X p t s l z) := EX
  clear rL fL lL BX1 EX RX
  go_upto_region 4 with fail
  rw [← HW.out, ← HX.out]
  obtain ⟨y0, y1, y2, y3, y4, yf⟩ := EH.out.cells
  clear yf HW HX
  go_wp2_with fail
  clear y0 y1 y2 y3 y4
  refine SA.out.mono ?_
  rintro e w2 ⟨u2, rfl, b2⟩
  have B2 : Hid (Below wx.heap.size wx w2) := b2
  have E2 : Hid (EB w2 X p t s l z) := EH.out.on b2 ZX
  clear SA b2
  obtain ⟨y0, y1, y2, y3, y4, yf⟩ := E2.out.cells
  clear yf
  go_wp2_with fail
  clear y0 y1 y2 y3 y4
  refine (IA.out w2 B2.out).mono ?_
  rintro e w3 ⟨u3, rfl, row3, b3⟩
  have B3 : Hid (Below wx.heap.size wx w3) := B2.out.trans (b3.mono B2.out.size)
  have E3 : Hid (EB w3 X p t s l z) := EH.out.on B3.out ZX
  have W3 : Hid (Below w.heap.size w w3) := BWX.out.trans (B3.out.mono BWX.out.size)
  clear IA b3 E2 B2 EH
  cases hk : okS L (p, t, s, l, z)
  · clear hk row3
    go_wp2_with fail
    go_ret
    exact ⟨rfl, W3.out⟩
  rw [hk, if_pos rfl] at row3
  have hA := okA_of hk
  have hag := okS_again hk
  have hst := st_again L (p, t, s, l, z)
  have hpo := pick_own L (p, t, s, l, z)
  have hro := okR_own (okS_parts hk).2.1
  generalize stL L (p, t, s, l, z) = A at *
  have R3 : Hid (En.Reads w3 u3 A) := row3.reads
  obtain ⟨ua, uc, rfl⟩ := row3.form
  clear hk row3
  obtain ⟨m, hm⟩ : ∃ m, m = A.length := ⟨_, rfl⟩
  have HM : Hid (m = A.length) := hm
  rw [← hm] at R3 ⊢
  have m1 : m ≤ 300 := hm ▸ ((okA_iff A).1 hA).1
  clear hm
  by_cases h60 : 60 < m
  · have g60 : decide (60 < (m : Int)) = true := decide_eq_true (by omega)
    have i60 : 60 < (m : Int) := by omega
    go_wp2_with fail
    go_ret
    exact ⟨rfl, W3.out⟩
  have g60 : decide (60 < (m : Int)) = false := decide_eq_false (by omega)
  have i60 : ¬ 60 < (m : Int) := by omega
  obtain ⟨y0, y1, y2, y3, y4, yf⟩ := E3.out.cells
  clear yf
  have P1 : EB (w3.alloc (.cells #[.string p] 9)) X p t s l z := blk_alloc E3.out _
  have P2 : EB ((w3.alloc (.cells #[.string p] 9)).alloc (.cells #[.int .i64 t] 2)) X p t s l z := blk_alloc P1 _
  have P3 : EB (((w3.alloc (.cells #[.string p] 9)).alloc (.cells #[.int .i64 t] 2)).alloc (.cells #[.int .i64 s] 2)) X p t s l z := blk_alloc P2 _
  have p1 := P1.cells.2.1
  have p2 := P2.cells.2.2.1
  have p3 := P3.cells.2.2.2.1
  clear P1 P2 P3
  go_wp2_with fail
  have hq := own_lists w3 p t s l hp
  have B4 := own_below w3 (.cells #[.string p] 9) (.cells #[.int .i64 t] 2) (.cells #[.int .i64 s] 2) (.cells #[.int .i64 l] 2)
  generalize (((w3.alloc (.cells #[.string p] 9)).alloc (.cells #[.int .i64 t] 2)).alloc (.cells #[.int .i64 s] 2)).alloc (.cells #[.int .i64 l] 2) = w4 at *
  have R4 := R3.out.on B4
  refine (ipick_any A _ ([p], [t], [s], [l]) _ _ _ _ w4 R4 (ft_ok hA) hq (by simp)).mono ?_
  rintro e w5 ⟨g, rfl, row5, b5⟩
  rw [hA, hro, hpo] at row5
  have B5 : Hid (Below w3.heap.size w3 w5) := B4.trans (b5.mono B4.size)
  have R5 : Hid (En.Reads w5 (.slice ua m uc) A) := R3.out.on B5.out
  have E5 : Hid (EB w5 X p t s l z) := E3.out.on B5.out E3.out.lt
  have row5' : En.Row w5 w4.heap.size g [(p, t, s, l, z)] := row5
  clear y0 y1 y2 y3 y4 p1 p2 p3 hq B4 R4 hro hpo b5 row5
  obtain ⟨gb, gc, rfl, hgb, q0, q1, q2, q3, q4⟩ := row_one row5'
  have HG : Hid (∀ w', Below w5.heap.size w5 w' → w'.cell? ⟨gb, 0, none⟩ = some (.string p) ∧ w'.cell? ⟨gb, 1, none⟩ = some (.int .i64 t) ∧ w'.cell? ⟨gb, 2, none⟩ = some (.int .i64 s) ∧ w'.cell? ⟨gb, 3, none⟩ = some (.int .i64 l) ∧ w'.cell? ⟨gb, 4, none⟩ = some (.int .i64 z)) := fun w' hb =>
    ⟨(hb.cell (p := ⟨gb, 0, none⟩) hgb).trans q0, (hb.cell (p := ⟨gb, 1, none⟩) hgb).trans q1, (hb.cell (p := ⟨gb, 2, none⟩) hgb).trans q2, (hb.cell (p := ⟨gb, 3, none⟩) hgb).trans q3, (hb.cell (p := ⟨gb, 4, none⟩) hgb).trans q4⟩
  clear q0 q1 q2 q3 q4 row5' hgb
  obtain ⟨y0, y1, y2, y3, y4, yf⟩ := E5.out.cells
  clear yf
  go_wp2_with fail
  clear y0 y1 y2 y3 y4
  refine (istore_any w5 (.slice ua m uc) A p t s l z R5.out (ft_ok hA) hp A (by rw [hag, hst]; rfl)).mono ?_
  rintro e w6 ⟨u6, rfl, row6, b6⟩
  rw [hag]
  have B6 : Hid (Below w3.heap.size w3 w6) := B5.out.trans (b6.mono B5.out.size)
  have R6 : En.Reads w6 (.slice ua m uc) A := R5.out.on b6
  have R6' : En.Reads w6 u6 A := row6.reads
  have HR6 : Hid (En.Reads w6 (.slice ua m uc) A) := R6
  have E6 : EB w6 X p t s l z := E5.out.on b6 E5.out.lt
  obtain ⟨q0, q1, q2, q3, q4⟩ := HG.out w6 b6
  have SM : Hid (∀ n, Calls Try.prog 10 #[.slice ua m uc, u6] (w6.drewN n) fun e w' => e = .returned (.bool true) ∧ ∃ k, w' = (w6.drewN n).drewN k) := fun n => same_drew A _ _ _ (R6.on (Ed.below_drewN _ _ _)) (R6'.on (Ed.below_drewN _ _ _))
  obtain ⟨y0, y1, y2, y3, y4, yf⟩ := E6.cells
  clear yf HG E5 R5 B5 row6 b6 R6 R6' E6 hag hst
  go_upto_region 12 with fail
  go_quiet (exact Calls.quiet_of (SM.out _))
  have B7 : Hid (Below w.heap.size w (w6.drewN nq)) := (W3.out.trans (B6.out.mono W3.out.size)).trans (Ed.below_drewN _ _ _)
  have R7 : Hid (En.Reads (w6.drewN nq) (.slice ua m uc) A) := HR6.out.on (Ed.below_drewN _ _ _)
  generalize w6.drewN nq = w7 at *
  clear SM y0 y1 y2 y3 y4 q0 q1 q2 q3 q4 B6 HR6 W3 B3 E3 BWX R3
  have HA : Hid (okA A = true) := hA
  have HC : Hid (∀ (wr : World) (i : Nat), Below w7.heap.size w7 wr → i < m → ∃ b o, ua = some ⟨b, o, none⟩ ∧ En.Cs wr b o A i) := fun wr i hb hi => (by
    have rr := R7.out
    rw [HM.out] at hi rr
    rcases rr with ⟨rfl, _⟩ | ⟨b, o, c, e, _, _, x, y⟩
    · simp at hi
    · simp at e; exact ⟨b, o, e.1, (y i hi).below hb x⟩)
  have R8 : Hid (En.Reads (w7.alloc (.cells #[] 26)) (.slice (some ⟨w7.heap.size, 0, none⟩) 0 0) (A.drop m)) := Or.inl ⟨by rw [HM.out]; exact List.drop_length, _, _, rfl⟩
  have B8 : Hid (Below w7.heap.size w7 (w7.alloc (.cells #[] 26))) := below_new _ _
  have IS : Hid (∀ (wr : World) (c : Value) (k : Nat), k < m → En.Reads wr c (A.drop (k + 1)) → Calls Try.prog 8 #[c, .agg #[.string (En.c0 A k), .int .i64 (En.c1 A k), .int .i64 (En.c2 A k), .int .i64 (En.c3 A k), .int .i64 (En.c4 A k)]] wr fun e w' => ∃ u0, e = .returned (.tuple #[u0, .bool true]) ∧ En.Reads w' u0 (A.drop k) ∧ Below wr.heap.size wr w') := fun wr c k hk rc => (by
    have hkm : k < A.length := by rw [← HM.out]; exact hk
    have h1 := okS_drop hA k hkm
    have h2 := st_drop hA k hkm
    have h3 : (En.c0 A k).size ≤ 1048576 := ft_ok hA k hkm
    refine (istore_any wr c (A.drop (k + 1)) _ _ _ _ _ rc (ft_ok (okA_drop hA _)) h3 (A.drop k) ?_).mono ?_
    · show A.drop k = if okS (A.drop (k + 1)) (en A k) then stL (A.drop (k + 1)) (en A k) else []
      rw [h1, h2]; rfl
    · rintro e w' ⟨u0, rfl, rr, hb⟩
      have h1' : okS (A.drop (k + 1)) (En.c0 A k, En.c1 A k, En.c2 A k, En.c3 A k, En.c4 A k) = true := h1
      exact ⟨u0, by rw [h1'], rr.reads, hb⟩)
  clear hA hp
  go_wp2_with fail
  go_loopw [12, 13] (fun c i wr => ∃ k : Nat, k ≤ m ∧ i = .int .i64 ((k : Int) - 1) ∧ Hid (En.Reads wr c (A.drop k)) ∧ Hid (Below w7.heap.size w7 wr)) (fun _ i _ => (intOf i + 1).toNat)
  case atStart => exact ⟨m, Nat.le_refl _, by go_num, R8, B8⟩
  case round =>
    clear R8 B8
    obtain ⟨k, hk, rfl, RC, BC⟩ := hrel
    cases k with
    | zero =>
      have HRC : Hid (En.Reads wr u12 A) := RC.out
      have R9 : Hid (En.Reads wr (.slice ua m uc) A) := R7.out.on BC.out
      clear RC IS HC
      have e1 : ((0 : Nat) : Int) - 1 = -1 := by omega
      rw [e1]
      go_wp2_with fail
      refine (same_drew A _ _ wr R9.out HRC.out).mono ?_
      rintro e w9 ⟨rfl, n9, rfl⟩
      have RR : Hid (En.Reads (wr.drewN n9) (.slice ua m uc) A) := R9.out.on (Ed.below_drewN _ _ _)
      have BB : Hid (Below w.heap.size w (wr.drewN n9)) := (B7.out.trans (BC.out.mono B7.out.size)).trans (Ed.below_drewN _ _ _)
      generalize wr.drewN n9 = w9 at *
      go_wp2_with fail
      refine (ipick_any A _ ([], [], [], []) _ _ _ _ w9 RR.out (ft_ok HA.out) (no_lists w9) (by simp)).mono ?_
      rintro e w10 ⟨g, rfl, row10, b10⟩
      rw [HA.out, okR_none, pick_all] at row10
      have R10 : Hid (En.Reads w10 g A) := row10.reads
      have R11 : Hid (En.Reads w10 (.slice ua m uc) A) := RR.out.on b10
      have B10 : Hid (Below w.heap.size w w10) := BB.out.trans (b10.mono BB.out.size)
      clear row10 b10
      go_wp2_with fail
      refine (same_drew A _ _ w10 R10.out R11.out).mono ?_
      rintro e w11 ⟨rfl, n11, rfl⟩
      have B11 : Hid (Below w.heap.size w (w10.drewN n11)) := B10.out.trans (Ed.below_drewN _ _ _)
      generalize w10.drewN n11 = w11 at *
      go_wp2_with fail
      go_ret
      exact ⟨rfl, B11.out⟩
    | succ n =>
      have e1 : ((n + 1 : Nat) : Int) - 1 = (n : Int) := by omega
      rw [e1]
      have i0 : (0 : Int) ≤ (n : Int) := by omega
      have i1 : (n : Int) < (m : Int) := by omega
      obtain ⟨b, o, rfl, q0, q1, q2, q3, q4⟩ := HC.out wr n BC.out (by omega)
      have IN : Hid (Calls Try.prog 8 #[u12, .agg #[.string (En.c0 A n), .int .i64 (En.c1 A n), .int .i64 (En.c2 A n), .int .i64 (En.c3 A n), .int .i64 (En.c4 A n)]] wr fun e w' => ∃ u0, e = .returned (.tuple #[u0, .bool true]) ∧ En.Reads w' u0 (A.drop n) ∧ Below wr.heap.size wr w') := IS.out wr u12 n (by omega) RC.out
      clear IS HC R7
      generalize En.c0 A n = x0 at *
      generalize En.c1 A n = x1 at *
      generalize En.c2 A n = x2 at *
      generalize En.c3 A n = x3 at *
      generalize En.c4 A n = x4 at *
      go_wp2_with fail
      clear q0 q1 q2 q3 q4
      refine IN.out.mono ?_
      rintro e w9 ⟨u9, rfl, r9, b9⟩
      have R9 : Hid (En.Reads w9 u9 (A.drop n)) := r9
      have B9 : Hid (Below w7.heap.size w7 w9) := BC.out.trans (b9.mono BC.out.size)
      clear IN r9 b9
      go_wp2_with fail
      go_roundw
      case rel => exact ⟨n, by omega, by go_num, R9, B9⟩
      case measure => simp [intOf]
end Go.Proofs.Ytfnkcoppdelmjaa.Ix
