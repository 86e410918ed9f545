/- What DrawStore draws. -/
import Derived.Test.YtfnkcoppdelmjaaDt
import Derived.Test.YtfnkcoppdelmjaaEe
namespace Go.Proofs.Ytfnkcoppdelmjaa.Ed
open Go.ChangeShapes Go.WideShapes Go.ChangeAt Go.RowKit
open Go.Proofs.Ytfnkcoppdelmjaa.Rd Go.Proofs.Ytfnkcoppdelmjaa.Eo Go.Proofs.Ytfnkcoppdelmjaa.Ky
/-- what DrawStore keeps: the list, the answer's block, the entry's -/
structure ST (r A X : Nat) (W wx : World) (v : Value) (L : En.Ls) (p : ByteArray) (t s l z : Int) : Prop where
  da : DA r W wx v L
  ab : EB wx A E 0 0 0 0
  xb : EB wx X p t s l z
  nb : v.ownBlock ≠ some X
  ar : A < r
  wx : W.heap.size ≤ X
theorem ST.turn {r A X : Nat} {W wx w' : World} {v : Value} {L : En.Ls} {p : ByteArray} {t s l z : Int} (h : ST r A X W wx v L p t s l z) (tn : Turn r wx w') (k : Rd r w') : ST r A X W w' v L p t s l z :=
  ⟨h.da.turn tn k, blk_turn h.ab tn (by have := h.ar; omega), blk_turn h.xb tn (by have := h.da.lt; have := h.wx; omega), h.nb, h.ar, h.wx⟩
theorem ST.alloc {r A X : Nat} {W wx : World} {v : Value} {L : En.Ls} {p : ByteArray} {t s l z : Int} (h : ST r A X W wx v L p t s l z) (o : Obj) : ST r A X W (wx.alloc o) v L p t s l z :=
  ⟨h.da.alloc o, blk_alloc h.ab o, blk_alloc h.xb o, h.nb, h.ar, h.wx⟩
theorem DA.other {r X : Nat} {W wx : World} {v : Value} {L : En.Ls} (h : DA r W wx v L) (hx : W.heap.size ≤ X) (hn : v.ownBlock ≠ some X) (i : Nat) (u : Value) : DA r W (wx.setCell ⟨X, i, none⟩ u) v L := by
  have hl := h.lt
  obtain ⟨xs, ho, hG⟩ := h.row
  exact ⟨⟨xs, ownsRow_setCell_other ho (a := ⟨X, i, none⟩) hn u, hG⟩, h.ft, h.le, h.rd.kept ((Below.refl (r + 1) wx).setCell (p := ⟨X, i, none⟩) (by show r + 1 ≤ X; omega) _) (by omega), h.tn.setCell (p := ⟨X, i, none⟩) hx hl _, hl⟩
theorem ST.s1 {r A X : Nat} {W wx : World} {v : Value} {L : En.Ls} {p : ByteArray} {t s l z : Int} (h : ST r A X W wx v L p t s l z) (y : Int) : ST r A X W (wx.setCell ⟨X, 1, none⟩ (.int .i64 y)) v L p y s l z :=
  ⟨h.da.other h.wx h.nb _ _, h.ab.keep (by have := h.ar; have := h.wx; have := h.da.lt; omega) _ _, h.xb.s1 y, h.nb, h.ar, h.wx⟩
theorem ST.s2 {r A X : Nat} {W wx : World} {v : Value} {L : En.Ls} {p : ByteArray} {t s l z : Int} (h : ST r A X W wx v L p t s l z) (y : Int) : ST r A X W (wx.setCell ⟨X, 2, none⟩ (.int .i64 y)) v L p t y l z :=
  ⟨h.da.other h.wx h.nb _ _, h.ab.keep (by have := h.ar; have := h.wx; have := h.da.lt; omega) _ _, h.xb.s2 y, h.nb, h.ar, h.wx⟩
theorem ST.s3 {r A X : Nat} {W wx : World} {v : Value} {L : En.Ls} {p : ByteArray} {t s l z : Int} (h : ST r A X W wx v L p t s l z) (y : Int) : ST r A X W (wx.setCell ⟨X, 3, none⟩ (.int .i64 y)) v L p t s y z :=
  ⟨h.da.other h.wx h.nb _ _, h.ab.keep (by have := h.ar; have := h.wx; have := h.da.lt; omega) _ _, h.xb.s3 y, h.nb, h.ar, h.wx⟩
theorem step3 (z : Int) (h0 : 0 ≤ z) (h1 : z < 3) : ∃ q : Int, ([.int .i64 (-1), .int .i64 360, .int .i64 361] : List Value)[z.toNat]? = some (.int .i64 q) := by
  have : z = 0 ∨ z = 1 ∨ z = 2 := by omega
  rcases this with rfl | rfl | rfl
  · exact ⟨-1, rfl⟩
  · exact ⟨360, rfl⟩
  · exact ⟨361, rfl⟩
theorem level2 (z : Int) (h0 : 0 ≤ z) (h1 : z < 2) : ∃ q : Int, ([.int .i64 1100, .int .i64 1101] : List Value)[z.toNat]? = some (.int .i64 q) := by
  have : z = 0 ∨ z = 1 := by omega
  rcases this with rfl | rfl
  · exact ⟨1100, rfl⟩
  · exact ⟨1101, rfl⟩

theorem row_five {A : Nat} {wx : World} {B : Nat} {v : Value} {L : En.Ls} (h : En.Row wx B v L) (hA : A < B) (x0 x1 x2 x3 x4 : Value) : En.Row (((((wx.setCell ⟨A, 0, none⟩ x0).setCell ⟨A, 1, none⟩ x1).setCell ⟨A, 2, none⟩ x2).setCell ⟨A, 3, none⟩ x3).setCell ⟨A, 4, none⟩ x4) B v L := by
  obtain ⟨xs, ho, hG⟩ := h
  exact ⟨xs, ownsRow_setCell_below (ownsRow_setCell_below (ownsRow_setCell_below (ownsRow_setCell_below (ownsRow_setCell_below ho (a := ⟨A, 0, none⟩) hA _) (a := ⟨A, 1, none⟩) hA _) (a := ⟨A, 2, none⟩) hA _) (a := ⟨A, 3, none⟩) hA _) (a := ⟨A, 4, none⟩) hA _, hG⟩
theorem below_five {A B : Nat} {w wx : World} (h : Below B w wx) (hA : B ≤ A) (x0 x1 x2 x3 x4 : Value) : Below B w (((((wx.setCell ⟨A, 0, none⟩ x0).setCell ⟨A, 1, none⟩ x1).setCell ⟨A, 2, none⟩ x2).setCell ⟨A, 3, none⟩ x3).setCell ⟨A, 4, none⟩ x4) :=
  ((((h.setCell (p := ⟨A, 0, none⟩) hA _).setCell (p := ⟨A, 1, none⟩) hA _).setCell (p := ⟨A, 2, none⟩) hA _).setCell (p := ⟨A, 3, none⟩) hA _).setCell (p := ⟨A, 4, none⟩) hA _
set_option maxRecDepth 20000 in
set_option maxHeartbeats 4000000 in
theorem drawstore_any (a : Option Addr) (n0 cap : Nat) (w : World) (hc : Go.Proofs.Ytfnkcoppdelmjaa.Rd.Code w a n0 cap) (hn0 : n0 ≤ 1048576) : Calls Try.prog 6 #[.slice a n0 cap] w fun e w' => ∃ v L p, ∃ t s l z : Int, e = .returned (.tuple #[v, .agg #[.string p, .int .i64 t, .int .i64 s, .int .i64 l, .int .i64 z]]) ∧ En.Reads w' v L ∧ Ft L ∧ L.length ≤ 301 ∧ p.size ≤ 1048576 ∧ Below w.heap.size w w' := by
  obtain ⟨wa, hwa⟩ : ∃ wa, wa = w.alloc (.cells #[.string E, .int .i64 0, .int .i64 0, .int .i64 0, .int .i64 0] 26) := ⟨_, rfl⟩
  have BA : Below w.heap.size w wa := by rw [hwa]; exact (Below.refl _ _).alloc (Nat.le_refl _) _
  have ZA : w.heap.size < wa.heap.size := by rw [hwa]; simp
  have EA : EB wa w.heap.size E 0 0 0 0 := by rw [hwa]; exact EB.new w _ _ _ _ _
  have O : Hid (Calls Try.prog 14 #[.slice a n0 cap] wa fun e w' => e = .returned (.pointer (some ⟨wa.heap.size, 0, none⟩)) ∧ w' = wa.alloc (.cells #[.slice a n0 cap, .int .i64 0] 61)) := open_any _ a n0 cap rfl wa
  have K0 : Hid (Rd wa.heap.size (wa.alloc (.cells #[.slice a n0 cap, .int .i64 0] 61))) := Rd.new hc hn0 BA
  have B0 : Hid (Below w.heap.size w (wa.alloc (.cells #[.slice a n0 cap, .int .i64 0] 61))) := BA.alloc (by omega) _
  have E0 : Hid (EB (wa.alloc (.cells #[.slice a n0 cap, .int .i64 0] 61)) w.heap.size E 0 0 0 0) := blk_alloc EA _
  have HW : Hid (wa = w.alloc (.cells #[.string E, .int .i64 0, .int .i64 0, .int .i64 0, .int .i64 0] 26)) := hwa
  clear hc hwa BA EA
  go_enter Try.func6, Try.ntmps6
  go_wp2_with fail
  rw [← HW.out]
  refine O.out.mono ?_
  rintro e w1 ⟨rfl, hw⟩
  rw [← hw] at K0 B0 E0
  clear hw O
  obtain ⟨r, hr0⟩ : ∃ r, r = wa.heap.size := ⟨_, rfl⟩
  have ZR : w.heap.size < r := by omega
  rw [← hr0] at K0 ⊢
  clear hr0 ZA
  have hr := K0.out.lt
  obtain ⟨A, hA⟩ : ∃ A, A = w.heap.size := ⟨_, rfl⟩
  have HA : Hid (A = w.heap.size) := hA
  rw [← hA] at E0 ZR ⊢
  clear hA HW
  go_wp2_with fail
  refine (drawarch_any (fun r W h => entry_any r W h) r _ K0.out).mono ?_
  rintro e w2 ⟨v, L, rfl, d2⟩
  have E2 : Hid (EB w2 A E 0 0 0 0) := blk_turn E0.out d2.tn (by omega)
  have D2 : Hid (DA r w1 w2 v L) := d2
  obtain ⟨sa, sc, hv⟩ := d2.row.form
  subst hv
  have FIN : Hid (∀ (w' : World) (X : Nat) (p : ByteArray) (t s l z : Int), ST r A X w1 w' (.slice sa L.length sc) L p t s l z → ∀ x0 x1 x2 x3 x4, En.Reads (((((w'.setCell ⟨A, 0, none⟩ x0).setCell ⟨A, 1, none⟩ x1).setCell ⟨A, 2, none⟩ x2).setCell ⟨A, 3, none⟩ x3).setCell ⟨A, 4, none⟩ x4).drew (.slice sa L.length sc) L ∧ Ft L ∧ L.length ≤ 301 ∧ Below w.heap.size w (((((w'.setCell ⟨A, 0, none⟩ x0).setCell ⟨A, 1, none⟩ x1).setCell ⟨A, 2, none⟩ x2).setCell ⟨A, 3, none⟩ x3).setCell ⟨A, 4, none⟩ x4).drew) := fun w' X p t s l z h x0 x1 x2 x3 x4 => (by
    have hA := HA.out
    refine ⟨(row_five h.da.row (by omega) x0 x1 x2 x3 x4).reads.on ((Below.refl _ _).drew), h.da.ft, h.da.le, (below_five (B0.out.trans (h.da.tn.bel.mono (by omega))) (by omega) x0 x1 x2 x3 x4).drew⟩)
  obtain ⟨m, hm⟩ : ∃ m, m = L.length := ⟨_, rfl⟩
  have HM : Hid (m = L.length) := hm
  rw [← hm] at D2 FIN ⊢
  clear d2 K0 E0 hm
  go_wp2_with fail
  refine (entry_any r _ D2.out.rd).mono ?_
  rintro e w3 ⟨⟨p, t, s, l, z, rfl, hp⟩, k3, t3⟩
  have HP : Hid (p.size ≤ 1048576) := pok_size hp.1
  have D3 : DA r w1 w3 (.slice sa m sc) L := D2.out.turn t3 k3
  have S4 : Hid (ST r A w3.heap.size w1 (w3.alloc (.cells #[.string p, .int .i64 t, .int .i64 s, .int .i64 l, .int .i64 z] 26)) (.slice sa m sc) L p t s l z) := ⟨D3.alloc _, blk_alloc (blk_turn E2.out t3 (by omega)) _, EB.new w3 _ _ _ _ _, (fun h => by have := (D3.row.lt _ h).2; omega), ZR, D3.tn.size⟩
  obtain ⟨X, hX⟩ : ∃ X, X = w3.heap.size := ⟨_, rfl⟩
  clear k3 t3 hp D2 D3 E2
  go_wp2_with fail
  refine (below_all r _ S4.out.da.rd 14 (by omega) (by omega)).mono ?_
  rintro e w5 ⟨⟨u, ⟨hu1, hu2⟩, rfl⟩, k5, t5⟩
  rw [← hX] at S4 ⊢
  have S5 : Hid (ST r A X w1 w5 (.slice sa m sc) L p t s l z) := S4.out.turn t5 k5
  have n5 : r < w5.heap.size := k5.lt
  clear S4 k5 t5 hu2 hX
  by_cases u0 : u = 0
  · subst u0
    have SB : Hid (ST r A X w1 (w5.alloc (.cells #[.int .i64 (-1), .int .i64 360, .int .i64 361] 2)) (.slice sa m sc) L p t s l z) := S5.out.alloc _
    go_wp2_with fail
    refine (below_all r _ SB.out.da.rd 3 (by omega) (by omega)).mono ?_
    rintro e w6 ⟨⟨y, ⟨hy1, hy2⟩, rfl⟩, k6, t6⟩
    replace hy2 : y < 3 := hy2
    obtain ⟨q, hq⟩ := step3 y hy1 hy2
    have c6 := turn_cell t6 n5 hq
    have S6 : Hid (ST r A X w1 w6 (.slice sa m sc) L p t s l z) := SB.out.turn t6 k6
    obtain ⟨y0, y1, y2, y3, y4, yf⟩ := S6.out.xb.cells
    have yf2 := yf 2
    have SF : Hid (ST r A X w1 (w6.setCell ⟨X, 2, none⟩ (.int .i64 q)) (.slice sa m sc) L p t q l z) := S6.out.s2 q
    clear k6 t6 SB S5 hq yf S6
    go_upto_region 11 with fail
    clear y0 y1 y2 y3 y4 yf2 c6
    generalize w6.setCell ⟨X, 2, none⟩ (.int .i64 q) = wf at *
    obtain ⟨y0, y1, y2, y3, y4, _⟩ := SF.out.xb.cells
    obtain ⟨a0, a1, a2, a3, a4, af⟩ := SF.out.ab.cells
    have f0 := af 0; have f1 := af 1; have f2 := af 2; have f3 := af 3; have f4 := af 4
    have HFF : Hid (∀ x0 x1 x2 x3 x4, En.Reads (((((wf.setCell ⟨A, 0, none⟩ x0).setCell ⟨A, 1, none⟩ x1).setCell ⟨A, 2, none⟩ x2).setCell ⟨A, 3, none⟩ x3).setCell ⟨A, 4, none⟩ x4).drew (.slice sa m sc) L ∧ Ft L ∧ m ≤ 301 ∧ Below w.heap.size w (((((wf.setCell ⟨A, 0, none⟩ x0).setCell ⟨A, 1, none⟩ x1).setCell ⟨A, 2, none⟩ x2).setCell ⟨A, 3, none⟩ x3).setCell ⟨A, 4, none⟩ x4).drew) := FIN.out _ _ _ _ _ _ _ SF.out
    clear af SF
    go_region
    all_goals go_wp2_with fail
    all_goals exact bodyPost_ret (v := .tuple #[.slice sa m sc, .agg #[.string p, .int .i64 t, .int .i64 q, .int .i64 l, .int .i64 z]]) (by simp [results, Try.results6, go_sem, a0, a1, a2, a3, a4]) rfl ⟨_, L, _, _, _, _, _, rfl, (HFF.out (.string p) (.int .i64 t) (.int .i64 q) (.int .i64 l) (.int .i64 z)).1, (HFF.out (.string p) (.int .i64 t) (.int .i64 q) (.int .i64 l) (.int .i64 z)).2.1, (by have hh := (HFF.out (.string p) (.int .i64 t) (.int .i64 q) (.int .i64 l) (.int .i64 z)).2.2.1; rw [HM.out] at hh; exact hh), HP.out, (HFF.out (.string p) (.int .i64 t) (.int .i64 q) (.int .i64 l) (.int .i64 z)).2.2.2⟩
  have e0 : (u == 0) = false := by simpa using u0
  by_cases u1 : u = 1
  · subst u1
    have SB : Hid (ST r A X w1 (w5.alloc (.cells #[.int .i64 1100, .int .i64 1101] 2)) (.slice sa m sc) L p t s l z) := S5.out.alloc _
    go_wp2_with fail
    refine (below_all r _ SB.out.da.rd 2 (by omega) (by omega)).mono ?_
    rintro e w6 ⟨⟨y, ⟨hy1, hy2⟩, rfl⟩, k6, t6⟩
    replace hy2 : y < 2 := hy2
    obtain ⟨q, hq⟩ := level2 y hy1 hy2
    have c6 := turn_cell t6 n5 hq
    have S6 : Hid (ST r A X w1 w6 (.slice sa m sc) L p t s l z) := SB.out.turn t6 k6
    obtain ⟨y0, y1, y2, y3, y4, yf⟩ := S6.out.xb.cells
    have yf2 := yf 3
    have SF : Hid (ST r A X w1 (w6.setCell ⟨X, 3, none⟩ (.int .i64 q)) (.slice sa m sc) L p t s q z) := S6.out.s3 q
    clear k6 t6 SB S5 hq yf S6
    go_upto_region 11 with fail
    clear y0 y1 y2 y3 y4 yf2 c6
    generalize w6.setCell ⟨X, 3, none⟩ (.int .i64 q) = wf at *
    obtain ⟨y0, y1, y2, y3, y4, _⟩ := SF.out.xb.cells
    obtain ⟨a0, a1, a2, a3, a4, af⟩ := SF.out.ab.cells
    have f0 := af 0; have f1 := af 1; have f2 := af 2; have f3 := af 3; have f4 := af 4
    have HFF : Hid (∀ x0 x1 x2 x3 x4, En.Reads (((((wf.setCell ⟨A, 0, none⟩ x0).setCell ⟨A, 1, none⟩ x1).setCell ⟨A, 2, none⟩ x2).setCell ⟨A, 3, none⟩ x3).setCell ⟨A, 4, none⟩ x4).drew (.slice sa m sc) L ∧ Ft L ∧ m ≤ 301 ∧ Below w.heap.size w (((((wf.setCell ⟨A, 0, none⟩ x0).setCell ⟨A, 1, none⟩ x1).setCell ⟨A, 2, none⟩ x2).setCell ⟨A, 3, none⟩ x3).setCell ⟨A, 4, none⟩ x4).drew) := FIN.out _ _ _ _ _ _ _ SF.out
    clear af SF
    go_region
    all_goals go_wp2_with fail
    all_goals exact bodyPost_ret (v := .tuple #[.slice sa m sc, .agg #[.string p, .int .i64 t, .int .i64 s, .int .i64 q, .int .i64 z]]) (by simp [results, Try.results6, go_sem, a0, a1, a2, a3, a4]) rfl ⟨_, L, _, _, _, _, _, rfl, (HFF.out (.string p) (.int .i64 t) (.int .i64 s) (.int .i64 q) (.int .i64 z)).1, (HFF.out (.string p) (.int .i64 t) (.int .i64 s) (.int .i64 q) (.int .i64 z)).2.1, (by have hh := (HFF.out (.string p) (.int .i64 t) (.int .i64 s) (.int .i64 q) (.int .i64 z)).2.2.1; rw [HM.out] at hh; exact hh), HP.out, (HFF.out (.string p) (.int .i64 t) (.int .i64 s) (.int .i64 q) (.int .i64 z)).2.2.2⟩
  have e1 : (u == 1) = false := by simpa using u1
  by_cases u2 : u = 2
  · subst u2
    go_wp2_with fail
    refine (drawtime_any r _ S5.out.da.rd).mono ?_
    rintro e w6 ⟨⟨q, _, rfl⟩, k6, t6⟩
    have S6 : Hid (ST r A X w1 w6 (.slice sa m sc) L p t s l z) := S5.out.turn t6 k6
    obtain ⟨y0, y1, y2, y3, y4, yf⟩ := S6.out.xb.cells
    have yf2 := yf 1
    have SF : Hid (ST r A X w1 (w6.setCell ⟨X, 1, none⟩ (.int .i64 q)) (.slice sa m sc) L p q s l z) := S6.out.s1 q
    clear k6 t6 S5 yf S6
    go_upto_region 11 with fail
    clear y0 y1 y2 y3 y4 yf2
    generalize w6.setCell ⟨X, 1, none⟩ (.int .i64 q) = wf at *
    obtain ⟨y0, y1, y2, y3, y4, _⟩ := SF.out.xb.cells
    obtain ⟨a0, a1, a2, a3, a4, af⟩ := SF.out.ab.cells
    have f0 := af 0; have f1 := af 1; have f2 := af 2; have f3 := af 3; have f4 := af 4
    have HFF : Hid (∀ x0 x1 x2 x3 x4, En.Reads (((((wf.setCell ⟨A, 0, none⟩ x0).setCell ⟨A, 1, none⟩ x1).setCell ⟨A, 2, none⟩ x2).setCell ⟨A, 3, none⟩ x3).setCell ⟨A, 4, none⟩ x4).drew (.slice sa m sc) L ∧ Ft L ∧ m ≤ 301 ∧ Below w.heap.size w (((((wf.setCell ⟨A, 0, none⟩ x0).setCell ⟨A, 1, none⟩ x1).setCell ⟨A, 2, none⟩ x2).setCell ⟨A, 3, none⟩ x3).setCell ⟨A, 4, none⟩ x4).drew) := FIN.out _ _ _ _ _ _ _ SF.out
    clear af SF
    go_region
    all_goals go_wp2_with fail
    all_goals exact bodyPost_ret (v := .tuple #[.slice sa m sc, .agg #[.string p, .int .i64 q, .int .i64 s, .int .i64 l, .int .i64 z]]) (by simp [results, Try.results6, go_sem, a0, a1, a2, a3, a4]) rfl ⟨_, L, _, _, _, _, _, rfl, (HFF.out (.string p) (.int .i64 q) (.int .i64 s) (.int .i64 l) (.int .i64 z)).1, (HFF.out (.string p) (.int .i64 q) (.int .i64 s) (.int .i64 l) (.int .i64 z)).2.1, (by have hh := (HFF.out (.string p) (.int .i64 q) (.int .i64 s) (.int .i64 l) (.int .i64 z)).2.2.1; rw [HM.out] at hh; exact hh), HP.out, (HFF.out (.string p) (.int .i64 q) (.int .i64 s) (.int .i64 l) (.int .i64 z)).2.2.2⟩
  have e2 : (u == 2) = false := by simpa using u2
  have SF := S5
  clear S5
  go_upto_region 11 with fail
  obtain ⟨wf, hwf⟩ : ∃ wf, wf = w5 := ⟨_, rfl⟩
  subst hwf
  obtain ⟨y0, y1, y2, y3, y4, _⟩ := SF.out.xb.cells
  obtain ⟨a0, a1, a2, a3, a4, af⟩ := SF.out.ab.cells
  have f0 := af 0; have f1 := af 1; have f2 := af 2; have f3 := af 3; have f4 := af 4
  have HFF : Hid (∀ x0 x1 x2 x3 x4, En.Reads (((((wf.setCell ⟨A, 0, none⟩ x0).setCell ⟨A, 1, none⟩ x1).setCell ⟨A, 2, none⟩ x2).setCell ⟨A, 3, none⟩ x3).setCell ⟨A, 4, none⟩ x4).drew (.slice sa m sc) L ∧ Ft L ∧ m ≤ 301 ∧ Below w.heap.size w (((((wf.setCell ⟨A, 0, none⟩ x0).setCell ⟨A, 1, none⟩ x1).setCell ⟨A, 2, none⟩ x2).setCell ⟨A, 3, none⟩ x3).setCell ⟨A, 4, none⟩ x4).drew) := FIN.out _ _ _ _ _ _ _ SF.out
  clear af SF
  go_region
  all_goals go_wp2_with fail
  all_goals exact bodyPost_ret (v := .tuple #[.slice sa m sc, .agg #[.string p, .int .i64 t, .int .i64 s, .int .i64 l, .int .i64 z]]) (by simp [results, Try.results6, go_sem, a0, a1, a2, a3, a4]) rfl ⟨_, L, _, _, _, _, _, rfl, (HFF.out (.string p) (.int .i64 t) (.int .i64 s) (.int .i64 l) (.int .i64 z)).1, (HFF.out (.string p) (.int .i64 t) (.int .i64 s) (.int .i64 l) (.int .i64 z)).2.1, (by have hh := (HFF.out (.string p) (.int .i64 t) (.int .i64 s) (.int .i64 l) (.int .i64 z)).2.2.1; rw [HM.out] at hh; exact hh), HP.out, (HFF.out (.string p) (.int .i64 t) (.int .i64 s) (.int .i64 l) (.int .i64 z)).2.2.2⟩
end Go.Proofs.Ytfnkcoppdelmjaa.Ed
