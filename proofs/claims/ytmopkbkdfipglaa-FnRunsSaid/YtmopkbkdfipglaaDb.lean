/- DrawReadRuns: bytes drawn of bytes. -/
import Derived.Test.YtmopkbkdfipglaaDa
import Derived.Deep.RegionWith
namespace Go.Proofs.Ytmopkbkdfipglaa.Lists
open Go.ChangeShapes Go.WideShapes Go.ChangeAt Go.RowKit
theorem reads5 {w : World} {base n : Nat} {a : Option Addr} {c : Nat} {D : List Int} (h : w.ownsRow base 5 1 (.slice a n c) D.length (Bytes.bys D)) (hn : n = D.length) : Bytes.Reads w (.slice a n c) D := by
  subst hn
  exact Bytes.reads_row h
end Go.Proofs.Ytmopkbkdfipglaa.Lists
namespace Go.Proofs.Ytmopkbkdfipglaa.Rd
open Go.ChangeShapes Go.WideShapes Go.ChangeAt Go.RowKit
open Go.Proofs.Ytmopkbkdfipglaa.Lists (ints pks By)
open Go.Proofs.Ytmopkbkdfipglaa.Bytes (bys)

structure WB (r : Nat) (w wx : World) (v : Value) (D : List Int) : Prop where
  rd : Rd r wx
  tn : Turn r w wx
  row : wx.ownsRow w.heap.size 5 1 v D.length (bys D)
theorem row_turn5 {r B n : Nat} {w w' : World} {v : Value} {xs : List Value} (h : w.ownsRow B 5 1 v n xs) (t : Turn r w w') (hr : r < B) : w'.ownsRow B 5 1 v n xs := by
  refine ⟨h.1, ?_⟩
  rcases h.2 with a | ⟨g, cap, cur, a, b, c, d⟩
  · exact .inl a
  · have hl := (h.lt g (by rw [a]; rfl)).2
    exact .inr ⟨g, cap, cur, a, b, (t.abv g (by omega) hl).trans c, d⟩
theorem WB.turn {r : Nat} {w wx wy : World} {v : Value} {D : List Int} (h : WB r w wx v D) (hr : r < w.heap.size) (k : Rd r wy) (t : Turn r wx wy) : WB r w wy v D := ⟨k, h.tn.trans t, row_turn5 h.row t hr⟩
theorem WB.low {r : Nat} {w wx wy : World} {v : Value} {D : List Int} (h : WB r w wx v D) (hr : r < w.heap.size) (hb : Below w.heap.size wx wy) : Rd r wy ∧ Turn r w wy :=
  ⟨h.rd.kept hb hr, ⟨h.tn.bel.trans (hb.mono (by omega)), fun k h1 h2 => (hb.block k h2).trans (h.tn.abv k h1 h2)⟩⟩
theorem WB.drew {r : Nat} {w wx : World} {v : Value} {D : List Int} (h : WB r w wx v D) (hr : r < w.heap.size) : WB r w wx.drew v D := by
  obtain ⟨a, b⟩ := h.low hr (show Below w.heap.size wx wx.drew from ⟨rfl, rfl, rfl, Nat.le_refl _, fun _ _ => rfl⟩)
  exact ⟨a, b, h.row⟩
theorem WB.set {r : Nat} {w wx : World} {g n c : Nat} {D : List Int} (h : WB r w wx (.slice (some ⟨g, 0, none⟩) n c) D) (hn : n = D.length) (hr : r < w.heap.size) (j : Nat) (x : Int) : WB r w (wx.setCell ⟨g, j, none⟩ (.int .u8 x)) (.slice (some ⟨g, 0, none⟩) n c) (D.set j x) := by
  subst hn
  obtain ⟨a, b⟩ := h.low hr ((Below.refl _ _).setCell (p := ⟨g, j, none⟩) (h.row.lt g rfl).1 (.int .u8 x))
  refine ⟨a, b, ?_⟩
  rw [List.length_set, ← Bytes.bys_set]
  exact (h.row.stored j (.int .u8 x)).1
theorem u8_b (x : Int) : 0 ≤ IntKind.u8.wrap x ∧ IntKind.u8.wrap x < 256 := by
  simp [IntKind.wrap, IntKind.bits, IntKind.signed]
  omega
theorem xor_b (a b : Int) : 0 ≤ bits BinOp.xor IntKind.u8 a b ∧ bits BinOp.xor IntKind.u8 a b < 256 := u8_b _
theorem by_set {D : List Int} (h : By D) (j : Nat) {x : Int} (hx : 0 ≤ x ∧ x < 256) : By (D.set j x) := fun y hy => by
  rcases List.mem_or_eq_of_mem_set hy with q | q
  · exact h y q
  · rw [q]; exact hx
theorem pks_short (L : List Int) (h : L.length ≤ 60) : (pks L).length ≤ 600 := by
  unfold pks
  split
  · rename_i hs
    have hr := Lists.rg_sml.1 hs
    have h1 := Lists.byt_len (Lists.pkB L (Lists.ng L.length))
    have h2 := Lists.pkB_le hr (Lists.ng L.length) (Nat.le_refl _)
    have h4 : Lists.ng L.length = (L.length + 15) / 16 := rfl
    unfold Lists.pk
    omega
  · simp
def DR (w : World) (e : Ending) (w' : World) : Prop := ∃ v D, e = .returned v ∧ D.length ≤ 1048576 ∧ By D ∧ Bytes.Reads w' v D ∧ Below w.heap.size w w'

set_option maxRecDepth 20000 in
set_option maxHeartbeats 4000000 in
theorem drawRead_any (a : Option Addr) (n cap : Nat) (w : World) (h : Code w a n cap) (hn : n ≤ 1048576) : Calls Try.prog 21 #[.slice a n cap] w fun e w' => DR w e w' := by
  obtain ⟨i5, hi, hz0, hz1, hz2⟩ := info_parts Bytes.Try.info5
  have H : Hid (Code w a n cap) := h
  have HN : Hid (n ≤ 1048576) := hn
  clear h hn
  go_enter Try.func21, Try.ntmps21
  go_wp2_with fail
  refine (open_any _ a n cap rfl _).mono ?_
  rintro e w1 ⟨rfl, hw1⟩
  have K1 : Hid (Rd w.heap.size w1) := (by show Rd _ _; rw [hw1]; exact Rd.new H.out HN.out (Below.refl _ _))
  have B1 : Hid (Below w.heap.size w w1) := (by show Below _ _ _; rw [hw1]; exact (Below.refl _ _).alloc (Nat.le_refl _) _)
  clear hw1 H HN
  obtain ⟨r, hr⟩ : ∃ r, r = w.heap.size := ⟨_, rfl⟩
  have HR : Hid (r = w.heap.size) := hr
  rw [← hr] at K1 ⊢
  clear hr
  have r1 := K1.out.lt
  go_wp2_with fail
  refine (whole_any r w1 K1.out).mono ?_
  rintro e w2 ⟨v, L, rfl, l1, l2, S2⟩
  have P3 : Hid (Calls Try.prog 6 #[v] w2 fun e w' => ∃ v', e = .returned (.tuple #[v', .bool (Lists.sml 1099511627776 L)]) ∧ w'.ownsRow w2.heap.size 5 1 v' (pks L).length (bys (pks L)) ∧ Below w2.heap.size w2 w') := Lists.spackm_any w2 v L (Lists.reads_row S2.row) (by omega)
  have S2 : Hid (WS r w1 w2 v L) := S2
  clear K1
  go_wp2_with fail
  refine P3.out.mono ?_
  rintro e w3 ⟨vb, rfl, o3, b3⟩
  have hp := pks_short L l1
  obtain ⟨D0, hD0⟩ : ∃ D0, D0 = pks L := ⟨_, rfl⟩
  rw [← hD0] at o3 hp
  have HB : Hid (By D0) := (by
    show By _
    rw [hD0]
    unfold pks
    split
    · exact Lists.byt_by _ (Lists.pkB_01 _ _)
    · intro x hx; cases hx)
  have z2 := S2.out.tn.size
  have W3 : Hid (WB r w1 w3 vb D0) := (by
    show WB _ _ _ _ _
    have t3 : Turn r w1 w3 := ⟨S2.out.tn.bel.trans (b3.mono (by omega)), fun k h1 h2 => (b3.block k (by omega)).trans (S2.out.tn.abv k h1 h2)⟩
    exact ⟨S2.out.rd.kept b3 (by omega), t3, Lists.row_lift o3 z2⟩)
  have FIN : Hid (∀ wx D v', By D → D.length ≤ 200000 → Bytes.Reads wx v' D → Turn r w1 wx → DR w (.returned v') wx) := fun wx D v' hb hl hli ht =>
    ⟨v', D, rfl, by omega, hb, hli, B1.out.trans (by have := ht.bel; rw [HR.out] at this; exact this)⟩
  obtain ⟨ba, bc, ev⟩ := Lists.row_form o3
  obtain ⟨nb, hnb⟩ : ∃ nb, nb = D0.length := ⟨_, rfl⟩
  rw [← hnb] at ev
  subst ev
  have HNB : Hid (nb = D0.length) := hnb
  have nbl : nb ≤ 600 := by omega
  clear P3 S2 o3 b3 hD0 z2 hp hnb
  by_cases h0 : nb = 0
  · have i0 : ((nb : Int) == 0) = true := by simp; omega
    have FX : Hid (DR w (.returned (.slice (some ⟨w3.heap.size, 0, none⟩) 2 2)) (w3.alloc (Obj.cells #[.int .u8 0, .int .u8 0] 5))) := (by
      show DR _ _ _
      have hz := W3.out.tn.size
      obtain ⟨q1, q2⟩ := W3.out.low r1 ((Below.refl _ _).alloc hz (Obj.cells #[.int .u8 0, .int .u8 0] 5))
      refine FIN.out _ [0, 0] _ (by intro x hx; simp at hx; omega) (by simp) (.inr ⟨w3.heap.size, 0, 2, rfl, by simp, by unfold maxLen; omega, by simp, fun i hi => ?_⟩) q2
      have : i = 0 ∨ i = 1 := by simp at hi; omega
      rcases this with rfl | rfl <;> simp [go_sem])
    clear W3 h0
    go_wp2_with fail
    go_ret
    exact FX.out
  have i0 : ((nb : Int) == 0) = false := by simp; omega
  obtain ⟨g, eg, g1, g2, g3⟩ : ∃ g, ba = some ⟨g, 0, none⟩ ∧ nb ≤ bc ∧ bc ≤ maxLen ∧ w1.heap.size ≤ g := by
    have hrow := W3.out.row
    rw [← HNB.out] at hrow
    obtain ⟨g, h1, h2, h3, h4, h5, h6⟩ := Lists.row_bits hrow HNB.out.symm 0 (by omega)
    exact ⟨g, h1, h2, h3, h5⟩
  subst eg
  have C : Hid (Calls Try.prog 31 #[.pointer (some ⟨r, 0, none⟩), .int .i64 6] w3 (Drawn r w3 fun u => 0 ≤ u ∧ u < 6)) := below_any r w3 W3.out.rd 6 (by omega) (by omega)
  have nb1 : 0 < nb := by omega
  clear h0
  go_wp2_with fail
  refine C.out.mono ?_
  rintro e w4 ⟨⟨u, ⟨u1, u2⟩, rfl⟩, k4, t4⟩
  have W4 : Hid (WB r w1 w4 (.slice (some ⟨g, 0, none⟩) nb bc) D0) := W3.out.turn r1 k4 t4
  clear C k4 t4 W3
  by_cases e0 : u = 0
  · subst e0
    have CE : Hid (∀ W, WB r w1 W (.slice (some ⟨g, 0, none⟩) nb bc) D0 → ∀ j, j < nb → W.cell? ⟨g, j, none⟩ = some (.int .u8 (D0.getD j 0)) ∧ W.frozen? ⟨g, j, none⟩ = false) := fun W hW j hj => by
      have hrow := hW.row
      rw [← HNB.out] at hrow
      exact ⟨Bytes.row_cell (L := D0) (cap := bc) (by rw [← HNB.out]; exact hrow) j (by have := HNB.out; omega), hrow.frozenAt j⟩
    go_upto_region 7 with fail
    have D4 := W4.out
    have D4d := W4.out.drew r1
    have CN : Hid (∀ W, WB r w1 W (.slice (some ⟨g, 0, none⟩) nb bc) D0 → Calls Try.prog 31 #[.pointer (some ⟨r, 0, none⟩), .int .i64 (nb : Int)] W fun e w' => (∃ x : Nat, x < nb ∧ e = .returned (.int .i64 (x : Int))) ∧ WB r w1 w' (.slice (some ⟨g, 0, none⟩) nb bc) D0 ∧ Turn r W w') := fun W hW => by
      refine (below_all r W hW.rd nb nb1 (by omega)).mono ?_
      rintro e wA ⟨⟨x, ⟨x1, x2⟩, rfl⟩, kA, tA⟩
      have x2' : x < (nb : Int) := x2
      exact ⟨⟨x.toNat, by omega, by rw [Int.toNat_of_nonneg x1]⟩, hW.turn r1 kA tA, tA⟩
    have C8 : Hid (∀ W, WB r w1 W (.slice (some ⟨g, 0, none⟩) nb bc) D0 → Calls Try.prog 31 #[.pointer (some ⟨r, 0, none⟩), .int .i64 8] W fun e w' => (∃ y : Nat, y < 8 ∧ e = .returned (.int .i64 (y : Int))) ∧ WB r w1 w' (.slice (some ⟨g, 0, none⟩) nb bc) D0 ∧ Turn r W w') := fun W hW => by
      refine (below_any r W hW.rd 8 (by omega) (by omega)).mono ?_
      rintro e wA ⟨⟨x, ⟨x1, x2⟩, rfl⟩, kA, tA⟩
      have x2' : x < 8 := x2
      exact ⟨⟨x.toNat, by omega, by rw [Int.toNat_of_nonneg x1]⟩, hW.turn r1 kA tA, tA⟩
    clear W4
    go_region_with (first
      | (go_at_call_of 31 (Value.int .i64 (nb : Int)); refine (CN.out _ (by assumption)).mono ?_; rintro e wA ⟨⟨x, x2, rfl⟩, DA, _⟩; (have ca := (CE.out wA DA x x2).1); (have fa := (CE.out wA DA x x2).2); (have x4 : (x : Int) < (nb : Int) := by omega); (have x5 : (0 : Int) ≤ (x : Int) := by omega))
      | (go_at_call_of 31 (Value.int .i64 8); refine (C8.out _ (by assumption)).mono ?_; rintro e wB ⟨⟨y, y2, rfl⟩, DB, _⟩; (first | ((have cb := (CE.out wB DB x x2).1); (have fb := (CE.out wB DB x x2).2)) | skip); (have y5 : (0 : Int) ≤ (y : Int) := by omega)))
    all_goals
      clear ca fa cb fb
      obtain ⟨val, hval⟩ : ∃ val, val = bits BinOp.xor IntKind.u8 (D0[x]?.getD 0) (IntKind.u8.wrap (2 ^ min (IntKind.u64.wrap (y : Int)).toNat 8)) := ⟨_, rfl⟩
      rw [← hval]
      have vb : 0 ≤ val ∧ val < 256 := by rw [hval]; exact xor_b _ _
      have WE := DB.set HNB.out r1 x val
      have FX : Hid (DR w (.returned (.slice (some ⟨g, 0, none⟩) nb bc)) (wB.setCell ⟨g, x, none⟩ (.int .u8 val))) := FIN.out _ (D0.set x val) _ (by_set HB.out x vb) (by rw [List.length_set]; have := HNB.out; omega) (Lists.reads5 WE.row (by rw [List.length_set]; exact HNB.out)) WE.tn
      clear hval WE D4 D4d DA DB
      go_wp2_with fail
      go_ret
      exact FX.out
  have e0' : (u == 0) = false := beq_eq_false_iff_ne.2 e0
  by_cases e1 : u = 1
  · subst e1
    obtain ⟨m, hm⟩ : ∃ m, m = nb - 1 := ⟨_, rfl⟩
    have em : (nb : Int) - 1 = (m : Int) := by omega
    have FX : Hid (DR w (.returned (.slice (some ⟨g, 0, none⟩) m bc)) w4) := (by
      show DR _ _ _
      refine FIN.out w4 (D0.take m) _ (fun x hx => HB.out x (List.mem_of_mem_take hx)) (by rw [List.length_take]; omega) (.inr ⟨g, 0, bc, by rw [List.length_take]; rw [← HNB.out, show min m nb = m by omega], by rw [List.length_take]; omega, g2, (W4.out.row.lt g rfl).2, fun i hi => ?_⟩) W4.out.tn
      rw [List.length_take] at hi
      have := Bytes.row_cell (L := D0) (by rw [← HNB.out]; have h := W4.out.row; rw [← HNB.out] at h; exact h) i (by omega)
      rw [Nat.zero_add, this]
      simp [List.getD_eq_getElem?_getD, show i < m by omega])
    have m1 : (m : Int) ≤ (bc : Int) := by omega
    have m2 : (0 : Int) ≤ (m : Int) := by omega
    unfold maxLen at g2
    clear W4 hm
    go_wp2_with fail
    go_ret
    exact FX.out
  have e1' : (u == 1) = false := beq_eq_false_iff_ne.2 e1
  by_cases e2 : u = 2
  · subst e2
    have RQ := W4.out.row
    rw [← HNB.out] at RQ
    have szz := W4.out.tn.size
    have W4' := W4
    clear W4
    go_wp2_with (at_builtin; refine wpList_append_own_at _ rfl _ _ 23 rfl w1.heap.size 5 i5 (.int .u8 0) 1 1 Try.underlying23 hi hz0 hz1 hz2 rfl (by decide) _ _ _ rfl (RQ.alloc _) ⟨w4.heap.size, 0, none⟩ 1 1 [.int .u8 0] rfl rfl (cell_one_new _ _ _) (by intro u hu; simp at hu; subst hu; rfl) (by unfold maxLen; omega) (by omega) (by simp; omega) ?_)
    intro v' w5 hown hgrow _ _
    have hb : Below w1.heap.size w4 w5 := ((Below.refl w1.heap.size w4).alloc szz _).grown hgrow (by simp; omega) (fun g e => (RQ.lt g e).1)
    obtain ⟨q1, q2⟩ := W4'.out.low r1 hb
    obtain ⟨xa, xc, ev⟩ := Lists.row_form hown
    subst ev
    have FX : Hid (DR w (.returned (.slice xa (nb + 1) xc)) w5) := (by
      show DR _ _ _
      refine FIN.out w5 (D0 ++ [0]) _ (fun x hx => by rcases List.mem_append.1 hx with h | h; exact HB.out x h; simp at h; omega) (by rw [List.length_append, ← HNB.out]; simp; omega) ?_ q2
      have := Bytes.reads_row (w := w5) (base := w1.heap.size) (v := .slice xa (nb + 1) xc) (L := D0 ++ [0]) (by rw [List.length_append, ← HNB.out, show bys (D0 ++ [0]) = bys D0 ++ [.int .u8 0] by simp]; exact hown)
      exact this)
    clear hown hgrow RQ W4' hb q1 q2
    go_wp2_with fail
    go_ret
    exact FX.out
  have e2' : (u == 2) = false := beq_eq_false_iff_ne.2 e2
  have FX : Hid (DR w (.returned (.slice (some ⟨g, 0, none⟩) nb bc)) w4) := FIN.out w4 D0 _ HB.out (by have := HNB.out; omega) (by have := Lists.reads5 W4.out.row HNB.out; exact this) W4.out.tn
  by_cases e3 : u = 3
  · subst e3
    by_cases h8 : 8 < nb
    · have j8 : (8 : Int) < (nb : Int) := by omega
      have C : Hid (Calls Try.prog 31 #[.pointer (some ⟨r, 0, none⟩), .int .i64 50] w4 (Drawn r w4 fun u => 0 ≤ u ∧ u < 50)) := below_any r w4 W4.out.rd 50 (by omega) (by omega)
      go_wp2_with fail
      refine C.out.mono ?_
      rintro e w5 ⟨⟨y, ⟨y1, y2⟩, rfl⟩, k5, t5⟩
      have W5 : WB r w1 w5 (.slice (some ⟨g, 0, none⟩) nb bc) D0 := W4.out.turn r1 k5 t5
      have hrow := W5.row
      rw [← HNB.out] at hrow
      have c8 := Bytes.row_cell (L := D0) (cap := bc) (by rw [← HNB.out]; exact hrow) 8 (by have := HNB.out; omega)
      have f8 : w5.frozen? ⟨g, 8, none⟩ = false := hrow.frozenAt 8
      have y8 : y % 256 = y := by omega
      have W6 := W5.set HNB.out r1 8 y
      have F2 : Hid (DR w (.returned (.slice (some ⟨g, 0, none⟩) nb bc)) (w5.setCell ⟨g, 8, none⟩ (.int .u8 y))) := FIN.out _ (D0.set 8 y) _ (by_set HB.out 8 (by omega)) (by rw [List.length_set]; have := HNB.out; omega) (Lists.reads5 W6.row (by rw [List.length_set]; exact HNB.out)) W6.tn
      obtain ⟨z8, hz8⟩ : ∃ z8, z8 = D0.getD 8 0 := ⟨_, rfl⟩
      rw [← hz8] at c8
      clear k5 t5 W5 hrow W6 C FX W4 hz8
      go_wp2_with fail
      go_ret
      exact F2.out
    · have j8 : ¬ (8 : Int) < (nb : Int) := by omega
      clear W4
      go_wp2_with fail
      go_ret
      exact FX.out
  have e3' : (u == 3) = false := beq_eq_false_iff_ne.2 e3
  clear W4
  go_wp2_with fail
  go_ret
  exact FX.out
end Go.Proofs.Ytmopkbkdfipglaa.Rd
