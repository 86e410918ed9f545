/- A number written bit by bit. -/
import Derived.Test.YtmopkbkdfipglaaBp
import Derived.BigRegion
import Derived.Maps.AppendAt
namespace Go.Proofs.Ytmopkbkdfipglaa.Lists
open Go.ChangeShapes Go.WideShapes Go.ChangeAt Go.RowKit
open Go.Proofs.Ytmopkbkdfipglaa.Bytes (bys)

def fre (B : List Int) : Nat := (8 - B.length % 8) % 8
def BW (w : World) (base b : Nat) (v : Value) (B : List Int) : Prop :=
  base ≤ b ∧ Bl w b 90 #[v, .int .i64 (fre B : Int)] ∧ w.ownsRow base 5 1 v (byt B).length (bys (byt B)) ∧ B01 B
theorem or_bits (a b : Int) (ha : 0 ≤ a ∧ a < 256) (hb : 0 ≤ b ∧ b < 256) : bits BinOp.or IntKind.u8 a b = orB a b := by
  obtain ⟨x, rfl⟩ : ∃ x : Nat, a = x := ⟨a.toNat, by omega⟩
  obtain ⟨y, rfl⟩ : ∃ y : Nat, b = y := ⟨b.toNat, by omega⟩
  have hx : x < 2 ^ 8 := by omega
  have hy : y < 2 ^ 8 := by omega
  have h1 : (BitVec.ofInt 8 (x : Int) ||| BitVec.ofInt 8 (y : Int)).toNat = x ||| y := by
    rw [BitVec.toNat_or]
    simp only [BitVec.ofInt_natCast, BitVec.toNat_ofNat]
    rw [Nat.mod_eq_of_lt hx, Nat.mod_eq_of_lt hy]
  show IntKind.u8.wrap ((BitVec.ofInt 8 (x : Int) ||| BitVec.ofInt 8 (y : Int)).toNat : Int) = orB x y
  rw [h1]
  have := Nat.or_lt_two_pow hx hy
  show IntKind.u8.wrap ((x ||| y : Nat) : Int) = ((((x : Int).toNat ||| (y : Int).toNat : Nat)) : Int)
  simp only [Int.toNat_natCast]
  simp [IntKind.wrap, IntKind.bits, IntKind.signed]
  omega

theorem kb_grown {S : Nat → Prop} {w wr w9 : World} {row : Option Nat} (h : KB S w wr) (hg : wr.grownBy w9 row) (hr : ∀ k, row = some k → S k ∨ w.heap.size ≤ k) : KB S w w9 :=
  ⟨hg.os.trans h.os, hg.tape.trans h.tape, hg.output.trans h.output, Nat.le_trans h.size hg.size, fun k hk hn => (hg.block k (Nat.lt_of_lt_of_le hk h.size) (fun e => by
    rcases hr k e.symm with q | q
    · exact hn q
    · omega)).trans (h.block k hk hn)⟩

set_option maxHeartbeats 1000000 in
theorem iwrite_any (w : World) (base b : Nat) (v : Value) (B : List Int) (x : Int) (n : Nat) (hx : 0 ≤ x ∧ x < 18446744073709551616) (hn : n ≤ 64) (h : BW w base b v B) (hl : B.length ≤ 100000000) :
    Calls Try.prog 62 #[.pointer (some ⟨b, 0, none⟩), .int .u64 x, .int .i64 (n : Int)] w fun e w' => e = .returned (.tuple #[]) ∧ ∃ v', BW w' base b v' (B ++ bts x n) ∧ (v'.ownBlock = v.ownBlock ∨ ∀ k, v'.ownBlock = some k → w.heap.size ≤ k) ∧ KB (fun k => k = b ∨ v.ownBlock = some k) w w' := by
  obtain ⟨i5, hi, hz0, hz1, hz2⟩ := info_parts Bytes.Try.info5
  have H0 : Hid (BW w base b v (B ++ btk x n 0)) := (by show BW _ _ _ _ _; rw [show btk x n 0 = [] from rfl, List.append_nil]; exact h)
  have HL : Hid (B.length ≤ 100000000) := hl
  have HX : Hid (0 ≤ x ∧ x < 18446744073709551616) := hx
  have K0 : Hid (KB (fun k => k = b ∨ v.ownBlock = some k) w w) := KB.refl _ _
  clear h hl hx
  go_enter Try.func62, Try.ntmps62
  go_wp2_with fail
  go_loopw [6] (fun at' wr => ∃ k : Nat, k ≤ n ∧ at' = .int .i64 ((n : Int) - 1 - (k : Int)) ∧ ∃ v', Hid (BW wr base b v' (B ++ btk x n k)) ∧ Hid (v'.ownBlock = v.ownBlock ∨ ∀ k, v'.ownBlock = some k → w.heap.size ≤ k) ∧ Hid (KB (fun k => k = b ∨ v.ownBlock = some k) w wr)) (fun at' _ => (intOf at' + 1).toNat)
  case atStart => exact ⟨0, Nat.zero_le _, by go_num, v, H0, .inl rfl, K0⟩
  case round =>
    obtain ⟨k, hk, rfl, v', HB, HV, HK⟩ := hrel
    clear H0 K0
    by_cases hkn : k < n
    · obtain ⟨t, ht⟩ : ∃ t : Nat, t = n - 1 - k := ⟨_, rfl⟩
      have HT : Hid (t = n - 1 - k) := ht
      have et : (n : Int) - 1 - (k : Int) = (t : Int) := by omega
      rw [et]
      have t0 : (0 : Int) ≤ (t : Int) := by omega
      have t6 : t ≤ 63 := by omega
      obtain ⟨C, hC⟩ : ∃ C, C = B ++ btk x n k := ⟨_, rfl⟩
      have HC : Hid (C = B ++ btk x n k) := hC
      have CL : Hid (C.length = B.length + k) := (by show _ = _; rw [hC, List.length_append, btk_len])
      have CS : Hid (B ++ btk x n (k + 1) = C ++ [x / 2 ^ t % 2]) := (by show _ = _; rw [btk_snoc, ← List.append_assoc, hC, ht]; rfl)
      rw [← hC] at HB
      clear hC
      obtain ⟨q, hq⟩ : ∃ q, q = x / 2 ^ t := ⟨_, rfl⟩
      have q01 : 0 ≤ q ∧ q < 18446744073709551616 := by
        have := HX.out
        rw [hq]
        exact ⟨Int.ediv_nonneg this.1 (Int.le_of_lt (Int.pow_pos (by omega))), Int.lt_of_le_of_lt (Int.ediv_le_self _ this.1) this.2⟩
      rw [← hq] at CS
      obtain ⟨z, hz⟩ : ∃ z, z = q % 2 := ⟨_, rfl⟩
      have z01 : z = 0 ∨ z = 1 := by omega
      rw [← hz] at CS
      have HZ : Hid (z = x / 2 ^ t % 2 ∧ 0 ≤ x / 2 ^ t ∧ x / 2 ^ t < 18446744073709551616) := (by show _ ∧ _; rw [hz, hq]; rw [hq] at q01; exact ⟨rfl, q01⟩)
      clear ht hq hz q01
      have zu : IntKind.u8.wrap z = z := by rcases z01 with rfl | rfl <;> rfl
      by_cases h8 : C.length % 8 = 0
      · obtain ⟨s, hs⟩ : ∃ s, s = 7 - C.length % 8 := ⟨_, rfl⟩
        have SH : Hid (s = 7 - C.length % 8) := hs
        have e7' : s = 7 := by omega
        have ef : fre C = 0 := by unfold fre; omega
        have s7 : s ≤ 7 := by omega
        have L0 := HB.out.2.1
        rw [ef] at L0
        have c0 := L0.cell 0
        have c1 := L0.cell 1
        have M8 : Hid (C.length % 8 = 0) := h8
        simp at c0 c1
        have dl : Hid ((byt C).length ≤ 100000000) := (by show _ ≤ _; have := byt_len C; have := CL.out; have := HL.out; omega)
        obtain ⟨D, hD⟩ : ∃ D, D = byt C := ⟨_, rfl⟩
        obtain ⟨d, hd⟩ : ∃ d, d = D.length := ⟨_, rfl⟩
        have DE : Hid (D = byt C ∧ D.length = d ∧ d ≤ 100000000) := (by show _ ∧ _; have := dl.out; exact ⟨hD, hd.symm, by rw [hd, hD]; exact this⟩)
        have OD : Hid (wr.ownsRow base 5 1 v' d (bys D)) := (by show World.ownsRow _ _ _ _ _ _ _; rw [hd, hD]; exact HB.out.2.2.1)
        have d8 : d ≤ 100000000 := DE.out.2.2
        have bsz : base ≤ wr.heap.size := Nat.le_trans HB.out.1 (Nat.le_of_lt L0.lt)
        obtain ⟨va, vc, ev⟩ := row_form OD.out
        have VE : Hid (v' = .slice va d vc) := ev
        rw [ev] at c0
        clear hs ef h8 hD hd dl ev
        go_wp2_with (at_builtin; refine wpList_append_own_at _ rfl _ _ 23 rfl base 5 i5 (.int .u8 0) 1 1 Try.underlying23 hi hz0 hz1 hz2 rfl (by decide) _ _ _ rfl (by rw [← VE.out]; exact OD.out.alloc _) ⟨wr.heap.size, 0, none⟩ 1 1 [.int .u8 0] rfl rfl (cell_one_new _ _ _) (by intro u hu; simp at hu; subst hu; rfl) (by unfold maxLen; omega) (by omega) (by simp; omega) ?_)
        intro v_9 w9 hown hgrow _ hat
        obtain ⟨a9, c9, ev9⟩ := row_form hown
        subst ev9
        have L9 : Bl w9 b 90 #[v', .int .i64 0] := (by
          have la : Bl (wr.alloc (.cells #[.int .u8 0] 5)) b 90 #[v', .int .i64 0] := L0.on ((Below.refl _ _).alloc (Nat.le_refl _) _)
          refine (hgrow.block b la.lt fun e => ?_).trans la
          rw [← VE.out] at e
          exact HB.out.2.1.ty.ne (row_ty OD.out b e.symm) (by decide) rfl)
        have L10 : Bl (w9.setCell ⟨b, 0, none⟩ (.slice a9 (d + 1) c9)) b 90 #[(.slice a9 (d + 1) c9), .int .i64 0] := L9.set 0 (.slice a9 (d + 1) c9)
        have L11 : Bl ((w9.setCell ⟨b, 0, none⟩ (.slice a9 (d + 1) c9)).setCell ⟨b, 1, none⟩ (.int .i64 8)) b 90 #[(.slice a9 (d + 1) c9), .int .i64 8] := L10.set 1 _
        have L12 : Bl (((w9.setCell ⟨b, 0, none⟩ (.slice a9 (d + 1) c9)).setCell ⟨b, 1, none⟩ (.int .i64 8)).setCell ⟨b, 1, none⟩ (.int .i64 7)) b 90 #[(.slice a9 (d + 1) c9), .int .i64 7] := L11.set 1 _
        have z0 := L9.cell 0
        have z1 := L9.fz 0
        have z2 := L10.cell 1
        have z3 := L10.fz 1
        have z4 := L11.cell 1
        have z5 := L11.fz 1
        simp at z0 z2 z4
        have H9 : Hid (w9.ownsRow base 5 1 (.slice a9 (d + 1) c9) (d + 1) (bys (D ++ [0]))) := (by
          show World.ownsRow _ _ _ _ _ _ _
          have e : bys (D ++ [0]) = bys D ++ [.int .u8 0] := by simp
          rw [e]
          exact hown)
        have K9 : Hid (KB (fun k => k = b ∨ v.ownBlock = some k) w w9) := kb_grown (kb_grown HK.out (Below.grownBy ((Below.refl _ _).alloc (Nat.le_refl _) _) none) (fun k e => by cases e)) hgrow (fun k e => by
          rw [← VE.out] at e
          rcases HV.out with q | q
          · exact .inl (.inr (by rw [← q]; exact e))
          · exact .inr (q k e))
        have HV9 : Hid ((Value.slice a9 (d + 1) c9).ownBlock = v.ownBlock ∨ ∀ k, (Value.slice a9 (d + 1) c9).ownBlock = some k → w.heap.size ≤ k) := (by
          show _ ∨ _
          rcases hat with q | q
          · rw [← VE.out] at q
            rw [q]; exact HV.out
          · refine .inr fun k e => ?_
            rw [q] at e
            have := Option.some.inj e
            have := HK.out.size
            simp at *
            omega)
        have LL12 : Hid (Bl (((w9.setCell ⟨b, 0, none⟩ (.slice a9 (d + 1) c9)).setCell ⟨b, 1, none⟩ (.int .i64 8)).setCell ⟨b, 1, none⟩ (.int .i64 7)) b 90 #[(.slice a9 (d + 1) c9), .int .i64 7]) := L12
        have LL9 : Hid (Bl w9 b 90 #[v', .int .i64 0]) := L9
        clear hown hgrow hat L0 L9 L10 L11 L12 c0 c1
        go_wp2_with fail
        obtain ⟨W, hW⟩ : ∃ W, W = ((w9.setCell ⟨b, 0, none⟩ (.slice a9 (d + 1) c9)).setCell ⟨b, 1, none⟩ (.int .i64 8)).setCell ⟨b, 1, none⟩ (.int .i64 7) := ⟨_, rfl⟩
        rw [← hW]
        have LW : Hid (Bl W b 90 #[(.slice a9 (d + 1) c9), .int .i64 (s : Int)]) := (by show Bl _ _ _ _; rw [hW, e7']; exact LL12.out)
        have KW1 : KB (fun k => k = b) w9 W := (by rw [hW]; exact ((kb_set _ _ _ _).trans (kb_set _ _ _ _)).trans (kb_set _ _ _ _))
        have KW : Hid (KB (fun k => k = b ∨ v.ownBlock = some k) w W) := K9.out.trans (KW1.mono fun k e => .inl e)
        obtain ⟨E, hE⟩ : ∃ E, E = D ++ [0] := ⟨_, rfl⟩
        obtain ⟨l, hl⟩ : ∃ l, l = d + 1 := ⟨_, rfl⟩
        have EL : Hid (E.length = l ∧ 0 < l) := (by show _ ∧ _; rw [hl, hE, List.length_append, DE.out.2.1]; simp)
        have EB : Hid (By E) := (by
          show By E
          rw [hE, DE.out.1]
          intro q hq
          rcases List.mem_append.1 hq with h | h
          · exact byt_by C HB.out.2.2.2 q h
          · simp at h; omega)
        have LM : Hid (l ≤ 100000001) := (by show _ ≤ _; omega)
        have OW : Hid (W.ownsRow base 5 1 (.slice a9 (d + 1) c9) l (bys E)) := (by
          show World.ownsRow _ _ _ _ _ _ _
          rw [hl, hE]
          exact row_kb H9.out KW1 fun g hg e => (LL9.out.ty.ne (row_ty H9.out g hg) (by decide)) e.symm)
        have EN : Hid (E.set (l - 1) (orB (E.getD (l - 1) 0) (z * 2 ^ s)) = byt (C ++ [z])) := (by
          show _ = _
          have e1 : (D ++ [(0 : Int)]).getD d 0 = 0 := by
            rw [← DE.out.2.1]
            simp [List.getD_eq_getElem?_getD]
          rw [byt_snoc, byS, if_pos M8.out, hl, hE, e7', Nat.add_sub_cancel, e1, ← DE.out.1, ← DE.out.2.1, List.set_append_right _ _ (Nat.le_refl _), Nat.sub_self]
          rfl)
        clear hE hl hW z0 z1 z2 z3 z4 z5 KW1 H9 K9 e7'
        obtain ⟨ga, c, eu⟩ := row_form OW.out
        obtain ⟨u, hu⟩ : ∃ u : Value, u = (.slice a9 (d + 1) c9) := ⟨_, rfl⟩
        rw [← hu] at OW eu
        have HU : Hid (u = (.slice a9 (d + 1) c9)) := hu
        clear hu
        subst eu
        have lE : 0 < l := by have := EL.out; omega
        obtain ⟨g, eg, gl, ce, fz⟩ : ∃ g, ga = some ⟨g, 0, none⟩ ∧ g < W.heap.size ∧ W.cell? ⟨g, l - 1, none⟩ = some (.int .u8 (E.getD (l - 1) 0)) ∧ W.frozen? ⟨g, l - 1, none⟩ = false := by
          rcases OW.out.2 with ⟨h1, h2⟩ | ⟨gf, cap, cur, h1, h2, h3, h4, h5, h6⟩
          · omega
          · injection h1 with h1 _ h1c
            subst h1 h1c
            refine ⟨gf, rfl, (OW.out.lt gf rfl).2, ?_, OW.out.frozenAt (l - 1)⟩
            exact Bytes.row_cell (L := E) (by rw [EL.out.1]; exact OW.out) (l - 1) (by rw [EL.out.1]; omega)
        subst eg
        obtain ⟨l1, hl1⟩ : ∃ l1, l1 = l - 1 := ⟨_, rfl⟩
        rw [← hl1] at ce fz
        have i1 : (l : Int) - 1 = (l1 : Int) := by omega
        have i2 : (l1 : Int) < (l : Int) := by omega
        have i3 : (0 : Int) ≤ (l1 : Int) := by omega
        have lm : l ≤ 100000001 := LM.out
        have HL1 : Hid (l1 = l - 1) := hl1
        clear hl1
        obtain ⟨e, he⟩ : ∃ e, e = E.getD l1 0 := ⟨_, rfl⟩
        have eb := getD_by EB.out l1
        obtain ⟨y, hy⟩ : ∃ y, y = z * 2 ^ s := ⟨_, rfl⟩
        have yb := sh_by z01 s s7
        have NV : Hid (bits BinOp.or IntKind.u8 e (bits BinOp.and IntKind.u64 (x / 2 ^ t) 1 % 256 * 2 ^ s % 256) = orB e y) := (by
          show _ = _
          obtain ⟨h1, h2, h3⟩ := HZ.out
          rw [and_one_u64 _ h2 (by omega), ← h1, show z % 256 = z by omega, ← hy, show y % 256 = y by rw [hy]; omega]
          exact or_bits e y (by rw [he]; exact eb) (by rw [hy]; exact yb))
        have NB : Hid (byt (C ++ [z]) = E.set l1 (orB e y)) := (by show _ = _; rw [he, hy, HL1.out]; exact EN.out.symm)
        rw [← he] at ce
        clear he hy eb yb
        have cW0 := LW.out.cell 0
        have cW1 := LW.out.cell 1
        simp at cW0 cW1
        rw [← HU.out] at cW0
        go_region
        rw [NV.out]
        obtain ⟨W2, hW2⟩ : ∃ W2, W2 = (W.setCell ⟨g, l1, none⟩ (.int .u8 (orB e y))).drew := ⟨_, rfl⟩
        rw [← hW2]
        have GB2 : W.grownBy W2 (some g) := by rw [hW2]; exact grown_drewN (grown_setCell (World.grownBy.refl W (some g)) l1 (.int .u8 (orB e y))) 1
        have KB2 : KB (fun k => k = g) W W2 := KB.of_grown GB2 (fun k e => (Option.some.inj e).symm)
        have R2 : W2.ownsRow base 5 1 (.slice (some ⟨g, 0, none⟩) l c) l (bys (E.set l1 (orB e y))) := by rw [hW2, ← Bytes.bys_set]; exact (OW.out.stored l1 (.int .u8 (orB e y))).1
        have bg : ¬ b = g := (LW.out.ty.ne (row_ty OW.out g rfl) (by decide))
        have L2 : Bl W2 b 90 #[.slice (some ⟨g, 0, none⟩) l c, .int .i64 (s : Int)] := by rw [HU.out]; exact LW.out.kb KB2 bg
        have HB2 : Hid (BW W2 base b (.slice (some ⟨g, 0, none⟩) l c) (B ++ btk x n (k + 1))) := (by
          show BW _ _ _ _ _
          have l8 : (C ++ [z]).length = C.length + 1 := by simp
          refine ⟨HB.out.1, ?_, ?_, ?_⟩
          · rw [CS.out, show fre (C ++ [z]) = s by unfold fre; have := SH.out; rw [l8]; omega]; exact L2
          · rw [CS.out, NB.out, List.length_set, EL.out.1]; exact R2
          · rw [CS.out]; exact HB.out.2.2.2.app (fun y hy => by simp at hy; rw [hy]; exact z01))
        have HV2 : Hid ((Value.slice (some ⟨g, 0, none⟩) l c).ownBlock = v.ownBlock ∨ ∀ k, (Value.slice (some ⟨g, 0, none⟩) l c).ownBlock = some k → w.heap.size ≤ k) := (by rw [HU.out]; exact HV9.out)
        have HK2 : Hid (KB (fun k => k = b ∨ v.ownBlock = some k) w W2) := kb_grown KW.out GB2 (fun k e => by
          rcases HV2.out with q | q
          · exact .inl (.inr (by rw [← q, ← e]; rfl))
          · exact .inr (q k e))
        clear hW2 KB2 GB2 R2 bg L2 LW OW HV HK NB HB KW EN HV9
        go_wp2_with fail
        go_roundw
        case rel => exact ⟨k + 1, by omega, by go_num, _, HB2, HV2, HK2⟩
        case measure => simp [intOf] <;> have := HT.out <;> omega
      · obtain ⟨s, hs⟩ : ∃ s, s = 7 - C.length % 8 := ⟨_, rfl⟩
        have SH : Hid (s = 7 - C.length % 8) := hs
        have ef : fre C = s + 1 := by unfold fre; omega
        have s7 : s ≤ 7 := by omega
        have L0 := HB.out.2.1
        rw [ef] at L0
        have c0 := L0.cell 0
        have c1 := L0.cell 1
        have f1 := L0.fz 1
        have ne0 : ((((s + 1 : Nat) : Int)) == 0) = false := by simp; omega
        have e7 : ((s + 1 : Nat) : Int) - 1 = (s : Int) := by omega
        have M8 : Hid (C.length % 8 ≠ 0) := h8
        simp at c0 c1
        clear hs ef h8
        go_wp2_with fail
        obtain ⟨W, hW⟩ : ∃ W, W = wr.setCell ⟨b, 1, none⟩ (.int .i64 (s : Int)) := ⟨_, rfl⟩
        rw [← hW]
        have LW : Hid (Bl W b 90 #[v', .int .i64 (s : Int)]) := (by show Bl _ _ _ _; rw [hW]; exact L0.set 1 _)
        have KW1 : KB (fun k => k = b) wr W := (by rw [hW]; exact KB.of_set _ _ _ _ rfl)
        have KW : Hid (KB (fun k => k = b ∨ v.ownBlock = some k) w W) := HK.out.trans (KW1.mono fun k e => .inl e)
        obtain ⟨E, hE⟩ : ∃ E, E = byt C := ⟨_, rfl⟩
        obtain ⟨l, hl⟩ : ∃ l, l = E.length := ⟨_, rfl⟩
        have EL : Hid (E.length = l ∧ 0 < l) := (by show _ ∧ _; have := byt_len C; have := M8.out; rw [hl, hE]; omega)
        have EB : Hid (By E) := (by show By E; rw [hE]; exact byt_by C HB.out.2.2.2)
        have LM : Hid (l ≤ 100000001) := (by show _ ≤ _; have := byt_len C; have := CL.out; have := HL.out; rw [hl, hE]; omega)
        have OW : Hid (W.ownsRow base 5 1 v' l (bys E)) := (by
          show World.ownsRow _ _ _ _ _ _ _
          rw [hl, hE]
          exact row_kb HB.out.2.2.1 KW1 fun g hg e => (HB.out.2.1.ty.ne (row_ty HB.out.2.2.1 g hg) (by decide)) e.symm)
        have EN : Hid (E.set (l - 1) (orB (E.getD (l - 1) 0) (z * 2 ^ s)) = byt (C ++ [z])) := (by
          show _ = _
          rw [byt_snoc, byS, if_neg M8.out, hl, hE, SH.out])
        clear hE hl hW KW1 L0 c0 c1 f1 ne0 e7
        obtain ⟨ga, c, eu⟩ := row_form OW.out
        obtain ⟨u, hu⟩ : ∃ u, u = v' := ⟨_, rfl⟩
        rw [← hu] at OW eu
        have HU : Hid (u = v') := hu
        clear hu
        subst eu
        have lE : 0 < l := by have := EL.out; omega
        obtain ⟨g, eg, gl, ce, fz⟩ : ∃ g, ga = some ⟨g, 0, none⟩ ∧ g < W.heap.size ∧ W.cell? ⟨g, l - 1, none⟩ = some (.int .u8 (E.getD (l - 1) 0)) ∧ W.frozen? ⟨g, l - 1, none⟩ = false := by
          rcases OW.out.2 with ⟨h1, h2⟩ | ⟨gf, cap, cur, h1, h2, h3, h4, h5, h6⟩
          · omega
          · injection h1 with h1 _ h1c
            subst h1 h1c
            refine ⟨gf, rfl, (OW.out.lt gf rfl).2, ?_, OW.out.frozenAt (l - 1)⟩
            exact Bytes.row_cell (L := E) (by rw [EL.out.1]; exact OW.out) (l - 1) (by rw [EL.out.1]; omega)
        subst eg
        obtain ⟨l1, hl1⟩ : ∃ l1, l1 = l - 1 := ⟨_, rfl⟩
        rw [← hl1] at ce fz
        have i1 : (l : Int) - 1 = (l1 : Int) := by omega
        have i2 : (l1 : Int) < (l : Int) := by omega
        have i3 : (0 : Int) ≤ (l1 : Int) := by omega
        have lm : l ≤ 100000001 := LM.out
        have HL1 : Hid (l1 = l - 1) := hl1
        clear hl1
        obtain ⟨e, he⟩ : ∃ e, e = E.getD l1 0 := ⟨_, rfl⟩
        have eb := getD_by EB.out l1
        obtain ⟨y, hy⟩ : ∃ y, y = z * 2 ^ s := ⟨_, rfl⟩
        have yb := sh_by z01 s s7
        have NV : Hid (bits BinOp.or IntKind.u8 e (bits BinOp.and IntKind.u64 (x / 2 ^ t) 1 % 256 * 2 ^ s % 256) = orB e y) := (by
          show _ = _
          obtain ⟨h1, h2, h3⟩ := HZ.out
          rw [and_one_u64 _ h2 (by omega), ← h1, show z % 256 = z by omega, ← hy, show y % 256 = y by rw [hy]; omega]
          exact or_bits e y (by rw [he]; exact eb) (by rw [hy]; exact yb))
        have NB : Hid (byt (C ++ [z]) = E.set l1 (orB e y)) := (by show _ = _; rw [he, hy, HL1.out]; exact EN.out.symm)
        rw [← he] at ce
        clear he hy eb yb
        have cW0 := LW.out.cell 0
        have cW1 := LW.out.cell 1
        simp at cW0 cW1
        rw [← HU.out] at cW0
        go_region
        rw [NV.out]
        obtain ⟨W2, hW2⟩ : ∃ W2, W2 = (W.setCell ⟨g, l1, none⟩ (.int .u8 (orB e y))).drew := ⟨_, rfl⟩
        rw [← hW2]
        have GB2 : W.grownBy W2 (some g) := by rw [hW2]; exact grown_drewN (grown_setCell (World.grownBy.refl W (some g)) l1 (.int .u8 (orB e y))) 1
        have KB2 : KB (fun k => k = g) W W2 := KB.of_grown GB2 (fun k e => (Option.some.inj e).symm)
        have R2 : W2.ownsRow base 5 1 (.slice (some ⟨g, 0, none⟩) l c) l (bys (E.set l1 (orB e y))) := by rw [hW2, ← Bytes.bys_set]; exact (OW.out.stored l1 (.int .u8 (orB e y))).1
        have bg : ¬ b = g := (LW.out.ty.ne (row_ty OW.out g rfl) (by decide))
        have L2 : Bl W2 b 90 #[.slice (some ⟨g, 0, none⟩) l c, .int .i64 (s : Int)] := by rw [HU.out]; exact LW.out.kb KB2 bg
        have HB2 : Hid (BW W2 base b (.slice (some ⟨g, 0, none⟩) l c) (B ++ btk x n (k + 1))) := (by
          show BW _ _ _ _ _
          have l8 : (C ++ [z]).length = C.length + 1 := by simp
          refine ⟨HB.out.1, ?_, ?_, ?_⟩
          · rw [CS.out, show fre (C ++ [z]) = s by unfold fre; have := SH.out; rw [l8]; omega]; exact L2
          · rw [CS.out, NB.out, List.length_set, EL.out.1]; exact R2
          · rw [CS.out]; exact HB.out.2.2.2.app (fun y hy => by simp at hy; rw [hy]; exact z01))
        have HV2 : Hid ((Value.slice (some ⟨g, 0, none⟩) l c).ownBlock = v.ownBlock ∨ ∀ k, (Value.slice (some ⟨g, 0, none⟩) l c).ownBlock = some k → w.heap.size ≤ k) := (by rw [HU.out]; exact HV.out)
        have HK2 : Hid (KB (fun k => k = b ∨ v.ownBlock = some k) w W2) := kb_grown KW.out GB2 (fun k e => by
          rcases HV2.out with q | q
          · exact .inl (.inr (by rw [← q, ← e]; rfl))
          · exact .inr (q k e))
        clear hW2 KB2 GB2 R2 bg L2 LW OW HV HK NB HB KW EN
        go_wp2_with fail
        go_roundw
        case rel => exact ⟨k + 1, by omega, by go_num, _, HB2, HV2, HK2⟩
        case measure => simp [intOf] <;> have := HT.out <;> omega
    · have et : (n : Int) - 1 - (k : Int) = -1 := by omega
      rw [et]
      have ek : k = n := by omega
      subst ek
      clear HX HL
      go_wp2_with fail
      go_end0
      exact ⟨rfl, v', HB.out, HV.out, HK.out⟩
end Go.Proofs.Ytmopkbkdfipglaa.Lists
