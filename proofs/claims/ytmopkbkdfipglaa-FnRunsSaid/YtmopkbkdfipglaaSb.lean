/- The model's bytes of some bits. -/
import Derived.Test.YtmopkbkdfipglaaSm
namespace Go.Proofs.Ytmopkbkdfipglaa.Lists
open Go.ChangeShapes Go.WideShapes Go.ChangeAt Go.RowKit
open Go.Proofs.Ytmopkbkdfipglaa.Bytes (bys)

theorem take_snoc (B : List Int) (k : Nat) (h : k < B.length) : B.take (k + 1) = B.take k ++ [B.getD k 0] := by
  rw [List.take_succ_eq_append_getElem h]
  simp [List.getD_eq_getElem?_getD, h]
set_option maxHeartbeats 1000000 in
theorem sbytes_any (w : World) (v : Value) (B : List Int) (h : Bytes.Reads w v B) (hb : B01 B) (hl : B.length ≤ 100000000) :
    Calls Try.prog 23 #[v] w fun e w' => ∃ v', e = .returned v' ∧ v' ≠ .slice none 0 0 ∧ w'.ownsRow w.heap.size 5 1 v' (byt B).length (bys (byt B)) ∧ Below w.heap.size w w' := by
  obtain ⟨i5, hi, hz0, hz1, hz2⟩ := info_parts Bytes.Try.info5
  obtain ⟨a, cap, rfl⟩ := h.form
  have HC : Hid (∀ W, Below w.heap.size w W → ∀ i, i < B.length → ∃ b o, a = some ⟨b, o, none⟩ ∧ B.length ≤ cap ∧ cap ≤ maxLen ∧ W.cell? ⟨b, o + i, none⟩ = some (.int .u8 (B.getD i 0))) := fun W hW i hi => by
    rcases h with ⟨rfl, _⟩ | ⟨b, o, cap', h1, h2, h3, h4, h5⟩
    · simp at hi
    · injection h1 with q1 q2 q3
      subst q3
      exact ⟨b, o, q1, h2, h3, (hW.cell (p := ⟨b, o + i, none⟩) h4).trans (h5 i hi)⟩
  obtain ⟨n, hn⟩ : ∃ n, n = B.length := ⟨_, rfl⟩
  have HN : Hid (n = B.length) := hn
  have HB : Hid (B01 B) := hb
  rw [← hn] at hl HC ⊢
  have R0 : Hid ((w.alloc (.cells #[] 5)).ownsRow w.heap.size 5 1 (.slice (some ⟨w.heap.size, 0, none⟩) 0 0) (byt (B.take 0)).length (bys (byt (B.take 0)))) := empty_row 5
  have B0 : Hid (Below w.heap.size w (w.alloc (.cells #[] 5))) := (Below.refl _ _).alloc (Nat.le_refl _) _
  clear h hn hb
  go_enter Try.func23, Try.ntmps23
  go_wp2_with fail
  go_loopw [3, 4] (fun v i wr => ∃ k : Nat, k ≤ n ∧ i = .int .i64 (k : Int) ∧ Hid (v ≠ .slice none 0 0) ∧ Hid (wr.ownsRow w.heap.size 5 1 v (byt (B.take k)).length (bys (byt (B.take k)))) ∧ Hid (Below w.heap.size w wr)) (fun _ i _ => n - (intOf i).toNat)
  case atStart => exact ⟨0, Nat.zero_le _, rfl, (fun e => by cases e), R0, B0⟩
  case round =>
    clear R0 B0
    obtain ⟨k, hk, rfl, NZ, O, BB⟩ := hrel
    obtain ⟨vv, hvv⟩ : ∃ vv, vv = u3 := ⟨_, rfl⟩
    subst hvv
    by_cases hlt : k < n
    · obtain ⟨D, hD⟩ : ∃ D, D = byt (B.take k) := ⟨_, rfl⟩
      rw [← hD] at O
      obtain ⟨d, hd⟩ : ∃ d, d = D.length := ⟨_, rfl⟩
      rw [← hd] at O
      have dk : d = (k + 7) / 8 := by
        have := byt_len (B.take k)
        have := HN.out
        have e2 : (B.take k).length = k := by rw [List.length_take]; omega
        rw [hd, hD, byt_len, e2]
      obtain ⟨va, vc, ev⟩ := row_form O.out
      have HD : Hid (D = byt (B.take k) ∧ d = D.length ∧ By D) := (by
        show _ ∧ _
        refine ⟨hD, hd, ?_⟩
        rw [hD]
        exact byt_by _ fun x hx => HB.out x (List.mem_of_mem_take hx))
      obtain ⟨z, hz⟩ : ∃ z, z = B.getD k 0 := ⟨_, rfl⟩
      have TK : Hid (B.take (k + 1) = B.take k ++ [z]) := (by show _ = _; rw [hz]; exact take_snoc B k (by have := HN.out; omega))
      have z01 : z = 0 ∨ z = 1 := by
        have hk' : k < B.length := by have := HN.out; omega
        rw [hz, List.getD_eq_getElem?_getD, List.getElem?_eq_getElem hk']
        exact HB.out _ (List.getElem_mem hk')
      have CB : Hid (∀ W, Below w.heap.size w W → ∃ b o, a = some ⟨b, o, none⟩ ∧ n ≤ cap ∧ cap ≤ maxLen ∧ W.cell? ⟨b, o + k, none⟩ = some (.int .u8 z)) := fun W hW => by rw [hz]; exact HC.out W hW k hlt
      obtain ⟨b, o, rfl, x1, x2, _⟩ := CB.out wr BB.out
      have KT : Hid ((B.take k).length = k) := (by show _ = _; rw [List.length_take]; have := HN.out; omega)
      unfold maxLen at x2
      have bsz := BB.out.size
      have i0 : (0 : Int) ≤ (k : Int) := by omega
      have i1 : (k : Int) < (n : Int) := by omega
      obtain ⟨r, hr⟩ : ∃ r, r = k % 8 := ⟨_, rfl⟩
      have er : Int.tmod (k : Int) 8 = (r : Int) := by rw [Int.tmod_eq_emod_of_nonneg (by omega)]; omega
      obtain ⟨l1, hl1⟩ : ∃ l1, l1 = k / 8 := ⟨_, rfl⟩
      have el : Int.tdiv (k : Int) 8 = (l1 : Int) := by rw [Int.tdiv_eq_ediv_of_nonneg (by omega)]; omega
      obtain ⟨s, hs⟩ : ∃ s, s = 7 - r := ⟨_, rfl⟩
      have s7 : s ≤ 7 := by omega
      have es : (7 : Int) - (r : Int) = (s : Int) := by omega
      have NM : Hid (r = k % 8 ∧ l1 = k / 8 ∧ s = 7 - r ∧ d = (k + 7) / 8) := ⟨hr, hl1, hs, dk⟩
      have d8 : d ≤ 12500001 := by omega
      have r8 : r < 8 := by omega
      have l18 : l1 ≤ 12500000 := by omega
      subst ev
      by_cases h8 : r = 0
      · have ez : ((r : Int) == 0) = true := by simp; omega
        have tl : l1 = d := by omega
        clear hr hl1 hs dk hz hD hd HC
        go_wp2_with (at_builtin; refine wpList_append_own_at _ rfl _ _ 23 rfl w.heap.size 5 i5 (.int .u8 0) 1 1 Try.underlying23 hi hz0 hz1 hz2 rfl (by decide) _ _ _ rfl (O.out.alloc _) ⟨wr.heap.size, 0, none⟩ 1 1 [.int .u8 0] rfl rfl (cell_one_new _ _ _) (by intro u hu; simp at hu; subst hu; rfl) (by unfold maxLen; omega) (by omega) (by simp; omega) ?_)
        intro v9 W hown hgrow _ hat
        obtain ⟨E, hE⟩ : ∃ E, E = D ++ [0] := ⟨_, rfl⟩
        obtain ⟨l, hl⟩ : ∃ l, l = d + 1 := ⟨_, rfl⟩
        have EL : Hid (E.length = l ∧ l1 + 1 = l) := (by show _ ∧ _; rw [hl, hE, List.length_append, ← HD.out.2.1]; exact ⟨rfl, by omega⟩)
        have EB : Hid (By E) := (by
          show By E
          rw [hE]
          intro q hq
          rcases List.mem_append.1 hq with h | h
          · exact HD.out.2.2 q h
          · simp at h; omega)
        have OW : Hid (W.ownsRow w.heap.size 5 1 v9 l (bys E)) := (by show World.ownsRow _ _ _ _ _ _ _; rw [hl, hE, bys_snoc]; exact hown)
        have BW' : Hid (Below w.heap.size w W) := (BB.out.alloc BB.out.size _).grown hgrow (by simp; omega) (fun b hb => (O.out.lt b hb).1)
        have EN : Hid (E.set l1 (orB (E.getD l1 0) (z * 2 ^ s)) = byt (B.take (k + 1))) := (by
          show _ = _
          have e1 : (D ++ [(0 : Int)]).getD d 0 = 0 := by
            rw [HD.out.2.1]
            simp [List.getD_eq_getElem?_getD]
          have := NM.out
          rw [TK.out, byt_snoc, byS, KT.out, if_pos (by omega), hE, tl, e1, ← HD.out.1, HD.out.2.1, List.set_append_right _ _ (Nat.le_refl _), Nat.sub_self, show s = 7 by omega]
          rfl)
        clear hE hl hown hgrow hat O BB tl
        obtain ⟨ga, c, eu⟩ := row_form OW.out
        subst eu
        have lE : 0 < l := by have := EL.out; omega
        obtain ⟨g, eg, gl, gb, ce, fz⟩ : ∃ g, ga = some ⟨g, 0, none⟩ ∧ g < W.heap.size ∧ w.heap.size ≤ g ∧ W.cell? ⟨g, l1, none⟩ = some (.int .u8 (E.getD l1 0)) ∧ W.frozen? ⟨g, l1, none⟩ = false := by
          rcases OW.out.2 with ⟨h1, h2⟩ | ⟨gf, cap, cur, h1, h2, h3, h4, h5, h6⟩
          · omega
          · injection h1 with h1 _ h1c
            subst h1 h1c
            refine ⟨gf, rfl, (OW.out.lt gf rfl).2, h2, ?_, OW.out.frozenAt l1⟩
            exact Bytes.row_cell (L := E) (by rw [EL.out.1]; exact OW.out) l1 (by rw [EL.out.1]; have := EL.out; omega)
        subst eg
        have j2 : (l1 : Int) < (l : Int) := by have := EL.out; omega
        have j3 : (0 : Int) ≤ (l1 : Int) := by omega
        obtain ⟨_, _, eb0, _, _, cz⟩ := CB.out W BW'.out
        injection eb0 with eb0
        injection eb0 with eb1 eb2 _
        subst eb1 eb2
        obtain ⟨e, he⟩ : ∃ e, e = E.getD l1 0 := ⟨_, rfl⟩
        have eb := getD_by EB.out l1
        obtain ⟨y, hy⟩ : ∃ y, y = z * 2 ^ s := ⟨_, rfl⟩
        have yb := sh_by z01 s s7
        have NV : Hid (bits BinOp.or IntKind.u8 e (z * 2 ^ s % 256) = orB e y) := (by
          show _ = _
          rw [← hy, show y % 256 = y by rw [hy]; omega]
          exact or_bits e y (by rw [he]; exact eb) (by rw [hy]; exact yb))
        have NB : Hid (byt (B.take (k + 1)) = E.set l1 (orB e y)) := (by show _ = _; rw [he, hy]; exact EN.out.symm)
        rw [← he] at ce
        have NV2 : Hid (s = 7 → bits BinOp.or IntKind.u8 e (z * 128) = orB e y) := fun q => (by
          show _ = _
          have : y = z * 128 := by rw [hy, q]; rfl
          rw [← this]
          exact or_bits e y (by rw [he]; exact eb) (by rw [hy]; exact yb))
        clear he hy eb yb CB
        go_wp2_with fail
        go_region
        first | rw [NV.out] | rw [NV2.out (by have := NM.out; omega)]
        obtain ⟨W2, hW2⟩ : ∃ W2, W2 = (W.setCell ⟨g, l1, none⟩ (.int .u8 (orB e y))).drew := ⟨_, rfl⟩
        rw [← hW2]
        have GB2 : W.grownBy W2 (some g) := by rw [hW2]; exact grown_drewN (grown_setCell (World.grownBy.refl W (some g)) l1 (.int .u8 (orB e y))) 1
        have R2 : W2.ownsRow w.heap.size 5 1 (.slice (some ⟨g, 0, none⟩) l c) l (bys (E.set l1 (orB e y))) := by rw [hW2, ← Bytes.bys_set]; exact (OW.out.stored l1 (.int .u8 (orB e y))).1
        have O2 : Hid (W2.ownsRow w.heap.size 5 1 (.slice (some ⟨g, 0, none⟩) l c) (byt (B.take (k + 1))).length (bys (byt (B.take (k + 1))))) := (by show World.ownsRow _ _ _ _ _ _ _; rw [NB.out, List.length_set, EL.out.1]; exact R2)
        have B2 : Hid (Below w.heap.size w W2) := BW'.out.grown GB2 BW'.out.size (fun b hb => by have := Option.some.inj hb; omega)
        clear hW2 GB2 R2 OW BW' NB EN
        go_wp2_with fail
        go_roundw
        case rel => exact ⟨k + 1, by omega, by go_num, (fun e => by cases e), O2, B2⟩
        case measure => simp [intOf]; omega
      · have ez : ((r : Int) == 0) = false := by simp; omega
        obtain ⟨l, hl⟩ : ∃ l, l = d := ⟨_, rfl⟩
        obtain ⟨W, hW⟩ : ∃ W, W = wr := ⟨_, rfl⟩
        subst hW
        obtain ⟨v9, hv9⟩ : ∃ v9, v9 = Value.slice va d vc := ⟨_, rfl⟩
        have OW : Hid (W.ownsRow w.heap.size 5 1 v9 l (bys D)) := (by show World.ownsRow _ _ _ _ _ _ _; rw [hl, hv9]; exact O.out)
        have BW' : Hid (Below w.heap.size w W) := BB.out
        obtain ⟨E, hE⟩ : ∃ E, E = D := ⟨_, rfl⟩
        rw [← hE] at OW
        have EL : Hid (E.length = l ∧ l1 + 1 = l) := (by show _ ∧ _; rw [hl, hE, ← HD.out.2.1]; exact ⟨rfl, by omega⟩)
        have EB : Hid (By E) := (by show By E; rw [hE]; exact HD.out.2.2)
        have EN : Hid (E.set l1 (orB (E.getD l1 0) (z * 2 ^ s)) = byt (B.take (k + 1))) := (by
          show _ = _
          have := NM.out
          rw [TK.out, byt_snoc, byS, KT.out, if_neg (by omega), hE, ← HD.out.1, ← HD.out.2.1, show d - 1 = l1 by omega, show 7 - k % 8 = s by omega])
        rw [← hv9]
        have HV9 : Hid (v9 = Value.slice va d vc) := hv9
        clear hr hl1 hs dk hz hD hd HC hE hl hv9 O BB
        obtain ⟨ga, c, eu⟩ := row_form OW.out
        subst eu
        have lE : 0 < l := by have := EL.out; omega
        obtain ⟨g, eg, gl, gb, ce, fz⟩ : ∃ g, ga = some ⟨g, 0, none⟩ ∧ g < W.heap.size ∧ w.heap.size ≤ g ∧ W.cell? ⟨g, l1, none⟩ = some (.int .u8 (E.getD l1 0)) ∧ W.frozen? ⟨g, l1, none⟩ = false := by
          rcases OW.out.2 with ⟨h1, h2⟩ | ⟨gf, cap, cur, h1, h2, h3, h4, h5, h6⟩
          · omega
          · injection h1 with h1 _ h1c
            subst h1 h1c
            refine ⟨gf, rfl, (OW.out.lt gf rfl).2, h2, ?_, OW.out.frozenAt l1⟩
            exact Bytes.row_cell (L := E) (by rw [EL.out.1]; exact OW.out) l1 (by rw [EL.out.1]; have := EL.out; omega)
        subst eg
        have j2 : (l1 : Int) < (l : Int) := by have := EL.out; omega
        have j3 : (0 : Int) ≤ (l1 : Int) := by omega
        obtain ⟨_, _, eb0, _, _, cz⟩ := CB.out W BW'.out
        injection eb0 with eb0
        injection eb0 with eb1 eb2 _
        subst eb1 eb2
        obtain ⟨e, he⟩ : ∃ e, e = E.getD l1 0 := ⟨_, rfl⟩
        have eb := getD_by EB.out l1
        obtain ⟨y, hy⟩ : ∃ y, y = z * 2 ^ s := ⟨_, rfl⟩
        have yb := sh_by z01 s s7
        have NV : Hid (bits BinOp.or IntKind.u8 e (z * 2 ^ s % 256) = orB e y) := (by
          show _ = _
          rw [← hy, show y % 256 = y by rw [hy]; omega]
          exact or_bits e y (by rw [he]; exact eb) (by rw [hy]; exact yb))
        have NB : Hid (byt (B.take (k + 1)) = E.set l1 (orB e y)) := (by show _ = _; rw [he, hy]; exact EN.out.symm)
        rw [← he] at ce
        have NV2 : Hid (s = 7 → bits BinOp.or IntKind.u8 e (z * 128) = orB e y) := fun q => (by
          show _ = _
          have : y = z * 128 := by rw [hy, q]; rfl
          rw [← this]
          exact or_bits e y (by rw [he]; exact eb) (by rw [hy]; exact yb))
        clear he hy eb yb CB
        go_wp2_with fail
        go_region
        first | rw [NV.out] | rw [NV2.out (by have := NM.out; omega)]
        obtain ⟨W2, hW2⟩ : ∃ W2, W2 = (W.setCell ⟨g, l1, none⟩ (.int .u8 (orB e y))).drew := ⟨_, rfl⟩
        rw [← hW2]
        have GB2 : W.grownBy W2 (some g) := by rw [hW2]; exact grown_drewN (grown_setCell (World.grownBy.refl W (some g)) l1 (.int .u8 (orB e y))) 1
        have R2 : W2.ownsRow w.heap.size 5 1 (.slice (some ⟨g, 0, none⟩) l c) l (bys (E.set l1 (orB e y))) := by rw [hW2, ← Bytes.bys_set]; exact (OW.out.stored l1 (.int .u8 (orB e y))).1
        have O2 : Hid (W2.ownsRow w.heap.size 5 1 (.slice (some ⟨g, 0, none⟩) l c) (byt (B.take (k + 1))).length (bys (byt (B.take (k + 1))))) := (by show World.ownsRow _ _ _ _ _ _ _; rw [NB.out, List.length_set, EL.out.1]; exact R2)
        have B2 : Hid (Below w.heap.size w W2) := BW'.out.grown GB2 BW'.out.size (fun b hb => by have := Option.some.inj hb; omega)
        clear hW2 GB2 R2 OW BW' NB EN
        go_wp2_with fail
        go_roundw
        case rel => exact ⟨k + 1, by omega, by go_num, (fun e => by cases e), O2, B2⟩
        case measure => simp [intOf]; omega
    · have ek : k = n := by omega
      subst ek
      have FN : Hid (wr.ownsRow w.heap.size 5 1 vv (byt B).length (bys (byt B))) := (by show World.ownsRow _ _ _ _ _ _ _; have := O.out; rw [List.take_of_length_le (by have := HN.out; omega)] at this; exact this)
      have a1 : ¬ (k : Int) < (k : Int) := by omega
      obtain ⟨va, vc, ev⟩ := row_form FN.out
      obtain ⟨m, hm⟩ : ∃ m, m = (byt B).length := ⟨_, rfl⟩
      have HM : Hid (m = (byt B).length) := hm
      rw [← hm] at ev
      subst ev
      clear O HC hm
      go_wp2_with fail
      go_ret
      exact ⟨_, rfl, NZ.out, FN.out, BB.out⟩
end Go.Proofs.Ytmopkbkdfipglaa.Lists
