/- The model's bits: put one by one, and told as bytes. -/
import Derived.Test.YtmopkbkdfipglaaGp
import Derived.BigRegion
import Derived.WalkSmall
import Derived.Maps.AppendAt
namespace Go.Proofs.Ytmopkbkdfipglaa.Lists
open Go.ChangeShapes Go.WideShapes Go.ChangeAt Go.RowKit
open Go.Proofs.Ytmopkbkdfipglaa.Bytes (bys)

theorem and_one_i64 (x : Int) (h0 : 0 ≤ x) (h1 : x < 9223372036854775808) : bits BinOp.and IntKind.i64 x 1 = x % 2 := by
  obtain ⟨n, rfl⟩ : ∃ n : Nat, x = n := ⟨x.toNat, by omega⟩
  have hn : n < 2 ^ 64 := by omega
  have e : (BitVec.ofInt 64 (n : Int) &&& BitVec.ofInt 64 1).toNat = n % 2 := by
    rw [BitVec.toNat_and]
    simp only [BitVec.ofInt_natCast, BitVec.toNat_ofNat]
    rw [Nat.mod_eq_of_lt hn]
    show n &&& 1 = _
    exact Nat.and_one_is_mod n
  show IntKind.i64.wrap ((BitVec.ofInt 64 (n : Int) &&& BitVec.ofInt 64 1).toNat : Int) = _
  rw [e]
  simp [IntKind.wrap, IntKind.bits, IntKind.signed]
  omega
theorem bys_snoc (L : List Int) (x : Int) : bys (L ++ [x]) = bys L ++ [.int .u8 x] := by simp

set_option maxHeartbeats 1000000 in
theorem sput_any (w : World) (base : Nat) (v : Value) (B : List Int) (x : Int) (n : Nat) (hx : 0 ≤ x ∧ x < 9223372036854775808) (hn : n ≤ 64) (hl : B.length ≤ 100000000) (hb : base ≤ w.heap.size) (h : w.ownsRow base 5 1 v B.length (bys B)) :
    Calls Try.prog 24 #[v, .int .i64 x, .int .i64 (n : Int)] w fun e w' => ∃ v', e = .returned v' ∧ w'.ownsRow base 5 1 v' (B ++ bts x n).length (bys (B ++ bts x n)) ∧ (v'.ownBlock = v.ownBlock ∨ ∀ k, v'.ownBlock = some k → w.heap.size ≤ k) ∧ w.grownBy w' v.ownBlock := by
  obtain ⟨i5, hi, hz0, hz1, hz2⟩ := info_parts Bytes.Try.info5
  have H0 : Hid (w.ownsRow base 5 1 v (B ++ btk x n 0).length (bys (B ++ btk x n 0))) := (by show World.ownsRow _ _ _ _ _ _ _; rw [show btk x n 0 = [] from rfl, List.append_nil]; exact h)
  have HX : Hid (0 ≤ x ∧ x < 9223372036854775808) := hx
  have G0 : Hid (w.grownBy w v.ownBlock) := World.grownBy.refl _ _
  obtain ⟨a0, c0, ev0⟩ := row_form h
  obtain ⟨vo, hvo⟩ : ∃ vo, vo = v.ownBlock := ⟨_, rfl⟩
  rw [← hvo] at G0 ⊢
  have HVO : Hid (vo = v.ownBlock) := hvo
  have HVB : Hid (∀ k, v.ownBlock = some k → k < w.heap.size) := fun k e => (h.lt k e).2
  clear hvo h hx
  subst ev0
  go_enter Try.func24, Try.ntmps24
  go_wp2_with fail
  go_loopw [0, 7] (fun v' at' wr => ∃ k : Nat, k ≤ n ∧ at' = .int .i64 ((n : Int) - 1 - (k : Int)) ∧ Hid (wr.ownsRow base 5 1 v' (B ++ btk x n k).length (bys (B ++ btk x n k))) ∧ Hid (v'.ownBlock = vo ∨ ∀ k, v'.ownBlock = some k → w.heap.size ≤ k) ∧ Hid (w.grownBy wr vo)) (fun _ at' _ => (intOf at' + 1).toNat)
  case atStart => exact ⟨0, Nat.zero_le _, by go_num, H0, .inl HVO.out.symm, G0⟩
  case round =>
    obtain ⟨k, hk, rfl, O, HV, G⟩ := hrel
    obtain ⟨vv, hvv⟩ : ∃ vv, vv = u0 := ⟨_, rfl⟩
    subst hvv
    obtain ⟨va, vc, ev⟩ := row_form O.out
    subst ev
    clear H0 G0
    by_cases hkn : k < n
    · obtain ⟨t, ht⟩ : ∃ t : Nat, t = n - 1 - k := ⟨_, rfl⟩
      have et : (n : Int) - 1 - (k : Int) = (t : Int) := by omega
      rw [et]
      have t0 : (0 : Int) ≤ (t : Int) := by omega
      have t6 : t ≤ 63 := by omega
      have HT : Hid (t = n - 1 - k) := ht
      obtain ⟨C, hC⟩ : ∃ C, C = B ++ btk x n k := ⟨_, rfl⟩
      have CL : C.length = B.length + k := by rw [hC, List.length_append, btk_len]
      obtain ⟨z, hz⟩ : ∃ z, z = x / 2 ^ t % 2 := ⟨_, rfl⟩
      have CS : Hid (B ++ btk x n (k + 1) = C ++ [z]) := (by show _ = _; rw [btk_snoc, ← List.append_assoc, hC, hz, ht]; rfl)
      have q01 : 0 ≤ x / 2 ^ t ∧ x / 2 ^ t < 9223372036854775808 := by
        have := HX.out
        exact ⟨Int.ediv_nonneg this.1 (Int.le_of_lt (Int.pow_pos (by omega))), Int.lt_of_le_of_lt (Int.ediv_le_self _ this.1) this.2⟩
      have b1 : bits BinOp.and IntKind.i64 (x / 2 ^ t) 1 = z := by rw [and_one_i64 _ q01.1 q01.2, hz]
      have z01 : 0 ≤ z ∧ z < 2 := by omega
      have z8 : z % 256 = z := by omega
      rw [← hC] at O HV ⊢
      obtain ⟨m, hm⟩ : ∃ m, m = C.length := ⟨_, rfl⟩
      rw [← hm] at O CL HV ⊢
      have mb : m ≤ 100000064 := by omega
      clear CL
      have HM : Hid (m = C.length) := hm
      have gsz := G.out.size
      clear ht hC hz q01 hm
      go_wp2_with (at_builtin; refine wpList_append_own_at _ rfl _ _ 23 rfl base 5 i5 (.int .u8 0) 1 1 Try.underlying23 hi hz0 hz1 hz2 rfl (by decide) _ _ _ rfl (O.out.alloc _) ⟨wr.heap.size, 0, none⟩ 1 1 [.int .u8 z] rfl rfl (cell_one_new _ _ _) (by intro u hu; simp at hu; subst hu; rfl) (by unfold maxLen; omega) (by omega) (by simp; omega) ?_)
      intro v9 w9 hown hgrow _ hat
      have O9 : Hid (w9.ownsRow base 5 1 v9 (B ++ btk x n (k + 1)).length (bys (B ++ btk x n (k + 1)))) := (by
        show World.ownsRow _ _ _ _ _ _ _
        rw [CS.out, bys_snoc, List.length_append, ← HM.out]
        exact hown)
      have G9 : Hid (w.grownBy w9 vo) := (by
        refine ⟨hgrow.os.trans G.out.os, hgrow.tape.trans G.out.tape, hgrow.output.trans G.out.output, Nat.le_trans gsz (Nat.le_trans (by simp) hgrow.size), fun j hj hn => ?_⟩
        have h1 : (wr.alloc (.cells #[.int .u8 z] 5)).heap[j]? = wr.heap[j]? := Below.heap_alloc _ _ _ (by omega)
        refine (hgrow.block j (by simp; omega) fun e => ?_).trans (h1.trans (G.out.block j hj hn))
        rcases HV.out with q | q
        · exact hn (by rw [← q, ← e])
        · exact absurd (q j e.symm) (by omega))
      have V9 : Hid (v9.ownBlock = vo ∨ ∀ k, v9.ownBlock = some k → w.heap.size ≤ k) := (by
        show _ ∨ _
        rcases hat with q | q
        · rw [q]; exact HV.out
        · refine .inr fun j e => ?_
          rw [q] at e
          have := Option.some.inj e
          omega)
      clear hown hgrow hat O HV G
      go_wp2_with fail
      go_roundw
      case rel => exact ⟨k + 1, by omega, by go_num, O9, V9, G9⟩
      case measure => simp [intOf] <;> have := HT.out <;> omega
    · have et : (n : Int) - 1 - (k : Int) = -1 := by omega
      rw [et]
      have ek : k = n := by omega
      subst ek
      have FN : Hid (∃ m, m = (B ++ btk x k k).length ∧ wr.ownsRow base 5 1 (.slice va m vc) m (bys (B ++ btk x k k)) ∧ ((Value.slice va m vc).ownBlock = vo ∨ ∀ k, (Value.slice va m vc).ownBlock = some k → w.heap.size ≤ k)) := ⟨_, rfl, O.out, HV.out⟩
      obtain ⟨m, hm, F⟩ := FN.out
      rw [← hm] at O HV ⊢
      have HM : Hid (m = (B ++ btk x k k).length) := hm
      clear hm FN HX
      go_wp2_with fail
      go_ret
      exact ⟨_, rfl, by rw [← HM.out]; exact F.1, F.2, G.out⟩
end Go.Proofs.Ytmopkbkdfipglaa.Lists
