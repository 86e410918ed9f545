/- A line cut at its blanks, in the model. -/
import Derived.Test.YtepofpmdkphhdaaDoorRhP
import Derived.OwnWalk
import Derived.Outline
import Derived.OpenShut
import Derived.Laws.OwnMore
namespace Go.Proofs.YtepofpmdkphhdaaDoor.Head
open Go.ChangeShapes Go.WideShapes Go.ChangeAt Go.RowKit Mk Fig

theorem info9 : (Tryd.prog.info? 9).map (fun i => (i.zero, i.size, i.bytes)) = some (some (.string ⟨#[]⟩), 1, 16) := by kernel_rfl
theorem row_form {e : TypeId} {w : World} {base n : Nat} {v : Value} {xs : List Value} (h : w.ownsRow base e 1 v n xs) : ∃ a cap, v = .slice a n cap := by
  rcases h.2 with ⟨rfl, rfl⟩ | ⟨g, cap, _, rfl, _⟩
  · exact ⟨_, _, rfl⟩
  · exact ⟨_, _, rfl⟩
theorem empty_row (e : TypeId) (W : World) (base : Nat) (h : base ≤ W.heap.size) : (W.alloc (.cells #[] e)).ownsRow base e 1 (.slice (some ⟨W.heap.size, 0, none⟩) 0 0) 0 [] :=
  ⟨by simp, .inr ⟨W.heap.size, 0, #[], rfl, h, heap_alloc_new W _, Nat.le_refl _, Nat.zero_le _, by simp, by simp⟩⟩
theorem idx_at (w : World) (s : ByteArray) (k : Nat) (hk : k < s.size) :
    (Instr.index 9 (.string s) (.int .i64 (k : Int))).run Tryd.prog w = .ok (.int .u8 (s[k].toNat : Int)) w := by
  rw [run_index_string w 9 s .i64 (k : Int) Tryd.underlying9]
  simp [hk]


set_option maxHeartbeats 2000000 in
set_option maxRecDepth 1000000 in
theorem spieces (s : ByteArray) (w : World) (hs : s.size ≤ 1048576) :
    Calls Tryd.prog 24 #[.string s] w fun e w' => ∃ v, e = .returned v ∧ w'.ownsRow w.heap.size 9 1 v (pcs s).length ((pcs s).map Value.string) ∧ Below w.heap.size w w' := by
  obtain ⟨i0, hi, hz0, hz1, hz2⟩ := info_parts info9
  have R0 : Hid ((w.alloc (.cells #[] 9)).ownsRow w.heap.size 9 1 (.slice (some ⟨w.heap.size, 0, none⟩) 0 0) ([] : List ByteArray).length (([] : List ByteArray).map Value.string)) := empty_row 9 w _ (Nat.le_refl _)
  go_enter Tryd.func24, Tryd.ntmps24
  go_wp2_with fail
  go_loopw [3, 4, 5] (fun v x y wr => ∃ (outs : List ByteArray) (f i : Nat), Hid (PInv s outs f i) ∧ (i ≤ s.size → f ≤ i) ∧ outs.length ≤ i ∧ i ≤ s.size + 1 ∧ x = .int .i64 (f : Nat) ∧ y = .int .i64 (i : Nat) ∧ Hid (wr.ownsRow w.heap.size 9 1 v outs.length (outs.map Value.string)) ∧ Hid (Below w.heap.size w wr)) (fun _ _ y _ => (s.size + 1 - intOf y).toNat)
  case atStart => exact ⟨[], 0, 0, PInv.zero s, fun _ => Nat.le_refl _, Nat.le_refl _, Nat.zero_le _, rfl, rfl, R0, (Below.refl _ _).alloc (Nat.le_refl _) _⟩
  case round =>
    obtain ⟨outs, f, i, PI, hfi, hoi, his, rfl, rfl, R, BW⟩ := hrel
    obtain ⟨aa, cap, hv⟩ := row_form R.out
    subst hv
    by_cases h1 : i < s.size
    · have hf := hfi (by omega)
      have ix := fun w => idx_at w s i h1
      have hb : (s[i].toNat < 256) := s[i].toNat_lt
      by_cases hc : s[i] = 32
      · have PN : Hid (PInv s (outs ++ [s.extract f i]) (i + 1) (i + 1)) := PI.out.cut h1 hc
        have hn : ((s[i].toNat : Int) == 32) = true := by rw [hc]; rfl
        have e1 : ((i : Int) == (s.size : Int)) = false := by simp; omega
        clear PI hfi hc
        generalize (s[i].toNat : Int) = z at *
        go_wp2_with (at_builtin; refine wpList_append_own _ rfl _ _ 37 rfl w.heap.size 9 i0 (.string ⟨#[]⟩) 1 16 Tryd.underlying37 hi hz0 hz1 hz2 rfl (by decide) _ _ _ rfl (R.out.alloc _) ⟨wr.heap.size, 0, none⟩ 1 1 [.string (s.extract f i)] rfl rfl ?c1 ?c2 ?c3 ?c4 ?c5 ?_)
        case c1 =>
          intro j u hj
          match j, hj with
          | 0, hj => simp at hj; subst hj; simp [Addr.add]
        case c2 => intro u hu; simp at hu; subst hu; rfl
        case c3 => unfold maxLen; omega
        case c4 => omega
        case c5 => have := BW.out.size; simp; omega
        · intro v' w2 hown' hgrow _
          have hob : ∀ b, (Value.slice aa outs.length cap).ownBlock = some b → w.heap.size ≤ b := fun b hb => (R.out.lt b hb).1
          have R' : Hid (w2.ownsRow w.heap.size 9 1 v' (outs ++ [s.extract f i]).length ((outs ++ [s.extract f i]).map Value.string)) := by
            show World.ownsRow _ _ _ _ _ _ _
            rw [List.map_append, List.length_append]
            exact hown'
          have B' : Hid (Below w.heap.size w w2) := (BW.out.alloc BW.out.size _).grown hgrow (by have := BW.out.size; simp; omega) hob
          clear hown' hgrow hob R BW
          go_wp2_with fail
          go_roundw
          case rel => exact ⟨outs ++ [s.extract f i], i + 1, i + 1, PN, fun _ => Nat.le_refl _, by simp; omega, by omega, by go_num, by go_num, R', B'⟩
          case measure => simp [intOf]; omega
      · have PN : Hid (PInv s outs f (i + 1)) := PI.out.go h1 hc
        have hn : ((s[i].toNat : Int) == 32) = false := by
          rw [beq_eq_false_iff_ne]
          intro e
          exact hc (UInt8.toNat_inj.1 (by show s[i].toNat = 32; omega))
        have e1 : ((i : Int) == (s.size : Int)) = false := by simp; omega
        clear PI hfi hc
        generalize (s[i].toNat : Int) = z at *
        go_wp2_with fail
        go_roundw
        case rel => exact ⟨outs, f, i + 1, PN, fun _ => by omega, by omega, by omega, rfl, by go_num, R, BW⟩
        case measure => simp [intOf]; omega
    · by_cases h2 : i = s.size
      · subst h2
        have hf := hfi (by omega)
        have PN : Hid (PInv s (outs ++ [s.extract f s.size]) (s.size + 1) (s.size + 1)) := PI.out.last
        clear PI hfi
        go_wp2_with (at_builtin; refine wpList_append_own _ rfl _ _ 37 rfl w.heap.size 9 i0 (.string ⟨#[]⟩) 1 16 Tryd.underlying37 hi hz0 hz1 hz2 rfl (by decide) _ _ _ rfl (R.out.alloc _) ⟨wr.heap.size, 0, none⟩ 1 1 [.string (s.extract f s.size)] rfl rfl ?c1 ?c2 ?c3 ?c4 ?c5 ?_)
        case c1 =>
          intro j u hj
          match j, hj with
          | 0, hj => simp at hj; subst hj; simp [Addr.add]
        case c2 => intro u hu; simp at hu; subst hu; rfl
        case c3 => unfold maxLen; omega
        case c4 => omega
        case c5 => have := BW.out.size; simp; omega
        · intro v' w2 hown' hgrow _
          have hob : ∀ b, (Value.slice aa outs.length cap).ownBlock = some b → w.heap.size ≤ b := fun b hb => (R.out.lt b hb).1
          have R' : Hid (w2.ownsRow w.heap.size 9 1 v' (outs ++ [s.extract f s.size]).length ((outs ++ [s.extract f s.size]).map Value.string)) := by
            show World.ownsRow _ _ _ _ _ _ _
            rw [List.map_append, List.length_append]
            exact hown'
          have B' : Hid (Below w.heap.size w w2) := (BW.out.alloc BW.out.size _).grown hgrow (by have := BW.out.size; simp; omega) hob
          clear hown' hgrow hob R BW
          go_wp2_with fail
          go_roundw
          case rel => exact ⟨outs ++ [s.extract f s.size], s.size + 1, s.size + 1, PN, fun _ => Nat.le_refl _, by simp; omega, by omega, by go_num, by go_num, R', B'⟩
          case measure => simp [intOf]
      · have h3 : (s.size : Int) < (i : Int) := by omega
        have ED : Hid (outs = pcs s) := PI.out.done (by omega)
        clear PI hfi
        go_wp2_with fail
        go_ret
        have := ED.out
        subst this
        exact ⟨_, rfl, R.out, BW.out⟩
end Go.Proofs.YtepofpmdkphhdaaDoor.Head
