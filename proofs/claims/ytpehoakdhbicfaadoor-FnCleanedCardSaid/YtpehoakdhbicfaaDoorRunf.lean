/- The model's reading of one rune of four bytes; of any. -/
import Derived.Test.YtpehoakdhbicfaaDoorRun
import Derived.Deep.CutBlock
import Derived.Deep.DeepCutAuto
namespace Go.Proofs.YtpehoakdhbicfaaDoor.Ru
open Go.ChangeShapes Go.WideShapes Go.ChangeAt Go.RowKit

set_option maxHeartbeats 2000000 in
set_option maxRecDepth 8000 in
theorem rune_four (s : ByteArray) (p : Nat) (w : World) (hs : s.size ≤ 4194304) (hp : p < s.size) (h1 : 240 ≤ bt s p) (h2 : bt s p < 248) :
    Calls Tryd.prog 22 #[.string s, .int .i64 p] w (Said s p w) := by
  have hx := index_at w s p hp
  have M : Hid (Many s p 4 65536 240) := many_four h1 h2
  have hl := bt_lt s p
  obtain ⟨r0, hr0⟩ : ∃ r0, r0 = bt s p - 240 := ⟨_, rfl⟩
  have AB : Hid (∀ m, m ≤ 3 → acc s p r0 m ≤ 20000000) := acc_bd s p r0 (by rw [hr0]; omega)
  have BAD : Hid (∀ m, 1 ≤ m → m < 4 → ¬ co s (p + m) → Said s p w (.returned (.tuple #[.int .i64 (-1), .int .i64 1])) w) := fun m a b c => said_bad (many_bad M.out a b c)
  have WR : Hid (∀ A, acc s p r0 (4 - 1) = A → ¬ good 65536 A → Said s p w (.returned (.tuple #[.int .i64 (-1), .int .i64 1])) w) := fun A a c => said_bad (many_wrong M.out (by rw [← hr0]; exact a) c)
  have GO : Hid (∀ A : Nat, okc s p (4 - 1) → acc s p r0 (4 - 1) = A → good 65536 A → Said s p w (.returned (.tuple #[.int .i64 A, .int .i64 4])) w) := fun A a b c => said_of (by
    have := many_good M.out a (by rw [← hr0]; exact b) c
    exact ⟨this.1, by rw [this.2]; rfl⟩)
  have hz : (bt s p : Int) - 240 = (r0 : Int) := by omega
  have HZ : Hid ((bt s p : Int) - 240 = ((acc s p r0 (1 - 1) : Nat) : Int)) := hz
  clear M hr0 hz
  generalize bt s p = z at hx h1 h2 hl HZ
  generalize hQ : Said s p w = Q at BAD WR GO ⊢
  clear hQ
  go_enter Tryd.func22, Tryd.ntmps22
  go_upto_block 0 with fail
  go_cut [7, 8, 9] (fun n low r wx => n = .int .i64 4 ∧ low = .int .i64 65536 ∧ r = .int .i64 ((z : Int) - 240) ∧ wx = w)
  case first =>
    go_wp2
    go_meet
    case rel => exact ⟨rfl, rfl, rfl, rfl⟩
  case rest =>
  obtain ⟨rfl, rfl, rfl, rfl⟩ := hcut
  go_wp2_with fail
  go_loop [9, 10] (fun r i => ∃ m : Nat, 1 ≤ m ∧ m ≤ 4 ∧ i = .int .i64 (m : Int) ∧ Hid (r = .int .i64 ((acc s p r0 (m - 1) : Nat) : Int)) ∧ Hid (okc s p (m - 1))) (fun _ i => (4 - intOf i).toNat)
  case atStart => exact ⟨1, by omega, by omega, rfl, congrArg (Value.int .i64) HZ.out, trivial⟩
  case round =>
    obtain ⟨m, m1, m2, rfl, HR, HK⟩ := hrel
    have hr := HR.out
    subst hr
    clear HR
    have hab := AB.out (m - 1) (by omega)
    obtain ⟨R, hR⟩ : ∃ R, R = acc s p r0 (m - 1) := ⟨_, rfl⟩
    rw [← hR] at hab ⊢
    have HR : Hid (R = acc s p r0 (m - 1)) := hR
    clear hR
    by_cases hm : m < 4
    · by_cases hc : p + m < s.size
      · have hy := fun w => index_at2 w s p m hc
        have hbl := bt_lt s (p + m)
        have ST : Hid (acc s p r0 m = R * 64 + bt s (p + m) - 128) := by
          show _ = _
          rw [acc_step s p r0 m m1, ← HR.out]
        have NC : Hid (bt s (p + m) < 128 ∨ 192 ≤ bt s (p + m) → ¬ co s (p + m)) := fun a b => by
          have := b.2
          omega
        have YC : Hid (128 ≤ bt s (p + m) → bt s (p + m) < 192 → co s (p + m)) := fun a b => ⟨hc, a, b⟩
        generalize bt s (p + m) = z2 at hy hbl ST NC YC
        by_cases g1 : z2 < 128
        · go_wp2
          exact BAD.out m m1 hm (NC.out (.inl g1))
        · by_cases g2 : 192 ≤ z2
          · go_wp2
            exact BAD.out m m1 hm (NC.out (.inr g2))
          · go_wp2
            go_round
            case rel =>
              refine ⟨m + 1, by omega, by omega, rfl, ?_, okc_step m1 HK.out (YC.out (by omega) (by omega))⟩
              show _ = Value.int .i64 ((acc s p r0 m : Nat) : Int)
              rw [ST.out]
              congr 1
              omega
            case measure => simp [intOf]; omega
      · have NC : Hid (¬ co s (p + m)) := fun b => hc b.1
        go_wp2
        exact BAD.out m m1 hm NC.out
    · have em : m = 4 := by omega
      subst em
      by_cases a1 : R < 65536
      · have d1 : decide ((R : Int) < 65536) = true := decide_eq_true (by omega)
        have A1 : Hid (R < 65536) := a1
        clear a1
        go_wp2
        exact WR.out R HR.out.symm (fun g => by have := g.1; have := A1.out; omega)
      · have d1 : decide ((R : Int) < 65536) = false := decide_eq_false (by omega)
        have d2 : decide (55296 ≤ (R : Int)) = true := decide_eq_true (by omega)
        have d3 : decide ((R : Int) < 57344) = false := decide_eq_false (by omega)
        have A1 : Hid (¬ R < 65536) := a1
        clear a1
        by_cases a2 : R ≤ 1114111
        · have d4 : decide (1114111 < (R : Int)) = false := decide_eq_false (by omega)
          have A2 : Hid (R ≤ 1114111) := a2
          clear a2
          go_wp2
          exact GO.out R HK.out HR.out.symm ⟨by have := A1.out; omega, A2.out, by have := A1.out; omega⟩
        · have d4 : decide (1114111 < (R : Int)) = true := decide_eq_true (by omega)
          have A2 : Hid (¬ R ≤ 1114111) := a2
          clear a2
          go_wp2
          exact WR.out R HR.out.symm (fun g => A2.out g.2.1)

/-- the model reads a rune as the language itself reads it; -1 and one byte where there is none -/
theorem rune_any (s : ByteArray) (p : Nat) (w : World) (hs : s.size ≤ 4194304) (hp : p < s.size) :
    Calls Tryd.prog 22 #[.string s, .int .i64 p] w (Said s p w) := by
  by_cases h1 : bt s p < 128
  · exact rune_low s p w hp h1
  by_cases h2 : bt s p < 192
  · exact rune_none s p w hp (.inl ⟨by omega, h2⟩)
  by_cases h3 : bt s p < 224
  · exact rune_two s p w hs hp (by omega) h3
  by_cases h4 : bt s p < 240
  · exact rune_three s p w hs hp (by omega) h4
  by_cases h5 : bt s p < 248
  · exact rune_four s p w hs hp (by omega) h5
  exact rune_none s p w hp (.inr (by omega))
end Go.Proofs.YtpehoakdhbicfaaDoor.Ru
