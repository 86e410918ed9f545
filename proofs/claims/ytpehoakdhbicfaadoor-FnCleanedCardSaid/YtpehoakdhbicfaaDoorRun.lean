/- The model's reading of one rune: it tells what the language's own reading tells. -/
import Derived.Test.YtpehoakdhbicfaaDoorRu
import Derived.ProofKit
import Derived.WalkSpells
import Derived.WalkLawsBesides
import Derived.WalkSmall
import Derived.Below
namespace Go.Proofs.YtpehoakdhbicfaaDoor.Ru
open Go.ChangeShapes Go.WideShapes Go.ChangeAt Go.RowKit

theorem index_at (w : World) (s : ByteArray) (k : Nat) (hk : k < s.size) :
    (Instr.index 9 (.string s) (.int .i64 (k : Int))).run Tryd.prog w = .ok (.int .u8 (bt s k)) w := by
  rw [run_index_string w 9 s .i64 (k : Int) Tryd.underlying9]
  simp [hk, bt_at]
theorem index_at2 (w : World) (s : ByteArray) (p m : Nat) (hk : p + m < s.size) :
    (Instr.index 9 (.string s) (.int .i64 ((p : Int) + (m : Int)))).run Tryd.prog w = .ok (.int .u8 (bt s (p + m))) w := by
  have := index_at w s (p + m) hk
  rwa [Int.natCast_add] at this

theorem acc_step (s : ByteArray) (p r m : Nat) (h : 1 ≤ m) : acc s p r m = acc s p r (m - 1) * 64 + bt s (p + m) - 128 := by
  obtain ⟨k, rfl⟩ : ∃ k, m = k + 1 := ⟨m - 1, by omega⟩
  rfl
theorem okc_step {s : ByteArray} {p m : Nat} (h : 1 ≤ m) (hk : okc s p (m - 1)) (hc : co s (p + m)) : okc s p m := by
  obtain ⟨k, rfl⟩ : ∃ k, m = k + 1 := ⟨m - 1, by omega⟩
  exact ⟨hk, hc⟩

def Said (s : ByteArray) (p : Nat) (w : World) : Ending → World → Prop := fun e w' => e = .returned (.tuple #[.int .i64 (rn s p), .int .i64 (wd s p)]) ∧ w' = w
theorem said_of {s : ByteArray} {p : Nat} {w : World} {a b : Int} (h : rn s p = a ∧ (wd s p : Int) = b) : Said s p w (.returned (.tuple #[.int .i64 a, .int .i64 b])) w := by
  unfold Said
  rw [h.1, h.2]
  exact ⟨rfl, rfl⟩
theorem said_bad {s : ByteArray} {p : Nat} {w : World} (h : rn s p = -1 ∧ wd s p = 1) : Said s p w (.returned (.tuple #[.int .i64 (-1), .int .i64 1])) w := said_of ⟨h.1, by rw [h.2]; rfl⟩

set_option maxHeartbeats 1000000 in
set_option maxRecDepth 8000 in
theorem rune_low (s : ByteArray) (p : Nat) (w : World) (hp : p < s.size) (h : bt s p < 128) :
    Calls Tryd.prog 22 #[.string s, .int .i64 p] w (Said s p w) := by
  have hx := index_at w s p hp
  have S : Hid (Said s p w (.returned (.tuple #[.int .i64 (bt s p : Int), .int .i64 1])) w) := said_of (by
    have := rn_good (dec_one h) (.inl (by omega))
    exact ⟨this.1, by rw [this.2]; rfl⟩)
  generalize bt s p = z at hx S h
  generalize hQ : Said s p w = Q at S ⊢
  clear hQ
  go_enter Tryd.func22, Tryd.ntmps22
  go_wp2
  exact S.out
set_option maxHeartbeats 1000000 in
set_option maxRecDepth 8000 in
theorem rune_none (s : ByteArray) (p : Nat) (w : World) (hp : p < s.size) (h : (128 ≤ bt s p ∧ bt s p < 192) ∨ 248 ≤ bt s p) :
    Calls Tryd.prog 22 #[.string s, .int .i64 p] w (Said s p w) := by
  have hx := index_at w s p hp
  have S : Hid (Said s p w (.returned (.tuple #[.int .i64 (-1), .int .i64 1])) w) := said_bad (rn_bad (dec_none h))
  have hl := bt_lt s p
  generalize bt s p = z at hx h hl
  generalize hQ : Said s p w = Q at S ⊢
  clear hQ
  rcases h with h | h
  · go_enter Tryd.func22, Tryd.ntmps22
    go_wp2
    exact S.out
  · go_enter Tryd.func22, Tryd.ntmps22
    go_wp2
    exact S.out

set_option maxHeartbeats 2000000 in
set_option maxRecDepth 8000 in
theorem rune_two (s : ByteArray) (p : Nat) (w : World) (hs : s.size ≤ 4194304) (hp : p < s.size) (h1 : 192 ≤ bt s p) (h2 : bt s p < 224) :
    Calls Tryd.prog 22 #[.string s, .int .i64 p] w (Said s p w) := by
  have hx := index_at w s p hp
  have M : Hid (Many s p 2 128 192) := many_two h1 h2
  have hl := bt_lt s p
  obtain ⟨r0, hr0⟩ : ∃ r0, r0 = bt s p - 192 := ⟨_, rfl⟩
  have AB : Hid (∀ m, m ≤ 3 → acc s p r0 m ≤ 20000000) := acc_bd s p r0 (by rw [hr0]; omega)
  have BAD : Hid (∀ m, 1 ≤ m → m < 2 → ¬ co s (p + m) → Said s p w (.returned (.tuple #[.int .i64 (-1), .int .i64 1])) w) := fun m a b c => said_bad (many_bad M.out a b c)
  have WR : Hid (∀ A, acc s p r0 (2 - 1) = A → ¬ good 128 A → Said s p w (.returned (.tuple #[.int .i64 (-1), .int .i64 1])) w) := fun A a c => said_bad (many_wrong M.out (by rw [← hr0]; exact a) c)
  have GO : Hid (∀ A : Nat, okc s p (2 - 1) → acc s p r0 (2 - 1) = A → good 128 A → Said s p w (.returned (.tuple #[.int .i64 A, .int .i64 2])) w) := fun A a b c => said_of (by
    have := many_good M.out a (by rw [← hr0]; exact b) c
    exact ⟨this.1, by rw [this.2]; rfl⟩)
  have hz : (bt s p : Int) - 192 = (r0 : Int) := by omega
  have HZ : Hid ((bt s p : Int) - 192 = ((acc s p r0 (1 - 1) : Nat) : Int)) := hz
  clear M hr0 hz
  generalize bt s p = z at hx h1 h2 hl HZ
  generalize hQ : Said s p w = Q at BAD WR GO ⊢
  clear hQ
  go_enter Tryd.func22, Tryd.ntmps22
  go_wp2
  go_loop [9, 10] (fun r i => ∃ m : Nat, 1 ≤ m ∧ m ≤ 2 ∧ i = .int .i64 (m : Int) ∧ Hid (r = .int .i64 ((acc s p r0 (m - 1) : Nat) : Int)) ∧ Hid (okc s p (m - 1))) (fun _ i => (2 - intOf i).toNat)
  case atStart => exact ⟨1, by omega, by omega, rfl, congrArg (Value.int .i64) HZ.out, trivial⟩
  case round =>
    obtain ⟨m, m1, m2, rfl, HR, HK⟩ := hrel
    have hr := HR.out
    subst hr
    clear HR
    have hab := AB.out (m - 1) (by omega)
    obtain ⟨R, hR⟩ : ∃ R, R = acc s p r0 (m - 1) := ⟨_, rfl⟩
    rw [← hR] at hab ⊢
    have HR : Hid (R = acc s p r0 (m - 1)) := hR
    clear hR
    by_cases hm : m < 2
    · by_cases hc : p + m < s.size
      · have hy := index_at2 w s p m hc
        have hbl := bt_lt s (p + m)
        have ST : Hid (acc s p r0 m = R * 64 + bt s (p + m) - 128) := by
          show _ = _
          rw [acc_step s p r0 m m1, ← HR.out]
        have NC : Hid (bt s (p + m) < 128 ∨ 192 ≤ bt s (p + m) → ¬ co s (p + m)) := fun a b => by
          have := b.2
          omega
        have YC : Hid (128 ≤ bt s (p + m) → bt s (p + m) < 192 → co s (p + m)) := fun a b => ⟨hc, a, b⟩
        generalize bt s (p + m) = z2 at hy hbl ST NC YC
        by_cases g1 : z2 < 128
        · go_wp2
          exact BAD.out m m1 hm (NC.out (.inl g1))
        · by_cases g2 : 192 ≤ z2
          · go_wp2
            exact BAD.out m m1 hm (NC.out (.inr g2))
          · go_wp2
            go_round
            case rel =>
              refine ⟨_, _, _, _, ⟨m + 1, by omega, by omega, rfl, ?_, okc_step m1 HK.out (YC.out (by omega) (by omega))⟩, rfl, rfl, rfl, rfl⟩
              show _ = Value.int .i64 ((acc s p r0 m : Nat) : Int)
              rw [ST.out]
              congr 1
              omega
            case measure => simp [intOf]; omega
      · have NC : Hid (¬ co s (p + m)) := fun b => hc b.1
        go_wp2
        exact BAD.out m m1 hm NC.out
    · have em : m = 2 := by omega
      subst em
      by_cases a1 : R < 128
      · go_wp2
        exact WR.out R HR.out.symm (fun g => by have := g.1; omega)
      · by_cases a2 : R ≤ 1114111
        · by_cases a3 : 55296 ≤ R
          · by_cases a4 : R < 57344
            · go_wp2
              exact WR.out R HR.out.symm (fun g => g.2.2 ⟨a3, a4⟩)
            · go_wp2
              exact GO.out R HK.out HR.out.symm ⟨by omega, a2, by omega⟩
          · go_wp2
            exact GO.out R HK.out HR.out.symm ⟨by omega, a2, by omega⟩
        · go_wp2
          exact WR.out R HR.out.symm (fun g => a2 g.2.1)

set_option maxHeartbeats 2000000 in
set_option maxRecDepth 8000 in
theorem rune_three (s : ByteArray) (p : Nat) (w : World) (hs : s.size ≤ 4194304) (hp : p < s.size) (h1 : 224 ≤ bt s p) (h2 : bt s p < 240) :
    Calls Tryd.prog 22 #[.string s, .int .i64 p] w (Said s p w) := by
  have hx := index_at w s p hp
  have M : Hid (Many s p 3 2048 224) := many_three h1 h2
  have hl := bt_lt s p
  obtain ⟨r0, hr0⟩ : ∃ r0, r0 = bt s p - 224 := ⟨_, rfl⟩
  have AB : Hid (∀ m, m ≤ 3 → acc s p r0 m ≤ 20000000) := acc_bd s p r0 (by rw [hr0]; omega)
  have BAD : Hid (∀ m, 1 ≤ m → m < 3 → ¬ co s (p + m) → Said s p w (.returned (.tuple #[.int .i64 (-1), .int .i64 1])) w) := fun m a b c => said_bad (many_bad M.out a b c)
  have WR : Hid (∀ A, acc s p r0 (3 - 1) = A → ¬ good 2048 A → Said s p w (.returned (.tuple #[.int .i64 (-1), .int .i64 1])) w) := fun A a c => said_bad (many_wrong M.out (by rw [← hr0]; exact a) c)
  have GO : Hid (∀ A : Nat, okc s p (3 - 1) → acc s p r0 (3 - 1) = A → good 2048 A → Said s p w (.returned (.tuple #[.int .i64 A, .int .i64 3])) w) := fun A a b c => said_of (by
    have := many_good M.out a (by rw [← hr0]; exact b) c
    exact ⟨this.1, by rw [this.2]; rfl⟩)
  have hz : (bt s p : Int) - 224 = (r0 : Int) := by omega
  have HZ : Hid ((bt s p : Int) - 224 = ((acc s p r0 (1 - 1) : Nat) : Int)) := hz
  clear M hr0 hz
  generalize bt s p = z at hx h1 h2 hl HZ
  generalize hQ : Said s p w = Q at BAD WR GO ⊢
  clear hQ
  go_enter Tryd.func22, Tryd.ntmps22
  go_wp2
  go_loop [9, 10] (fun r i => ∃ m : Nat, 1 ≤ m ∧ m ≤ 3 ∧ i = .int .i64 (m : Int) ∧ Hid (r = .int .i64 ((acc s p r0 (m - 1) : Nat) : Int)) ∧ Hid (okc s p (m - 1))) (fun _ i => (3 - intOf i).toNat)
  case atStart => exact ⟨1, by omega, by omega, rfl, congrArg (Value.int .i64) HZ.out, trivial⟩
  case round =>
    obtain ⟨m, m1, m2, rfl, HR, HK⟩ := hrel
    have hr := HR.out
    subst hr
    clear HR
    have hab := AB.out (m - 1) (by omega)
    obtain ⟨R, hR⟩ : ∃ R, R = acc s p r0 (m - 1) := ⟨_, rfl⟩
    rw [← hR] at hab ⊢
    have HR : Hid (R = acc s p r0 (m - 1)) := hR
    clear hR
    by_cases hm : m < 3
    · by_cases hc : p + m < s.size
      · have hy := index_at2 w s p m hc
        have hbl := bt_lt s (p + m)
        have ST : Hid (acc s p r0 m = R * 64 + bt s (p + m) - 128) := by
          show _ = _
          rw [acc_step s p r0 m m1, ← HR.out]
        have NC : Hid (bt s (p + m) < 128 ∨ 192 ≤ bt s (p + m) → ¬ co s (p + m)) := fun a b => by
          have := b.2
          omega
        have YC : Hid (128 ≤ bt s (p + m) → bt s (p + m) < 192 → co s (p + m)) := fun a b => ⟨hc, a, b⟩
        generalize bt s (p + m) = z2 at hy hbl ST NC YC
        by_cases g1 : z2 < 128
        · go_wp2
          exact BAD.out m m1 hm (NC.out (.inl g1))
        · by_cases g2 : 192 ≤ z2
          · go_wp2
            exact BAD.out m m1 hm (NC.out (.inr g2))
          · go_wp2
            go_round
            case rel =>
              refine ⟨_, _, _, _, ⟨m + 1, by omega, by omega, rfl, ?_, okc_step m1 HK.out (YC.out (by omega) (by omega))⟩, rfl, rfl, rfl, rfl⟩
              show _ = Value.int .i64 ((acc s p r0 m : Nat) : Int)
              rw [ST.out]
              congr 1
              omega
            case measure => simp [intOf]; omega
      · have NC : Hid (¬ co s (p + m)) := fun b => hc b.1
        go_wp2
        exact BAD.out m m1 hm NC.out
    · have em : m = 3 := by omega
      subst em
      by_cases a1 : R < 2048
      · go_wp2
        exact WR.out R HR.out.symm (fun g => by have := g.1; omega)
      · by_cases a2 : R ≤ 1114111
        · by_cases a3 : 55296 ≤ R
          · by_cases a4 : R < 57344
            · go_wp2
              exact WR.out R HR.out.symm (fun g => g.2.2 ⟨a3, a4⟩)
            · go_wp2
              exact GO.out R HK.out HR.out.symm ⟨by omega, a2, by omega⟩
          · go_wp2
            exact GO.out R HK.out HR.out.symm ⟨by omega, a2, by omega⟩
        · go_wp2
          exact WR.out R HR.out.symm (fun g => a2 g.2.1)
end Go.Proofs.YtpehoakdhbicfaaDoor.Ru
