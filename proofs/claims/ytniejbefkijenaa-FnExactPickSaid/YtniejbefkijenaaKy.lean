/- Keys: their order, in the program and in its model. -/
import Derived.Test.YtniejbefkijenaaEo
import Derived.Laws.Cover1
import Derived.Sort.Walk0
namespace Go.Proofs.Ytniejbefkijenaa.Ky
open Go.ChangeShapes Go.WideShapes Go.ChangeAt Go.RowKit
open Al Eo

/-- What a comparison is like. -/
structure Cmp {α : Type} (c : α → α → Int) : Prop where
  rng : ∀ a b, -1 ≤ c a b ∧ c a b ≤ 1
  anti : ∀ a b, c b a = - c a b
  trans : ∀ a b d, c a b ≤ 0 → c b d ≤ 0 → c a d ≤ 0 ∧ (c a d = 0 → c a b = 0 ∧ c b d = 0)
  eqv : ∀ a b d, c a b = 0 → c a d = c b d
def lex {α : Type} (c d : α → α → Int) (a b : α) : Int := if c a b = 0 then d a b else c a b
theorem Cmp.lex {α : Type} {c d : α → α → Int} (hc : Cmp c) (hd : Cmp d) : Cmp (Ky.lex c d) where
  rng a b := by
    unfold Ky.lex
    split
    · exact hd.rng a b
    · exact hc.rng a b
  anti a b := by
    unfold Ky.lex
    have h1 := hc.anti a b
    have h2 := hd.anti a b
    by_cases e : c a b = 0
    · rw [if_pos e, if_pos (by omega), h2]
    · rw [if_neg e, if_neg (by omega), h1]
  trans a b x := by
    intro h1 h2
    unfold Ky.lex at *
    have t1 := hc.trans a b x
    have t2 := hd.trans a b x
    have q1 := hc.eqv a b x
    have a1 := hc.anti b x
    have a2 := hc.anti a x
    by_cases e1 : c a b = 0
    · rw [if_pos e1] at h1
      have q := q1 e1
      by_cases e2 : c b x = 0
      · rw [if_pos e2] at h2
        rw [if_pos (by omega), if_pos e1, if_pos e2]
        exact t2 h1 h2
      · rw [if_neg e2] at h2
        rw [if_neg (by omega)]
        refine ⟨by omega, fun h => absurd h (by omega)⟩
    · rw [if_neg e1] at h1
      by_cases e2 : c b x = 0
      · have t := t1 h1 (by omega)
        have ne : ¬ c a x = 0 := fun h => e1 (t.2 h).1
        rw [if_neg ne]
        exact ⟨t.1, fun h => absurd h ne⟩
      · rw [if_neg e2] at h2
        have t := t1 h1 h2
        have ne : ¬ c a x = 0 := fun h => e1 (t.2 h).1
        rw [if_neg ne]
        exact ⟨t.1, fun h => absurd h ne⟩
  eqv a b x := by
    intro h
    unfold Ky.lex at *
    have q1 := hc.eqv a b x
    have q2 := hd.eqv a b x
    by_cases e1 : c a b = 0
    · rw [if_pos e1] at h
      rw [q1 e1, q2 h]
    · rw [if_neg e1] at h
      exact absurd h e1
def ic (a b : Int) : Int := if a < b then -1 else if b < a then 1 else 0
theorem ic_cmp {α : Type} (f : α → Int) : Cmp (fun a b => ic (f a) (f b)) where
  rng a b := by show -1 ≤ ic (f a) (f b) ∧ ic (f a) (f b) ≤ 1; unfold ic; split <;> (try split) <;> omega
  anti a b := by show ic (f b) (f a) = - ic (f a) (f b); unfold ic; repeat' split <;> omega
  trans a b d := by
    show ic (f a) (f b) ≤ 0 → ic (f b) (f d) ≤ 0 → ic (f a) (f d) ≤ 0 ∧ (ic (f a) (f d) = 0 → ic (f a) (f b) = 0 ∧ ic (f b) (f d) = 0)
    unfold ic
    repeat' split <;> omega
  eqv a b d := by
    show ic (f a) (f b) = 0 → ic (f a) (f d) = ic (f b) (f d)
    unfold ic
    intro h
    have : f a = f b := by
      revert h
      split
      · omega
      · split <;> omega
    rw [this]
def sc (p q : ByteArray) : Int := if Op.bytesLess p.toList q.toList then -1 else if p.toList == q.toList then 0 else 1
theorem bl (x y : List UInt8) : Op.bytesLess x y = decide (x < y) := bytesLess_eq x y
theorem sc_eq (p q : ByteArray) : sc p q = if p.toList < q.toList then -1 else if q.toList < p.toList then 1 else 0 := by
  unfold sc
  rw [bl]
  by_cases h : p.toList < q.toList
  · simp [h]
  · by_cases h2 : q.toList < p.toList
    · have ne : ¬ p.toList = q.toList := fun e => by rw [e] at h2; exact absurd h2 (List.lt_irrefl _)
      simp [h, h2, ne]
    · have e : p.toList = q.toList := List.le_antisymm (List.not_lt.1 h2) (List.not_lt.1 h)
      simp [e, List.lt_irrefl]
theorem sc_cmp {α : Type} (f : α → ByteArray) : Cmp (fun a b => sc (f a) (f b)) where
  rng a b := by show -1 ≤ sc (f a) (f b) ∧ sc (f a) (f b) ≤ 1; rw [sc_eq]; split <;> (try split) <;> omega
  anti a b := by
    show sc (f b) (f a) = - sc (f a) (f b)
    rw [sc_eq, sc_eq]
    by_cases h : (f a).toList < (f b).toList
    · rw [if_pos h, if_neg (List.lt_asymm h), if_pos h]; rfl
    · by_cases h2 : (f b).toList < (f a).toList
      · simp [h, h2]
      · simp [h, h2]
  trans a b d := by
    show sc (f a) (f b) ≤ 0 → sc (f b) (f d) ≤ 0 → sc (f a) (f d) ≤ 0 ∧ (sc (f a) (f d) = 0 → sc (f a) (f b) = 0 ∧ sc (f b) (f d) = 0)
    rw [sc_eq, sc_eq, sc_eq]
    generalize (f a).toList = x
    generalize (f b).toList = y
    generalize (f d).toList = z
    by_cases h1 : x < y
    · rw [if_pos h1]
      by_cases h2 : y < z
      · rw [if_pos h2, if_pos (List.lt_trans h1 h2)]; omega
      · rw [if_neg h2]
        by_cases h3 : z < y
        · rw [if_pos h3]; omega
        · have e : y = z := List.le_antisymm (List.not_lt.1 h3) (List.not_lt.1 h2)
          subst e
          rw [if_pos h1]; omega
    · rw [if_neg h1]
      by_cases h2 : y < x
      · rw [if_pos h2]; omega
      · have e : x = y := List.le_antisymm (List.not_lt.1 h2) (List.not_lt.1 h1)
        subst e
        rw [if_neg h2]
        intro _ h
        exact ⟨h, fun h => ⟨rfl, h⟩⟩
  eqv a b d := by
    show sc (f a) (f b) = 0 → sc (f a) (f d) = sc (f b) (f d)
    rw [sc_eq, sc_eq, sc_eq]
    generalize (f a).toList = x
    generalize (f b).toList = y
    generalize (f d).toList = z
    intro h
    have e : x = y := by
      by_cases h1 : x < y
      · rw [if_pos h1] at h; omega
      · rw [if_neg h1] at h
        by_cases h2 : y < x
        · rw [if_pos h2] at h; omega
        · exact List.le_antisymm (List.not_lt.1 h2) (List.not_lt.1 h1)
    rw [e]
abbrev En1 := ByteArray × Int × Int × Int × Int
def ky (a b : En1) : Int := lex (fun a b => sc a.1 b.1) (lex (fun a b => ic a.2.1 b.2.1) (lex (fun a b => ic a.2.2.1 b.2.2.1) (fun a b => ic a.2.2.2.1 b.2.2.2.1))) a b
theorem ky_cmp : Cmp ky := (sc_cmp _).lex ((ic_cmp _).lex ((ic_cmp _).lex (ic_cmp _)))

set_option maxHeartbeats 1000000 in
theorem scmp_any (p q : ByteArray) (w : World) : Calls Try.prog 59 #[.string p, .string q] w fun e w' => e = .returned (.int .i64 (sc p q)) ∧ w' = w := by
  unfold sc
  cases h1 : Op.bytesLess p.toList q.toList
  · cases h2 : (p.toList == q.toList)
    · go_enter Try.func59, Try.ntmps59
      go_wp2
      go_ret
      exact ⟨rfl, rfl⟩
    · go_enter Try.func59, Try.ntmps59
      go_wp2
      go_ret
      exact ⟨rfl, rfl⟩
  · go_enter Try.func59, Try.ntmps59
    go_wp2
    go_ret
    exact ⟨rfl, rfl⟩
set_option maxHeartbeats 1000000 in
theorem icmp_any (a b : Int) (w : World) : Calls Try.prog 60 #[.int .i64 a, .int .i64 b] w fun e w' => e = .returned (.int .i64 (ic a b)) ∧ w' = w := by
  unfold ic
  by_cases h1 : a < b
  · rw [if_pos h1]
    go_enter Try.func60, Try.ntmps60
    go_wp2
    go_ret
    exact ⟨rfl, rfl⟩
  · rw [if_neg h1]
    by_cases h2 : b < a
    · rw [if_pos h2]
      go_enter Try.func60, Try.ntmps60
      go_wp2
      go_ret
      exact ⟨rfl, rfl⟩
    · rw [if_neg h2]
      go_enter Try.func60, Try.ntmps60
      go_wp2
      go_ret
      exact ⟨rfl, rfl⟩
def fz (x0 x1 x2 x3 : Int) : Int := if x0 = 0 then (if x1 = 0 then (if x2 = 0 then x3 else x2) else x1) else x0
set_option maxHeartbeats 1000000 in
theorem or_any (S : Nat) (x0 x1 x2 x3 : Int) (w : World) (c0 : w.cell? ⟨S, 0, none⟩ = some (.int .i64 x0)) (c1 : w.cell? ⟨S, 1, none⟩ = some (.int .i64 x1)) (c2 : w.cell? ⟨S, 2, none⟩ = some (.int .i64 x2)) (c3 : w.cell? ⟨S, 3, none⟩ = some (.int .i64 x3)) :
    Calls Try.prog 58 #[.slice (some ⟨S, 0, none⟩) 4 4] w fun e w' => e = .returned (.int .i64 (fz x0 x1 x2 x3)) ∧ w' = w := by
  obtain ⟨r, hr⟩ : ∃ r, r = fz x0 x1 x2 x3 := ⟨_, rfl⟩
  have HR : Hid (r = fz x0 x1 x2 x3) := hr
  rw [← hr]
  clear hr
  go_enter Try.func58, Try.ntmps58
  go_wp2_with fail
  go_loopw [8] (fun i wr => wr = w ∧ ∃ k : Nat, k ≤ 4 ∧ i = .int .i64 k ∧ Hid ((0 < k → x0 = 0) ∧ (1 < k → x1 = 0) ∧ (2 < k → x2 = 0) ∧ (3 < k → x3 = 0))) (fun i _ => 4 - (intOf i).toNat)
  case atStart => exact ⟨rfl, 0, by omega, rfl, by refine ⟨?_, ?_, ?_, ?_⟩ <;> (intro h; omega)⟩
  case round =>
    obtain ⟨hw, k, hk, rfl, HK⟩ := hrel
    subst hw
    by_cases k4 : k = 4
    · subst k4
      have E : Hid (r = 0) := (by show _ = _; rw [HR.out]; unfold fz; rw [HK.out.1 (by omega), HK.out.2.1 (by omega), HK.out.2.2.1 (by omega), HK.out.2.2.2 (by omega)]; rfl)
      go_wp2_with fail
      go_ret
      exact ⟨by rw [E.out]; rfl, rfl⟩
    · have : k = 0 ∨ k = 1 ∨ k = 2 ∨ k = 3 := by omega
      rcases this with rfl | rfl | rfl | rfl
      · by_cases hz : x0 = 0
        · have hz' : (x0 != 0) = false := by simp [hz]
          have HK' : Hid ((0 < 0+1 → x0 = 0) ∧ (1 < 0+1 → x1 = 0) ∧ (2 < 0+1 → x2 = 0) ∧ (3 < 0+1 → x3 = 0)) := (by
            refine ⟨?_, ?_, ?_, ?_⟩
            · intro _; exact hz
            · intro h; omega
            · intro h; omega
            · intro h; omega)
          clear hz
          go_wp2_with fail
          go_roundw
          case rel => exact ⟨trivial, 1, by omega, rfl, HK'⟩
          case measure => simp [intOf]
        · have hz' : (x0 != 0) = true := by simpa using hz
          have E : Hid (r = x0) := (by show _ = _; rw [HR.out]; unfold fz; rw [if_neg hz])
          clear hz
          go_wp2_with fail
          go_ret
          exact ⟨by rw [E.out]; rfl, rfl⟩
      · by_cases hz : x1 = 0
        · have hz' : (x1 != 0) = false := by simp [hz]
          have HK' : Hid ((0 < 1+1 → x0 = 0) ∧ (1 < 1+1 → x1 = 0) ∧ (2 < 1+1 → x2 = 0) ∧ (3 < 1+1 → x3 = 0)) := (by
            refine ⟨?_, ?_, ?_, ?_⟩
            · intro _; exact HK.out.1 (by omega)
            · intro _; exact hz
            · intro h; omega
            · intro h; omega)
          clear hz
          go_wp2_with fail
          go_roundw
          case rel => exact ⟨trivial, 2, by omega, rfl, HK'⟩
          case measure => simp [intOf]
        · have hz' : (x1 != 0) = true := by simpa using hz
          have E : Hid (r = x1) := (by show _ = _; rw [HR.out]; unfold fz; rw [if_pos (HK.out.1 (by omega)), if_neg hz])
          clear hz
          go_wp2_with fail
          go_ret
          exact ⟨by rw [E.out]; rfl, rfl⟩
      · by_cases hz : x2 = 0
        · have hz' : (x2 != 0) = false := by simp [hz]
          have HK' : Hid ((0 < 2+1 → x0 = 0) ∧ (1 < 2+1 → x1 = 0) ∧ (2 < 2+1 → x2 = 0) ∧ (3 < 2+1 → x3 = 0)) := (by
            refine ⟨?_, ?_, ?_, ?_⟩
            · intro _; exact HK.out.1 (by omega)
            · intro _; exact HK.out.2.1 (by omega)
            · intro _; exact hz
            · intro h; omega)
          clear hz
          go_wp2_with fail
          go_roundw
          case rel => exact ⟨trivial, 3, by omega, rfl, HK'⟩
          case measure => simp [intOf]
        · have hz' : (x2 != 0) = true := by simpa using hz
          have E : Hid (r = x2) := (by show _ = _; rw [HR.out]; unfold fz; rw [if_pos (HK.out.1 (by omega)), if_pos (HK.out.2.1 (by omega)), if_neg hz])
          clear hz
          go_wp2_with fail
          go_ret
          exact ⟨by rw [E.out]; rfl, rfl⟩
      · by_cases hz : x3 = 0
        · have hz' : (x3 != 0) = false := by simp [hz]
          have HK' : Hid ((0 < 3+1 → x0 = 0) ∧ (1 < 3+1 → x1 = 0) ∧ (2 < 3+1 → x2 = 0) ∧ (3 < 3+1 → x3 = 0)) := (by
            refine ⟨?_, ?_, ?_, ?_⟩
            · intro _; exact HK.out.1 (by omega)
            · intro _; exact HK.out.2.1 (by omega)
            · intro _; exact HK.out.2.2.1 (by omega)
            · intro _; exact hz)
          clear hz
          go_wp2_with fail
          go_roundw
          case rel => exact ⟨trivial, 4, by omega, rfl, HK'⟩
          case measure => simp [intOf]
        · have hz' : (x3 != 0) = true := by simpa using hz
          have E : Hid (r = x3) := (by show _ = _; rw [HR.out]; unfold fz; rw [if_pos (HK.out.1 (by omega)), if_pos (HK.out.2.1 (by omega)), if_pos (HK.out.2.2.1 (by omega))])
          clear hz
          go_wp2_with fail
          go_ret
          exact ⟨by rw [E.out]; rfl, rfl⟩

theorem ky_lt (a b : En1) : decide (ky a b < 0) = (if (!(a.1.toList == b.1.toList)) then Op.bytesLess a.1.toList b.1.toList else if a.2.1 != b.2.1 then decide (a.2.1 < b.2.1) else if a.2.2.1 != b.2.2.1 then decide (a.2.2.1 < b.2.2.1) else decide (a.2.2.2.1 < b.2.2.2.1)) := by
  have i0 : ∀ x y : Int, (ic x y < 0) ↔ x < y := fun x y => by unfold ic; split <;> (try split) <;> omega
  have i1 : ∀ x y : Int, (ic x y = 0) ↔ x = y := fun x y => by unfold ic; split <;> (try split) <;> omega
  have s1 : ∀ p q : ByteArray, (sc p q = 0) ↔ (p.toList == q.toList) = true := fun p q => by
    unfold sc
    cases h : Op.bytesLess p.toList q.toList
    · cases h2 : (p.toList == q.toList) <;> simp
    · simp
      intro e
      rw [e, bl] at h
      simp [List.lt_irrefl] at h
  have s0 : ∀ p q : ByteArray, (p.toList == q.toList) = false → decide (sc p q < 0) = Op.bytesLess p.toList q.toList := fun p q e => by
    unfold sc
    rw [e]
    cases h : Op.bytesLess p.toList q.toList <;> simp
  unfold ky lex
  cases hs : (a.1.toList == b.1.toList)
  · have : ¬ sc a.1 b.1 = 0 := fun h => by rw [s1, hs] at h; cases h
    rw [if_neg this, s0 _ _ hs]
    rfl
  · rw [if_pos ((s1 _ _).2 hs)]
    by_cases h1 : a.2.1 = b.2.1
    · rw [if_pos ((i1 _ _).2 h1)]
      by_cases h2 : a.2.2.1 = b.2.2.1
      · rw [if_pos ((i1 _ _).2 h2)]
        simp [h1, h2, i0]
      · rw [if_neg (fun h => h2 ((i1 _ _).1 h))]
        simp [h1, h2, i0]
    · rw [if_neg (fun h => h1 ((i1 _ _).1 h))]
      simp [h1, i0]
theorem ky_fz (a b : En1) : ky a b = fz (sc a.1 b.1) (ic a.2.1 b.2.1) (ic a.2.2.1 b.2.2.1) (ic a.2.2.2.1 b.2.2.2.1) := rfl

set_option maxHeartbeats 1000000 in
theorem sahead_any (p q : ByteArray) (t s l z t' s' l' z' : Int) (w : World) : Calls Try.prog 28 #[.agg #[.string p, .int .i64 t, .int .i64 s, .int .i64 l, .int .i64 z], .agg #[.string q, .int .i64 t', .int .i64 s', .int .i64 l', .int .i64 z']] w fun e w' => e = .returned (.bool (decide (ky (p, t, s, l, z) (q, t', s', l', z') < 0))) ∧ Below w.heap.size w w' := by
  rw [ky_lt]
  have BB : Hid (Below w.heap.size w ((w.alloc (Obj.cells #[.string p, .int .i64 t, .int .i64 s, .int .i64 l, .int .i64 z] 31)).alloc (Obj.cells #[.string q, .int .i64 t', .int .i64 s', .int .i64 l', .int .i64 z'] 31))) := ((Below.refl _ _).alloc (Nat.le_refl _) _).alloc (by simp) _
  simp only []
  cases h0 : (p.toList == q.toList)
  · go_enter Try.func28, Try.ntmps28
    go_wp2_with fail
    go_ret
    exact ⟨rfl, BB.out⟩
  · cases h1 : (t != t')
    · cases h2 : (s != s')
      · go_enter Try.func28, Try.ntmps28
        go_wp2_with fail
        go_ret
        exact ⟨rfl, BB.out⟩
      · go_enter Try.func28, Try.ntmps28
        go_wp2_with fail
        go_ret
        exact ⟨rfl, BB.out⟩
    · go_enter Try.func28, Try.ntmps28
      go_wp2_with fail
      go_ret
      exact ⟨rfl, BB.out⟩

set_option maxHeartbeats 400000 in
theorem ibykey_any (p q : ByteArray) (t s l z t' s' l' z' : Int) (w : World) : Calls Try.prog 32 #[.agg #[.string p, .int .i64 t, .int .i64 s, .int .i64 l, .int .i64 z], .agg #[.string q, .int .i64 t', .int .i64 s', .int .i64 l', .int .i64 z']] w fun e w' => e = .returned (.int .i64 (ky (p, t, s, l, z) (q, t', s', l', z'))) ∧ Below w.heap.size w w' := by
  rw [ky_fz]
  have C0 : Hid (∀ w : World, Calls Try.prog 59 #[.string p, .string q] w fun e w' => e = .returned (.int .i64 (sc p q)) ∧ w' = w) := scmp_any p q
  have C1 : Hid (∀ w : World, Calls Try.prog 60 #[.int .i64 t, .int .i64 t'] w fun e w' => e = .returned (.int .i64 (ic t t')) ∧ w' = w) := icmp_any t t'
  have C2 : Hid (∀ w : World, Calls Try.prog 60 #[.int .i64 s, .int .i64 s'] w fun e w' => e = .returned (.int .i64 (ic s s')) ∧ w' = w) := icmp_any s s'
  have C3 : Hid (∀ w : World, Calls Try.prog 60 #[.int .i64 l, .int .i64 l'] w fun e w' => e = .returned (.int .i64 (ic l l')) ∧ w' = w) := icmp_any l l'
  simp only []
  generalize sc p q = x0 at *
  generalize ic t t' = x1 at *
  generalize ic s s' = x2 at *
  generalize ic l l' = x3 at *
  obtain ⟨wb, hwb⟩ : ∃ wb, wb = ((w.alloc (Obj.cells #[.string p, .int .i64 t, .int .i64 s, .int .i64 l, .int .i64 z] 31)).alloc (Obj.cells #[.string q, .int .i64 t', .int .i64 s', .int .i64 l', .int .i64 z'] 31)) := ⟨_, rfl⟩
  have HWB : Hid (wb = ((w.alloc (Obj.cells #[.string p, .int .i64 t, .int .i64 s, .int .i64 l, .int .i64 z] 31)).alloc (Obj.cells #[.string q, .int .i64 t', .int .i64 s', .int .i64 l', .int .i64 z'] 31))) := hwb
  have BB : Hid (Below w.heap.size w wb) := (by show Below _ _ _; rw [hwb]; exact ((Below.refl _ _).alloc (Nat.le_refl _) _).alloc (by simp) _)
  have k0 : wb.cell? ⟨w.heap.size, 0, none⟩ = some (.string p) := by rw [hwb]; simp [go_sem]
  have k1 : wb.cell? ⟨w.heap.size, 1, none⟩ = some (.int .i64 t) := by rw [hwb]; simp [go_sem]
  have k2 : wb.cell? ⟨w.heap.size, 2, none⟩ = some (.int .i64 s) := by rw [hwb]; simp [go_sem]
  have k3 : wb.cell? ⟨w.heap.size, 3, none⟩ = some (.int .i64 l) := by rw [hwb]; simp [go_sem]
  have k4 : wb.cell? ⟨w.heap.size + 1, 0, none⟩ = some (.string q) := by rw [hwb]; simp [go_sem]
  have k5 : wb.cell? ⟨w.heap.size + 1, 1, none⟩ = some (.int .i64 t') := by rw [hwb]; simp [go_sem]
  have k6 : wb.cell? ⟨w.heap.size + 1, 2, none⟩ = some (.int .i64 s') := by rw [hwb]; simp [go_sem]
  have k7 : wb.cell? ⟨w.heap.size + 1, 3, none⟩ = some (.int .i64 l') := by rw [hwb]; simp [go_sem]
  clear hwb
  go_enter Try.func32, Try.ntmps32
  go_wp2_with fail
  rw [← HWB.out]
  go_region_held3 (fun w' => w'.cell? ⟨w.heap.size, 0, none⟩ = some (.string p) ∧ w'.cell? ⟨w.heap.size, 1, none⟩ = some (.int .i64 t) ∧ w'.cell? ⟨w.heap.size, 2, none⟩ = some (.int .i64 s) ∧ w'.cell? ⟨w.heap.size, 3, none⟩ = some (.int .i64 l) ∧ w'.cell? ⟨w.heap.size + 1, 0, none⟩ = some (.string q) ∧ w'.cell? ⟨w.heap.size + 1, 1, none⟩ = some (.int .i64 t') ∧ w'.cell? ⟨w.heap.size + 1, 2, none⟩ = some (.int .i64 s') ∧ w'.cell? ⟨w.heap.size + 1, 3, none⟩ = some (.int .i64 l')) (go_keep)
    (first
    | (go_at_call 59; refine (C0.out _).mono ?_; rintro e w1 ⟨rfl, hw⟩; subst hw)
    | (go_at_call_of 60 (Value.int .i64 t); refine (C1.out _).mono ?_; rintro e w1 ⟨rfl, hw⟩; subst hw)
    | (go_at_call_of 60 (Value.int .i64 s); refine (C2.out _).mono ?_; rintro e w1 ⟨rfl, hw⟩; subst hw)
    | (go_at_call_of 60 (Value.int .i64 l); refine (C3.out _).mono ?_; rintro e w1 ⟨rfl, hw⟩; subst hw)
    | (go_at_call 58; refine (or_any _ x0 x1 x2 x3 _ (by simp [go_sem]) (by simp [go_sem]) (by simp [go_sem]) (by simp [go_sem])).mono ?_; rintro e w1 ⟨rfl, hw⟩; subst hw))
  go_wp2_with fail
  go_ret
  exact ⟨rfl, (BB.out.alloc BB.out.size _).drew⟩
end Go.Proofs.Ytniejbefkijenaa.Ky
