/- Unwave of the program, outright. -/
import Derived.Test.YtpokbicnogcijaaUm
namespace Go.Proofs.Ytpokbicnogcijaa.Lists
open Go.ChangeShapes Go.WideShapes Go.ChangeAt Go.RowKit

/-- what Unwave answers -/
def UTo (w : World) (s n : Nat) (Z : List Int) (e : Ending) (w' : World) : Prop :=
  Below w.heap.size w w' ∧ ((∃ Y g' c', un n s Z = some Y ∧ e = .returned (.tuple #[.slice (some ⟨g', 0, none⟩) n c', .bool true]) ∧ w.heap.size ≤ g' ∧ w'.ownsRow w.heap.size 2 1 (.slice (some ⟨g', 0, none⟩) n c') n (ints Y)) ∨ (un n s Z = none ∧ e = .returned (.tuple #[.slice none 0 0, .bool false])))

set_option maxHeartbeats 1000000 in
theorem tried3_any (w : World) (s g n cap : Nat) (X : List Int) (hl : n ≤ 4096) (hg : g < w.heap.size) (hs : 1 ≤ s ∧ s ≤ 12) (hz : GZ n X) (K : ∀ i, i < n → w.cell? ⟨g, i, none⟩ = some (.int .i64 (X.getD i 0))) :
    Calls Try.prog 25 #[fnv2 s, .slice (some ⟨g, 0, none⟩) n cap] w fun e w' => UTo w s n X e w' := by
  obtain ⟨w1, hw1⟩ : ∃ w1, w1 = (w.alloc (.cells #[fnv2 s] 25)).alloc (.cells #[.slice (some ⟨g, 0, none⟩) n cap] 22) := ⟨_, rfl⟩
  have b1 : Below w.heap.size w w1 := by rw [hw1]; exact ((Below.refl _ _).alloc (Nat.le_refl _) _).alloc (by simp) _
  have sz : w1.heap.size = w.heap.size + 2 := by rw [hw1]; simp
  have P := caught3_any w1 w.heap.size (w.heap.size + 1) s g n cap X (by rw [hw1]; simp [go_sem]; rfl) (by rw [hw1]; simp [go_sem]) (by omega) (by omega) hl (by omega) hs hz (fun i hi => by rw [b1.cell (p := ⟨g, i, none⟩) hg]; exact K i hi)
  have HP : Hid (Calls Try.prog 29 #[.func (.func 30) #[] #[.pointer (some ⟨w.heap.size, 0, none⟩), .pointer (some ⟨w.heap.size + 1, 0, none⟩)]] ((w.alloc (.cells #[fnv2 s] 25)).alloc (.cells #[.slice (some ⟨g, 0, none⟩) n cap] 22)) fun e w' => Below w.heap.size w w' ∧ ((∃ Y g' c', un n s X = some Y ∧ e = .returned (.tuple #[.slice (some ⟨g', 0, none⟩) n c', .int .i64 0]) ∧ w.heap.size ≤ g' ∧ w'.ownsRow w.heap.size 2 1 (.slice (some ⟨g', 0, none⟩) n c') n (ints Y)) ∨ (un n s X = none ∧ e = .returned (.tuple #[.slice none 0 0, .int .i64 2])))) := (by
    show Calls _ _ _ _ _
    rw [← hw1]
    refine P.mono fun e w' h => ?_
    obtain ⟨h3, h⟩ := h
    refine ⟨b1.trans (h3.mono (by omega)), ?_⟩
    rcases h with ⟨Y, g', c', y1, he, h1, _, _, h2⟩ | h
    · refine .inl ⟨Y, g', c', y1, he, by omega, h2.1, ?_⟩
      rcases h2.2 with h | ⟨gx, cap, cur, h1, h2, h3⟩
      · exact .inl h
      · exact .inr ⟨gx, cap, cur, h1, by omega, h3⟩
    · exact .inr h)
  have hmf : ∀ (fn : Fn) (first cap : Array Value) (w : World), (Instr.makeFunc fn first cap).run Try.prog w = .ok (.func fn first cap) w := fun _ _ _ _ => rfl
  clear P K hz b1 sz hw1
  unfold fnv2 at HP ⊢
  go_enter Try.func25, Try.ntmps25
  go_wp2_with fail
  refine HP.out.mono ?_
  rintro e w2 ⟨b1, (⟨Y, g', c', y1, rfl, q1, o1⟩ | ⟨y1, rfl⟩)⟩
  · have O1 : Hid (w2.ownsRow w.heap.size 2 1 (.slice (some ⟨g', 0, none⟩) n c') n (ints Y)) := o1
    have B1 : Hid (Below w.heap.size w w2) := b1
    have Y1 : Hid (un n s X = some Y) := y1
    clear o1 b1 y1
    go_wp2_with fail
    go_ret2
    exact ⟨B1.out, .inl ⟨Y, _, _, Y1.out, rfl, q1, O1.out⟩⟩
  · have B1 : Hid (Below w.heap.size w w2) := b1
    have Y1 : Hid (un n s X = none) := y1
    clear b1 y1
    go_wp2_with fail
    go_ret2
    exact ⟨B1.out, .inr ⟨Y1.out, rfl⟩⟩

set_option maxHeartbeats 1000000 in
theorem back3_any (w : World) (s g n cap : Nat) (X : List Int) (hl : n ≤ 4096) (hg : g < w.heap.size) (hs : 1 ≤ s ∧ s ≤ 12) (hz : GZ n X) (K : ∀ i, i < n → w.cell? ⟨g, i, none⟩ = some (.int .i64 (X.getD i 0))) :
    Calls Try.prog 20 #[.iface 39 (.agg #[.int .i64 (s : Int)]), .slice (some ⟨g, 0, none⟩) n cap] w fun e w' => UTo w s n X e w' := by
  have HP : Hid (Calls Try.prog 25 #[fnv2 s, .slice (some ⟨g, 0, none⟩) n cap] w fun e w' => UTo w s n X e w') := tried3_any w s g n cap X hl hg hs hz K
  have hmf : ∀ (fn : Fn) (first cap : Array Value) (w : World), (Instr.makeFunc fn first cap).run Try.prog w = .ok (.func fn first cap) w := fun _ _ _ _ => rfl
  clear K hz
  unfold fnv2 at HP
  go_enter Try.func20, Try.ntmps20
  go_wp2_with fail
  refine HP.out.mono ?_
  rintro e w2 ⟨b1, (⟨Y, g', c', y1, rfl, q1, o1⟩ | ⟨y1, rfl⟩)⟩
  · have O1 : Hid (w2.ownsRow w.heap.size 2 1 (.slice (some ⟨g', 0, none⟩) n c') n (ints Y)) := o1
    have B1 : Hid (Below w.heap.size w w2) := b1
    have Y1 : Hid (un n s X = some Y) := y1
    clear o1 b1 y1
    go_wp2_with fail
    go_ret2
    exact ⟨B1.out, .inl ⟨Y, _, _, Y1.out, rfl, q1, O1.out⟩⟩
  · have B1 : Hid (Below w.heap.size w w2) := b1
    have Y1 : Hid (un n s X = none) := y1
    clear b1 y1
    go_wp2_with fail
    go_ret2
    exact ⟨B1.out, .inr ⟨Y1.out, rfl⟩⟩

/-- what is asked of the arguments -/
def uok (X : List Int) (s : Int) : Bool := okS s && sml 1152921504606846976 X
def ures (X : List Int) (s : Int) : Option (List Int) := if uok X s = true then un X.length s.toNat X else none
def IUo (w : World) (X : List Int) (s : Int) (e : Ending) (w' : World) : Prop :=
  Below w.heap.size w w' ∧ ∃ v, e = .returned (.tuple #[v, .bool (ures X s).isSome]) ∧ w'.ownsRow w.heap.size 2 1 v ((ures X s).getD []).length (ints ((ures X s).getD []))
theorem un_len : ∀ {n k : Nat} {Z Y : List Int}, un n k Z = some Y → Y.length = Z.length
  | _, 0, Z, Y, h => by unfold un at h; injection h with h; rw [h]
  | n, k + 1, Z, Y, h => by
    unfold un at h
    split at h
    · have := un_len h; rw [this, unj_len]
    · cases h
set_option maxHeartbeats 1000000 in
theorem iunwave_any (w : World) (s : Int) (g cap : Nat) (X : List Int) (hg : g < w.heap.size) (hc : X.length ≤ cap) (hcm : cap ≤ maxLen) (K : ∀ i, i < X.length → w.cell? ⟨g, i, none⟩ = some (.int .i64 (X.getD i 0))) :
    Calls Try.prog 7 #[.slice (some ⟨g, 0, none⟩) X.length cap, .int .i64 s] w fun e w' => IUo w X s e w' := by
  have R : Reads w (.slice (some ⟨g, 0, none⟩) X.length cap) X := .inr ⟨g, 0, cap, rfl, hc, hcm, hg, fun i hi => by rw [Nat.zero_add]; exact K i hi⟩
  have HI : Hid (Calls Try.prog 19 #[.slice (some ⟨g, 0, none⟩) X.length cap, .int .i64 1152921504606846976] w fun e w' => e = .returned (.bool (sml 1152921504606846976 X)) ∧ w' = w) := (by unfold maxLen at hcm; exact inum_any w _ X 1152921504606846976 R (by omega) (by omega) (by omega))
  have HW : Hid (Calls Try.prog 18 #[.int .i64 s, .int .i64 1, .int .i64 12] w fun e w' => e = .returned (.bool (okS s)) ∧ w' = w) := win_any s 1 12 w
  have NIL : ures X s = none → Hid (IUo w X s (.returned (.tuple #[.slice none 0 0, .bool false])) w) := fun h => (by
    show IUo _ _ _ _ _
    refine ⟨Below.refl _ _, .slice none 0 0, ?_, ?_⟩
    · rw [h]; rfl
    · rw [h]; exact World.ownsRow_nil _ _ _ _)
  cases ho : okS s
  · have NN : Hid (IUo w X s (.returned (.tuple #[.slice none 0 0, .bool false])) w) := NIL (by unfold ures uok; rw [ho]; simp)
    rw [ho] at HW
    clear NIL K R ho
    go_enter Try.func7, Try.ntmps7
    go_wp2_with fail
    refine HW.out.mono ?_
    rintro e w1 ⟨rfl, hw⟩
    have hw' := hw.symm
    subst hw'
    go_wp2_with fail
    go_ret2
    exact NN.out
  · cases hs : sml 1152921504606846976 X
    · have NN : Hid (IUo w X s (.returned (.tuple #[.slice none 0 0, .bool false])) w) := NIL (by unfold ures uok; rw [hs]; simp)
      rw [ho] at HW
      rw [hs] at HI
      clear NIL K R ho hs
      go_enter Try.func7, Try.ntmps7
      go_wp2_with fail
      refine HW.out.mono ?_
      rintro e w1 ⟨rfl, hw⟩
      have hw' := hw.symm
      subst hw'
      go_wp2_with fail
      refine HI.out.mono ?_
      rintro e w1 ⟨rfl, hw⟩
      have hw' := hw.symm
      subst hw'
      go_wp2_with fail
      go_ret2
      exact NN.out
    · obtain ⟨t, rfl⟩ : ∃ t : Nat, s = (t : Int) := ⟨s.toNat, by unfold okS at ho; simp at ho; omega⟩
      have ht : 1 ≤ t ∧ t ≤ 12 := by unfold okS at ho; simp at ho; omega
      obtain ⟨sl, sb⟩ := sml_iff.1 hs
      have UR : Hid (ures X (t : Int) = un X.length t X) := (by show _ = _; unfold ures uok; rw [ho, hs]; simp)
      have HP : Hid (Calls Try.prog 20 #[.iface 39 (.agg #[.int .i64 (t : Int)]), .slice (some ⟨g, 0, none⟩) X.length cap] w fun e w' => UTo w t X.length X e w') := back3_any w t g X.length cap X sl hg ht ⟨rfl, sb⟩ K
      rw [ho] at HW
      rw [hs] at HI
      clear NIL K R ho hs sl sb
      go_enter Try.func7, Try.ntmps7
      go_wp2_with fail
      refine HW.out.mono ?_
      rintro e w1 ⟨rfl, hw⟩
      have hw' := hw.symm
      subst hw'
      go_wp2_with fail
      refine HI.out.mono ?_
      rintro e w1 ⟨rfl, hw⟩
      have hw' := hw.symm
      subst hw'
      go_wp2_with fail
      refine HP.out.mono ?_
      rintro e w2 ⟨b1, (⟨Y, g', c', y1, rfl, q1, o1⟩ | ⟨y1, rfl⟩)⟩
      · have yl := un_len y1
        have FN : Hid (IUo w X (t : Int) (.returned (.tuple #[.slice (some ⟨g', 0, none⟩) X.length c', .bool true])) w2) := (by
          show IUo _ _ _ _ _
          refine ⟨b1, .slice (some ⟨g', 0, none⟩) X.length c', ?_, ?_⟩
          · rw [UR.out, y1]; rfl
          · rw [UR.out, y1]
            show w2.ownsRow _ _ _ _ Y.length (ints Y)
            rw [yl]; exact o1)
        clear b1 y1 o1 yl
        go_wp2_with fail
        go_ret2
        exact FN.out
      · have FN : Hid (IUo w X (t : Int) (.returned (.tuple #[.slice none 0 0, .bool false])) w2) := (by
          show IUo _ _ _ _ _
          refine ⟨b1, .slice none 0 0, ?_, ?_⟩
          · rw [UR.out, y1]; rfl
          · rw [UR.out, y1]; exact World.ownsRow_nil _ _ _ _)
        clear b1 y1
        go_wp2_with fail
        go_ret2
        exact FN.out
end Go.Proofs.Ytpokbicnogcijaa.Lists
