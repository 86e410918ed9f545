/- Letters made figures, in the program and in its model. -/
import Derived.Test.YtngchoonfheckaaRows
import Derived.WalkKit
import Derived.ProofKit
import Derived.OpenShut
import Derived.Below
import Derived.OwnWalk
import Derived.WalkSmall
import Derived.Laws.OwnMore
import Derived.Laws.Cover2
import Derived.Laws.IdiomStrings
import Derived.Lib.ConvBytes
namespace Go.Proofs.Ytngchoonfheckaa.Rp
open Go.ChangeShapes Go.WideShapes Go.ChangeAt Go.RowKit

def fix1 (x : UInt8) : UInt8 := if x = 79 ∨ x = 111 then 48 else if x = 73 ∨ x = 108 then 49 else x
/-- A block whose first n cells are the bytes C, none of them frozen. -/
def Row (w : World) (g n : Nat) (C : Nat → UInt8) : Prop := g < w.heap.size ∧ ∀ j, j < n → w.cell? ⟨g, j, none⟩ = some (.int .u8 ((C j).toNat : Int)) ∧ w.frozen? ⟨g, j, none⟩ = false
def mix (l : List UInt8) (k j : Nat) : UInt8 := if j < k then fix1 (l.getD j 0) else l.getD j 0
theorem mix_zero (l : List UInt8) : mix l 0 = fun j => l.getD j 0 := by funext j; unfold mix; rw [if_neg (by omega)]
theorem mix_at (l : List UInt8) (k : Nat) : mix l k k = l.getD k 0 := by unfold mix; rw [if_neg (by omega)]
theorem Row.set {w : World} {g n k : Nat} {l : List UInt8} {v : UInt8} (h : Row w g n (mix l k)) (hk : k < n) (hv : v = fix1 (l.getD k 0)) : Row (w.setCell ⟨g, k, none⟩ (.int .u8 (v.toNat : Int))) g n (mix l (k + 1)) := by
  refine ⟨by simpa using h.1, fun j hj => ?_⟩
  by_cases e : j = k
  · subst e
    refine ⟨?_, ?_⟩
    · rw [World.cell?_setCell_same _ _ _ (h.2 j hj).1]
      unfold mix; rw [if_pos (by omega), hv]
    · simpa using (h.2 j hj).2
  · refine ⟨?_, ?_⟩
    · rw [World.cell?_setCell_other _ _ _ _ (by intro x; simp at x), (h.2 j hj).1]
      unfold mix
      by_cases x : j < k
      · rw [if_pos x, if_pos (by omega)]
      · rw [if_neg x, if_neg (by omega)]
    · simpa using (h.2 j hj).2
theorem Row.same {w : World} {g n k : Nat} {l : List UInt8} (h : Row w g n (mix l k)) (hv : l.getD k 0 = fix1 (l.getD k 0)) : Row w g n (mix l (k + 1)) := by
  refine ⟨h.1, fun j hj => ?_⟩
  have := h.2 j hj
  have e : mix l (k + 1) j = mix l k j := by
    unfold mix
    by_cases x : j < k
    · rw [if_pos x, if_pos (by omega)]
    · by_cases y : j = k
      · subst y; rw [if_pos (by omega), if_neg (by omega)]; exact hv.symm
      · rw [if_neg x, if_neg (by omega)]
  rw [e]; exact this
theorem Row.made (w : World) (s : ByteArray) : Row (Lib.bytesWorld w 5 s) w.heap.size s.size (mix s.data.toList 0) ∧ Below w.heap.size w (Lib.bytesWorld w 5 s) := by
  constructor
  · refine ⟨by rw [Lib.bytesWorld_size]; omega, fun j hj => ?_⟩
    rw [mix_zero]
    refine ⟨Lib.bytesWorld_cell w 5 s j hj, ?_⟩
    have hsz : j < (Lib.bytesCells w 5 s).size := by
      unfold Lib.bytesCells
      rw [Array.size_append, Array.size_map]
      have : s.data.size = s.size := rfl
      omega
    simp [World.frozen?, Lib.bytesWorld_at_new]
    omega
  · exact ⟨rfl, rfl, rfl, by rw [Lib.bytesWorld_size]; omega, fun k hk => Lib.bytesWorld_at_old w 5 s k hk⟩
def fixed (s : ByteArray) : ByteArray := ⟨(s.data.toList.map fix1).toArray⟩
theorem back {w : World} {g cap : Nat} {s : ByteArray} (h : Row w g s.size (mix s.data.toList s.size)) : (convert 41 9 (.slice (some ⟨g, 0, none⟩) s.size cap)).run Try.prog w = .ok (.string (fixed s)) w := by
  have e : s.size = (s.data.toList.map fix1).length := by rw [List.length_map]; rfl
  rw [e]
  refine run_convert_bytes_back (P := Try.prog) w 41 9 5 ⟨g, 0, none⟩ cap (s.data.toList.map fix1) Try.underlying41 Try.underlying5 Try.underlying9 ?_
  intro j hj
  have hj' : j < s.size := by rw [e]; exact hj
  have := (h.2 j hj').1
  have ad : (⟨g, 0, none⟩ : Addr).add j = ⟨g, j, none⟩ := by
    unfold Addr.add
    split
    · rename_i h; subst h; rfl
    · simp
  rw [ad, this]
  unfold mix
  rw [if_pos hj']
  have hl : j < s.data.toList.length := hj'
  simp [List.getD_eq_getElem?_getD, List.getElem?_eq_getElem hl]

theorem fix_cases (x : UInt8) : (x = 79 ∧ fix1 x = 48) ∨ (x = 111 ∧ fix1 x = 48) ∨ (x = 73 ∧ fix1 x = 49) ∨ (x = 108 ∧ fix1 x = 49) ∨ (x.toNat ≠ 79 ∧ x.toNat ≠ 111 ∧ x.toNat ≠ 73 ∧ x.toNat ≠ 108 ∧ fix1 x = x) := by
  by_cases a : x = 79
  · subst a; exact .inl ⟨rfl, rfl⟩
  by_cases b : x = 111
  · subst b; exact .inr (.inl ⟨rfl, rfl⟩)
  by_cases c : x = 73
  · subst c; exact .inr (.inr (.inl ⟨rfl, rfl⟩))
  by_cases d : x = 108
  · subst d; exact .inr (.inr (.inr (.inl ⟨rfl, rfl⟩)))
  refine .inr (.inr (.inr (.inr ⟨fun h => a (UInt8.toNat_inj.1 h), fun h => b (UInt8.toNat_inj.1 h), fun h => c (UInt8.toNat_inj.1 h), fun h => d (UInt8.toNat_inj.1 h), ?_⟩)))
  unfold fix1
  rw [if_neg (by simp [a, b]), if_neg (by simp [c, d])]

set_option maxHeartbeats 1000000 in
theorem sfix (s : ByteArray) (w : World) (hs : s.size ≤ 20000) : Calls Try.prog 10 #[.string s] w fun e w' => e = .returned (.string (fixed s)) ∧ Below w.heap.size w w' := by
  have hc := Lib.run_convert_string_bytes (P := Try.prog) w 9 41 5 s Try.underlying9 Try.underlying41 Try.underlying5
  obtain ⟨R0, B0⟩ := Row.made w s
  generalize Lib.bytesWorld w 5 s = w0 at *
  generalize grownCap w s.size 0 5 = cap at *
  have HR0 : Hid (Row w0 w.heap.size s.size (mix s.data.toList 0)) := R0
  have HB0 : Hid (Below w.heap.size w w0) := B0
  clear R0 B0
  obtain ⟨l, hl⟩ : ∃ l, l = s.data.toList := ⟨_, rfl⟩
  obtain ⟨n, hn⟩ : ∃ n, n = s.size := ⟨_, rfl⟩
  obtain ⟨f, hf⟩ : ∃ f, f = fixed s := ⟨_, rfl⟩
  have HBK : Hid (∀ wr, Row wr w.heap.size n (mix l n) → (convert 41 9 (.slice (some ⟨w.heap.size, 0, none⟩) n cap)).run Try.prog wr = .ok (.string f) wr) := (by intro wr h; rw [hf, hn]; rw [hl, hn] at h; exact back h)
  rw [← hl, ← hn] at HR0
  rw [← hn] at hs hc
  rw [← hf]
  clear hl hn hf
  go_enter Try.func10, Try.ntmps10
  go_wp2_with fail
  go_loopw [4] (fun i wr => ∃ k : Nat, k ≤ n ∧ i = .int .i64 k ∧ Hid (Row wr w.heap.size n (mix l k)) ∧ Hid (Below w.heap.size w wr)) (fun i _ => n - (intOf i).toNat)
  case atStart => exact ⟨0, by omega, rfl, HR0, HB0⟩
  case round =>
    obtain ⟨k, hkn, rfl, RR, BR⟩ := hrel
    by_cases hlt : k < n
    · have q1 : wr.cell? ⟨w.heap.size, k, none⟩ = some (.int .u8 (((l.getD k 0).toNat : Nat) : Int)) := (by have := (RR.out.2 k hlt).1; rw [mix_at] at this; exact this)
      have q2 : wr.frozen? ⟨w.heap.size, k, none⟩ = false := (RR.out.2 k hlt).2
      have j1 : (k : Int) < (n : Int) := by omega
      have j2 : (0 : Int) ≤ (k : Int) := by omega
      have HF : Hid (∀ v, v = fix1 (l.getD k 0) → Row (wr.setCell ⟨w.heap.size, k, none⟩ (.int .u8 (v.toNat : Int))) w.heap.size n (mix l (k + 1))) := fun v hv => RR.out.set hlt hv
      have HS : Hid (l.getD k 0 = fix1 (l.getD k 0) → Row wr w.heap.size n (mix l (k + 1))) := fun hv => RR.out.same hv
      have HB : Hid (∀ v, Below w.heap.size w (wr.setCell ⟨w.heap.size, k, none⟩ v)) := fun v => BR.out.setCell (Nat.le_refl _) _
      generalize l.getD k 0 = x at *
      rcases fix_cases x with ⟨rfl, e⟩ | ⟨rfl, e⟩ | ⟨rfl, e⟩ | ⟨rfl, e⟩ | ⟨n1, n2, n3, n4, e⟩
      · have F := HF.out 48 e.symm
        have F' : Hid (Row (wr.setCell ⟨w.heap.size, k, none⟩ (.int .u8 48)) w.heap.size n (mix l (k + 1))) := F
        have B' : Hid (Below w.heap.size w (wr.setCell ⟨w.heap.size, k, none⟩ (.int .u8 48))) := HB.out _
        clear F e HS
        go_wp2_with fail
        go_roundw
        case rel => exact ⟨k + 1, by omega, by go_num, F', B'⟩
        case measure => simp [intOf]; omega
      · have F := HF.out 48 e.symm
        have F' : Hid (Row (wr.setCell ⟨w.heap.size, k, none⟩ (.int .u8 48)) w.heap.size n (mix l (k + 1))) := F
        have B' : Hid (Below w.heap.size w (wr.setCell ⟨w.heap.size, k, none⟩ (.int .u8 48))) := HB.out _
        clear F e HS
        go_wp2_with fail
        go_roundw
        case rel => exact ⟨k + 1, by omega, by go_num, F', B'⟩
        case measure => simp [intOf]; omega
      · have F := HF.out 49 e.symm
        have F' : Hid (Row (wr.setCell ⟨w.heap.size, k, none⟩ (.int .u8 49)) w.heap.size n (mix l (k + 1))) := F
        have B' : Hid (Below w.heap.size w (wr.setCell ⟨w.heap.size, k, none⟩ (.int .u8 49))) := HB.out _
        clear F e HS
        go_wp2_with fail
        go_roundw
        case rel => exact ⟨k + 1, by omega, by go_num, F', B'⟩
        case measure => simp [intOf]; omega
      · have F := HF.out 49 e.symm
        have F' : Hid (Row (wr.setCell ⟨w.heap.size, k, none⟩ (.int .u8 49)) w.heap.size n (mix l (k + 1))) := F
        have B' : Hid (Below w.heap.size w (wr.setCell ⟨w.heap.size, k, none⟩ (.int .u8 49))) := HB.out _
        clear F e HS
        go_wp2_with fail
        go_roundw
        case rel => exact ⟨k + 1, by omega, by go_num, F', B'⟩
        case measure => simp [intOf]; omega
      · have F' : Hid (Row wr w.heap.size n (mix l (k + 1))) := HS.out e.symm
        generalize x.toNat = y at *
        have m1 : ((y : Int) == 79) = false := by simp; omega
        have m2 : ((y : Int) == 111) = false := by simp; omega
        have m3 : ((y : Int) == 73) = false := by simp; omega
        have m4 : ((y : Int) == 108) = false := by simp; omega
        clear e HS HF n1 n2 n3 n4
        go_wp2_with fail
        go_roundw
        case rel => exact ⟨k + 1, by omega, by go_num, F', BR⟩
        case measure => simp [intOf]; omega
    · have e : k = n := by omega
      subst e
      have hb := HBK.out wr RR.out
      have j1 : ¬ (k : Int) < (k : Int) := by omega
      go_wp2_with fail
      go_ret
      exact ⟨rfl, BR.out⟩

set_option maxHeartbeats 1000000 in
theorem ifix (s : ByteArray) (w : World) (hs : s.size ≤ 20000) : Calls Try.prog 11 #[.string s] w fun e w' => e = .returned (.string (fixed s)) ∧ Below w.heap.size w w' := by
  have hc := Lib.run_convert_string_bytes (P := Try.prog) w 9 41 5 s Try.underlying9 Try.underlying41 Try.underlying5
  obtain ⟨R0, B0⟩ := Row.made w s
  generalize Lib.bytesWorld w 5 s = w0 at *
  generalize grownCap w s.size 0 5 = cap at *
  have HR0 : Hid (Row w0 w.heap.size s.size (mix s.data.toList 0)) := R0
  have HB0 : Hid (Below w.heap.size w w0) := B0
  clear R0 B0
  obtain ⟨l, hl⟩ : ∃ l, l = s.data.toList := ⟨_, rfl⟩
  obtain ⟨n, hn⟩ : ∃ n, n = s.size := ⟨_, rfl⟩
  obtain ⟨f, hf⟩ : ∃ f, f = fixed s := ⟨_, rfl⟩
  have HBK : Hid (∀ wr, Row wr w.heap.size n (mix l n) → (convert 41 9 (.slice (some ⟨w.heap.size, 0, none⟩) n cap)).run Try.prog wr = .ok (.string f) wr) := (by intro wr h; rw [hf, hn]; rw [hl, hn] at h; exact back h)
  rw [← hl, ← hn] at HR0
  rw [← hn] at hs hc
  rw [← hf]
  clear hl hn hf
  go_enter Try.func11, Try.ntmps11
  go_wp2_with fail
  go_loopw [10] (fun i wr => ∃ k : Nat, k ≤ n ∧ i = .int .i64 k ∧ Hid (Row wr w.heap.size n (mix l k)) ∧ Hid (Below w.heap.size w wr)) (fun i _ => n - (intOf i).toNat)
  case atStart => exact ⟨0, by omega, rfl, HR0, HB0⟩
  case round =>
    obtain ⟨k, hkn, rfl, RR, BR⟩ := hrel
    by_cases hlt : k < n
    · have q1 : wr.cell? ⟨w.heap.size, k, none⟩ = some (.int .u8 (((l.getD k 0).toNat : Nat) : Int)) := (by have := (RR.out.2 k hlt).1; rw [mix_at] at this; exact this)
      have q2 : wr.frozen? ⟨w.heap.size, k, none⟩ = false := (RR.out.2 k hlt).2
      have j1 : (k : Int) < (n : Int) := by omega
      have j2 : (0 : Int) ≤ (k : Int) := by omega
      have HF : Hid (∀ v, v = fix1 (l.getD k 0) → Row (wr.setCell ⟨w.heap.size, k, none⟩ (.int .u8 (v.toNat : Int))) w.heap.size n (mix l (k + 1))) := fun v hv => RR.out.set hlt hv
      have HS : Hid (l.getD k 0 = fix1 (l.getD k 0) → Row wr w.heap.size n (mix l (k + 1))) := fun hv => RR.out.same hv
      have HB : Hid (∀ v, Below w.heap.size w (wr.setCell ⟨w.heap.size, k, none⟩ v)) := fun v => BR.out.setCell (Nat.le_refl _) _
      generalize l.getD k 0 = x at *
      rcases fix_cases x with ⟨rfl, e⟩ | ⟨rfl, e⟩ | ⟨rfl, e⟩ | ⟨rfl, e⟩ | ⟨n1, n2, n3, n4, e⟩
      · have F := HF.out 48 e.symm
        have F' : Hid (Row (wr.setCell ⟨w.heap.size, k, none⟩ (.int .u8 48)) w.heap.size n (mix l (k + 1))) := F
        have B' : Hid (Below w.heap.size w (wr.setCell ⟨w.heap.size, k, none⟩ (.int .u8 48))) := HB.out _
        clear F e HS
        go_wp2_with fail
        go_roundw
        case rel => exact ⟨k + 1, by omega, by go_num, F', B'⟩
        case measure => simp [intOf]; omega
      · have F := HF.out 48 e.symm
        have F' : Hid (Row (wr.setCell ⟨w.heap.size, k, none⟩ (.int .u8 48)) w.heap.size n (mix l (k + 1))) := F
        have B' : Hid (Below w.heap.size w (wr.setCell ⟨w.heap.size, k, none⟩ (.int .u8 48))) := HB.out _
        clear F e HS
        go_wp2_with fail
        go_roundw
        case rel => exact ⟨k + 1, by omega, by go_num, F', B'⟩
        case measure => simp [intOf]; omega
      · have F := HF.out 49 e.symm
        have F' : Hid (Row (wr.setCell ⟨w.heap.size, k, none⟩ (.int .u8 49)) w.heap.size n (mix l (k + 1))) := F
        have B' : Hid (Below w.heap.size w (wr.setCell ⟨w.heap.size, k, none⟩ (.int .u8 49))) := HB.out _
        clear F e HS
        go_wp2_with fail
        go_roundw
        case rel => exact ⟨k + 1, by omega, by go_num, F', B'⟩
        case measure => simp [intOf]; omega
      · have F := HF.out 49 e.symm
        have F' : Hid (Row (wr.setCell ⟨w.heap.size, k, none⟩ (.int .u8 49)) w.heap.size n (mix l (k + 1))) := F
        have B' : Hid (Below w.heap.size w (wr.setCell ⟨w.heap.size, k, none⟩ (.int .u8 49))) := HB.out _
        clear F e HS
        go_wp2_with fail
        go_roundw
        case rel => exact ⟨k + 1, by omega, by go_num, F', B'⟩
        case measure => simp [intOf]; omega
      · have F' : Hid (Row wr w.heap.size n (mix l (k + 1))) := HS.out e.symm
        generalize x.toNat = y at *
        have m1 : ((y : Int) == 79) = false := by simp; omega
        have m2 : ((y : Int) == 111) = false := by simp; omega
        have m3 : ((y : Int) == 73) = false := by simp; omega
        have m4 : ((y : Int) == 108) = false := by simp; omega
        clear e HS HF n1 n2 n3 n4
        go_wp2_with fail
        go_roundw
        case rel => exact ⟨k + 1, by omega, by go_num, F', BR⟩
        case measure => simp [intOf]; omega
    · have e : k = n := by omega
      subst e
      have hb := HBK.out wr RR.out
      have j1 : ¬ (k : Int) < (k : Int) := by omega
      go_wp2_with fail
      go_ret
      exact ⟨rfl, BR.out⟩


set_option maxHeartbeats 1000000 in
theorem srep (s : ByteArray) (w : World) : Calls Try.prog 5 #[.string s] w fun e w' => e = .returned (.string (if s.size ≤ 20000 then fixed s else ⟨#[]⟩)) ∧ Below w.heap.size w w' := by
  by_cases h : s.size ≤ 20000
  · rw [if_pos h]
    have j1 : ¬ (20000 : Int) < (s.size : Int) := by omega
    have H : Hid (s.size ≤ 20000) := h
    go_enter Try.func5, Try.ntmps5
    go_wp2_with fail
    refine (sfix _ _ H.out).mono ?_
    rintro e w1 ⟨rfl, b1⟩
    have B1 : Hid (Below w.heap.size w w1) := b1
    clear b1
    go_wp2_with fail
    go_ret
    exact ⟨rfl, B1.out⟩
  · rw [if_neg h]
    have j1 : (20000 : Int) < (s.size : Int) := by omega
    go_enter Try.func5, Try.ntmps5
    go_wp2_with fail
    go_ret
    exact ⟨rfl, Below.refl _ _⟩
set_option maxHeartbeats 1000000 in
theorem irep (s : ByteArray) (w : World) : Calls Try.prog 6 #[.string s] w fun e w' => e = .returned (.string (if s.size ≤ 20000 then fixed s else ⟨#[]⟩)) ∧ Below w.heap.size w w' := by
  by_cases h : s.size ≤ 20000
  · rw [if_pos h]
    have j1 : ¬ (20000 : Int) < (s.size : Int) := by omega
    have H : Hid (s.size ≤ 20000) := h
    go_enter Try.func6, Try.ntmps6
    go_wp2_with fail
    refine (ifix _ _ H.out).mono ?_
    rintro e w1 ⟨rfl, b1⟩
    have B1 : Hid (Below w.heap.size w w1) := b1
    clear b1
    go_wp2_with fail
    go_ret
    exact ⟨rfl, B1.out⟩
  · rw [if_neg h]
    have j1 : (20000 : Int) < (s.size : Int) := by omega
    go_enter Try.func6, Try.ntmps6
    go_wp2_with fail
    go_ret
    exact ⟨rfl, Below.refl _ _⟩

set_option maxHeartbeats 1000000 in
theorem repLaw (s : ByteArray) (w : World) : Calls Try.prog 3 #[.string s] w fun e w' => e = .returned (.bool true) ∧ Below w.heap.size w w' := by
  by_cases h : (1048576 : Int) < (s.size : Int)
  · go_enter Try.func3, Try.ntmps3
    go_wp2_with fail
    go_ret
    exact ⟨rfl, Below.refl _ _⟩
  · obtain ⟨f, hf⟩ : ∃ f, (if s.size ≤ 20000 then fixed s else ⟨#[]⟩) = f := ⟨_, rfl⟩
    have S : Hid (∀ w, Calls Try.prog 5 #[.string s] w fun e w' => e = .returned (.string f) ∧ Below w.heap.size w w') := fun w => by rw [← hf]; exact srep s w
    have I : Hid (∀ w, Calls Try.prog 6 #[.string s] w fun e w' => e = .returned (.string f) ∧ Below w.heap.size w w') := fun w => by rw [← hf]; exact irep s w
    clear hf
    go_enter Try.func3, Try.ntmps3
    go_wp2_with fail
    refine (S.out _).mono ?_
    rintro e w1 ⟨rfl, b1⟩
    have B1 : Hid (Below w.heap.size w w1) := b1
    clear b1
    go_wp2_with fail
    refine (I.out _).mono ?_
    rintro e w2 ⟨rfl, b2⟩
    have B2 : Hid (Below w.heap.size w w2) := B1.out.trans (b2.mono B1.out.size)
    clear b2
    go_wp2_with fail
    go_ret
    exact ⟨rfl, B2.out⟩
end Go.Proofs.Ytngchoonfheckaa.Rp
