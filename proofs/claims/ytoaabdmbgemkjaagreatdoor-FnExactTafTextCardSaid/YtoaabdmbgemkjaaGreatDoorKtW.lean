/- Words put together, in the model; what both walks over a sky keep. -/
import Derived.Test.YtoaabdmbgemkjaaGreatDoorKtP
import Derived.OwnWalk
import Derived.WalkSmall
import Derived.Laws.OwnMore
import Derived.Deep.AppendLies
import Derived.Deep.RegionHeld
import Derived.Deep.RegionHeld3
import Derived.Deep.Cut
import Derived.Deep.DeepCutAuto
namespace Go.Proofs.YtoaabdmbgemkjaaGreatDoor.Kt
open Go.ChangeShapes Go.WideShapes Go.ChangeAt Go.RowKit
open Go.Proofs.YtoaabdmbgemkjaaGreatDoor.Dec Go.Proofs.YtoaabdmbgemkjaaGreatDoor.Sk Go.Proofs.YtoaabdmbgemkjaaGreatDoor.Al

set_option maxHeartbeats 1000000 in
theorem words_any (L : List (List UInt8)) (a : Option Addr) (cap : Nat) (w : World) (h4 : L.length ≤ 4) (h20 : ∀ x ∈ L, x.length ≤ 20)
    (h : L.length = 0 ∨ ∃ g, a = some ⟨g, 0, none⟩ ∧ g < w.heap.size ∧ ∀ j, j < L.length → w.cell? ⟨g, j, none⟩ = some (.string ⟨(L.getD j []).toArray⟩)) :
    Calls Tryz.prog 15 #[.slice a L.length cap] w fun e w' => e = .returned (.string ⟨(Lib.join L [32]).toArray⟩) ∧ w' = w := by
  rcases h with h | ⟨g, rfl, hg, hc⟩
  · have e : L = [] := List.eq_nil_of_length_eq_zero h
    subst e
    go_enter Tryz.func15, Tryz.ntmps15
    go_wp2
    go_loop [3, 4] (fun s i => s = .string ⟨#[]⟩ ∧ i = .int .i64 0) (fun _ _ => 0)
    case atStart => exact ⟨rfl, rfl⟩
    case round =>
      obtain ⟨rfl, rfl⟩ := hrel
      go_wp2
      go_ret
      exact ⟨rfl, rfl⟩
  · have HC : Hid (∀ j, j < L.length → w.cell? ⟨g, j, none⟩ = some (.string ⟨(L.getD j []).toArray⟩)) := hc
    have JL : Hid (∀ k, (Lib.join (L.take k) [32]).length ≤ 84) := fun k => by
      have := join_len (L.take k) (fun x hx => h20 x (List.mem_of_mem_take hx))
      have := List.length_take_le' k L
      omega
    have EL : Hid (∀ k, k < L.length → (L.getD k []).length ≤ 20) := fun k hk => h20 _ (by simp [List.getD_eq_getElem?_getD, List.getElem?_eq_getElem hk])
    have SN : Hid (∀ k, k < L.length → Lib.join (L.take (k + 1)) [32] = if k = 0 then L.getD 0 [] else Lib.join (L.take k) [32] ++ [32] ++ L.getD k []) := fun k hk => by
      have e : L.take (k + 1) = L.take k ++ [L.getD k []] := by
        rw [List.take_succ_eq_append_getElem hk]
        simp [List.getD_eq_getElem?_getD, List.getElem?_eq_getElem hk]
      rw [e]
      by_cases h0 : k = 0
      · subst h0
        rw [if_pos rfl, List.take_zero, List.nil_append, join_one]
      · rw [if_neg h0]
        exact join_snoc _ _ (fun q => by rcases List.take_eq_nil_iff.1 q with z | z; exact h0 z; rw [z] at hk; simp at hk)
    have LA : Hid (Lib.join (L.take L.length) [32] = Lib.join L [32]) := (by show _ = _; rw [List.take_length])
    obtain ⟨n, hn⟩ : ∃ n, n = L.length := ⟨_, rfl⟩
    rw [← hn] at HC EL SN h4 LA ⊢
    clear hc h20 hn
    go_enter Tryz.func15, Tryz.ntmps15
    go_wp2
    go_loop [3, 4] (fun s i => ∃ k : Nat, k ≤ n ∧ i = .int .i64 k ∧ s = .string ⟨(Lib.join (L.take k) [32]).toArray⟩) (fun _ i => n - (intOf i).toNat)
    case atStart => exact ⟨0, Nat.zero_le _, rfl, rfl⟩
    case round =>
      obtain ⟨k, hk, rfl, rfl⟩ := hrel
      by_cases hlt : k < n
      · have q := HC.out k hlt
        have i0 : (0 : Int) ≤ (k : Int) := by omega
        have i1 : (k : Int) < (n : Int) := by omega
        have jl := JL.out k
        have el := EL.out k hlt
        have sn := SN.out k hlt
        by_cases h0 : k = 0
        · subst h0
          rw [if_pos rfl] at sn
          have S0 : Hid (Lib.join (L.take (0 + 1)) [32] = L.getD 0 []) := sn
          clear sn
          generalize L.getD 0 [] = x at *
          have e0 : Lib.join (L.take 0) [32] = [] := rfl
          rw [e0]
          have u0 : ¬ 9223372036854775807 < x.length := by omega
          go_wp2_with fail
          go_round
          case rel => exact ⟨1, by omega, by go_num, by rw [S0.out]; exact congrArg Value.string (cat [] x)⟩
          case measure => simp [intOf]; omega
        · rw [if_neg h0] at sn
          have S0 : Hid (Lib.join (L.take (k + 1)) [32] = Lib.join (L.take k) [32] ++ [32] ++ L.getD k []) := sn
          clear sn
          generalize L.getD k [] = x at *
          generalize Lib.join (L.take k) [32] = y at *
          have k0 : (0 : Int) < (k : Int) := by omega
          have u0 : ¬ 9223372036854775807 < y.length + 1 := by omega
          have u1 : ¬ 9223372036854775807 < y.length + 1 + x.length := by omega
          go_wp2_with fail
          go_round
          case rel => exact ⟨k + 1, by omega, by go_num, by rw [S0.out]; exact congrArg Value.string ((congrArg (· ++ (⟨x.toArray⟩ : ByteArray)) (cat y [32])).trans (cat (y ++ [32]) x))⟩
          case measure => simp [intOf]; omega
      · have e : k = n := by omega
        subst e
        rw [LA.out]
        go_wp2
        go_ret
        exact ⟨rfl, rfl⟩

/-- The six cells of a sky. -/
def Bx (z : Nat) (d p v : Int) (W C : ByteArray) (b : Int) (w' : World) : Prop :=
  w'.cell? ⟨z, 0, none⟩ = some (.int .i64 d) ∧ w'.cell? ⟨z, 1, none⟩ = some (.int .i64 p) ∧ w'.cell? ⟨z, 2, none⟩ = some (.int .i64 v) ∧ w'.cell? ⟨z, 3, none⟩ = some (.string W) ∧ w'.cell? ⟨z, 4, none⟩ = some (.string C) ∧ w'.cell? ⟨z, 5, none⟩ = some (.int .i64 b)
theorem Bx.block {z : Nat} {d p v : Int} {W C : ByteArray} {b : Int} {w u : World} (h : Bx z d p v W C b w) (e : u.heap[z]? = w.heap[z]?) : Bx z d p v W C b u :=
  ⟨(World.cell?_of_block e).trans h.1, (World.cell?_of_block e).trans h.2.1, (World.cell?_of_block e).trans h.2.2.1, (World.cell?_of_block e).trans h.2.2.2.1, (World.cell?_of_block e).trans h.2.2.2.2.1, (World.cell?_of_block e).trans h.2.2.2.2.2⟩
/-- What has been said so far, and what lies. -/
structure SX (w : World) (d p v : Int) (W C : ByteArray) (b : Int) (L : List (List UInt8)) (x : Value) (wr : World) : Prop where
  row : wr.ownsRow (w.heap.size + 1) 9 1 x L.length (strs L)
  bx : Bx w.heap.size d p v W C b wr
  lt : w.heap.size < wr.heap.size
  bel : Below w.heap.size w wr
theorem row_on {w w' : World} {base n : Nat} {e : TypeId} {v : Value} {xs : List Value} (h : w.ownsRow base e 1 v n xs) (hb : Below w.heap.size w w') : w'.ownsRow base e 1 v n xs := by
  refine h.kept (row := none) ⟨hb.os, hb.tape, hb.output, hb.size, fun k hk _ => hb.block k hk⟩ ?_
  cases e : v.ownBlock with
  | none => exact Or.inl rfl
  | some k => exact Or.inr (fun q => by cases q)
section
variable {w : World} {d p v : Int} {W C : ByteArray} {b : Int} {L : List (List UInt8)} {x : Value} {wr : World}
theorem SX.on (h : SX w d p v W C b L x wr) {u : World} (hb : Below wr.heap.size wr u) : SX w d p v W C b L x u :=
  ⟨row_on h.row hb, h.bx.block (hb.block _ h.lt), Nat.lt_of_lt_of_le h.lt hb.size, h.bel.trans (hb.mono (Nat.le_of_lt h.lt))⟩
theorem SX.drew (h : SX w d p v W C b L x wr) : SX w d p v W C b L x wr.drew := h.on ⟨rfl, rfl, rfl, Nat.le_refl _, fun _ _ => rfl⟩
theorem SX.lit (h : SX w d p v W C b L x wr) (o : Obj) : SX w d p v W C b L x (wr.alloc o) := h.on ((Below.refl _ _).alloc (Nat.le_refl _) _)
theorem SX.app (h : SX w d p v W C b L x wr) {w5 : World} {x' : Value} {l : List UInt8} (hown : w5.ownsRow (w.heap.size + 1) 9 1 x' (L.length + 1) (strs L ++ [.string ⟨l.toArray⟩])) (hg : wr.grownBy w5 x.ownBlock) : SX w d p v W C b (L ++ [l]) x' w5 := by
  refine ⟨by rw [strs_snoc, List.length_append]; exact hown, h.bx.block (hg.block _ h.lt (fun e => by have := (h.row.lt _ e.symm).1; omega)), Nat.lt_of_lt_of_le h.lt hg.size, h.bel.grown hg h.bel.size (fun g e => by have := (h.row.lt _ e).1; omega)⟩
end
theorem Tryz.info9 : (Tryz.prog.info? 9).map (fun i => (i.zero, i.size, i.bytes)) = some (some (.string ⟨#[]⟩), 1, 16) := by kernel_rfl
theorem one_lit (w : World) (l : List UInt8) : ∀ j u, [Value.string ⟨l.toArray⟩][j]? = some u → (w.alloc (Obj.cells #[.string ⟨l.toArray⟩] 9)).cell? ((⟨w.heap.size, 0, none⟩ : Addr).add j) = some u := by
  intro j u hj
  match j, hj with
  | 0, hj => simp at hj; subst hj; simp [Addr.add]
theorem one_litB (w : World) (a : ByteArray) : ∀ j u, [Value.string a][j]? = some u → (w.alloc (Obj.cells #[.string a] 9)).cell? ((⟨w.heap.size, 0, none⟩ : Addr).add j) = some u := by
  intro j u hj
  match j, hj with
  | 0, hj => simp at hj; subst hj; simp [Addr.add]
theorem row_read {w : World} {B : Nat} {x : Value} {L : List (List UInt8)} (h : w.ownsRow B 9 1 x L.length (strs L)) : ∃ a cap, x = .slice a L.length cap ∧ L.length ≤ cap ∧ (L.length = 0 ∨ ∃ g, a = some ⟨g, 0, none⟩ ∧ g < w.heap.size ∧ ∀ j, j < L.length → w.cell? ⟨g, j, none⟩ = some (.string ⟨(L.getD j []).toArray⟩)) := by
  obtain ⟨h0, hr⟩ := id h
  rcases hr with ⟨rfl, hn⟩ | ⟨g, cap, cur, rfl, hg, hh, hc, hm, _⟩
  · exact ⟨none, 0, by rw [hn], by omega, .inl hn⟩
  · refine ⟨_, cap, rfl, hc, .inr ⟨g, rfl, ?_, fun j hj => ?_⟩⟩
    · by_cases x : g < w.heap.size
      · exact x
      · rw [Array.getElem?_eq_none (by omega)] at hh; cases hh
    · have := h.cellAt j (by omega)
      rw [this]
      simp [strs, List.getElem?_eq_getElem hj, List.getD_eq_getElem?_getD]
end Go.Proofs.YtoaabdmbgemkjaaGreatDoor.Kt
