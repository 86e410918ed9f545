/- A report's wind in the model; reports taken over. -/
import Derived.Test.YtngchoonfheckaaObD
namespace Go.Proofs.Ytngchoonfheckaa.Flt
open Go.ChangeShapes Go.WideShapes Go.ChangeAt Go.RowKit
attribute [local go_sem] run_store_float

/-- A block whose ten cells are a report's. -/
def Ob (w : World) (k : Nat) (s : Int) (t d p : Nat) (di : Int) (sp v r : Nat) (we cl : Int) : Prop := k < w.heap.size ∧ w.cell? ⟨k, 0, none⟩ = some (.int .i64 s) ∧ w.cell? ⟨k, 1, none⟩ = some (.float .f64 t) ∧ w.cell? ⟨k, 2, none⟩ = some (.float .f64 d) ∧ w.cell? ⟨k, 3, none⟩ = some (.float .f64 p) ∧ w.cell? ⟨k, 4, none⟩ = some (.int .i64 di) ∧ w.cell? ⟨k, 5, none⟩ = some (.float .f64 sp) ∧ w.cell? ⟨k, 6, none⟩ = some (.float .f64 v) ∧ w.cell? ⟨k, 7, none⟩ = some (.float .f64 r) ∧ w.cell? ⟨k, 8, none⟩ = some (.int .i64 we) ∧ w.cell? ⟨k, 9, none⟩ = some (.int .i64 cl)
theorem Ob.on {w w' : World} {k : Nat} {s : Int} {t d p : Nat} {di : Int} {sp v r : Nat} {we cl : Int} (h : Ob w k s t d p di sp v r we cl) (hb : Below w.heap.size w w') : Ob w' k s t d p di sp v r we cl := by
  obtain ⟨h, c0, c1, c2, c3, c4, c5, c6, c7, c8, c9⟩ := h
  exact ⟨Nat.lt_of_lt_of_le h hb.size, (hb.cell (p := ⟨k, 0, none⟩) h).trans c0, (hb.cell (p := ⟨k, 1, none⟩) h).trans c1, (hb.cell (p := ⟨k, 2, none⟩) h).trans c2, (hb.cell (p := ⟨k, 3, none⟩) h).trans c3, (hb.cell (p := ⟨k, 4, none⟩) h).trans c4, (hb.cell (p := ⟨k, 5, none⟩) h).trans c5, (hb.cell (p := ⟨k, 6, none⟩) h).trans c6, (hb.cell (p := ⟨k, 7, none⟩) h).trans c7, (hb.cell (p := ⟨k, 8, none⟩) h).trans c8, (hb.cell (p := ⟨k, 9, none⟩) h).trans c9⟩
theorem Ob.new (w : World) (s : Int) (t d p : Nat) (di : Int) (sp v r : Nat) (we cl : Int) (y : TypeId) : Ob (w.alloc (.cells #[.int .i64 s, .float .f64 t, .float .f64 d, .float .f64 p, .int .i64 di, .float .f64 sp, .float .f64 v, .float .f64 r, .int .i64 we, .int .i64 cl] y)) w.heap.size s t d p di sp v r we cl := by
  refine ⟨by simp, ?_, ?_, ?_, ?_, ?_, ?_, ?_, ?_, ?_, ?_⟩ <;> simp [go_sem]

set_option maxHeartbeats 2000000 in
theorem toObs_any (s : Int) (t d p : Nat) (di : Int) (sp v r : Nat) (we cl : Int) (w : World) : Calls Try.prog 8 #[ob s t d p di sp v r we cl] w fun e w' => e = .returned (ob s t d p di sp v r we cl) ∧ Below w.heap.size w w' := by
  go_enter Try.func8, Try.ntmps8
  go_wp2
  refine bodyPost_ret (v := ob s t d p di sp v r we cl) (by simp [results, Try.results8, go_sem]) rfl ⟨rfl, ?_⟩
  exact (((Below.refl _ _).alloc (Nat.le_refl _) _).alloc (by simp) _).alloc (by simp; omega) _

def swd (di : Int) (sp : Nat) : Bool := if (di == -1) = true then nan sp else (iz sp 0 99 && (inB di 0 36 && (((if iz sp 0 99 then (nr sp).1 else 0) == 0) == (di == 0))))

set_option maxHeartbeats 1000000 in
theorem swind_any (s : Int) (t d p : Nat) (di : Int) (sp v r : Nat) (we cl : Int) (w : World) (hs : sp < 18446744073709551616) : Calls Try.prog 15 #[ob s t d p di sp v r we cl] w fun e w' => e = .returned (.bool (swd di sp)) ∧ Below w.heap.size w w' := by
  have n1 := self_ne sp
  have HS : Hid (sp < 18446744073709551616) := hs
  have ES : Hid (swd di sp = if (di == -1) = true then nan sp else (iz sp 0 99 && (inB di 0 36 && (((if iz sp 0 99 then (nr sp).1 else 0) == 0) == (di == 0))))) := rfl
  obtain ⟨R, hR⟩ : ∃ R, swd di sp = R := ⟨_, rfl⟩
  rw [hR] at ES ⊢
  clear hs hR
  cases c : (di == -1)
  · have E : Hid (R = (iz sp 0 99 && (inB di 0 36 && (((if iz sp 0 99 then (nr sp).1 else 0) == 0) == (di == 0))))) := (by show _ = _; rw [ES.out, c]; rfl)
    obtain ⟨n, hn⟩ : ∃ n, (if iz sp 0 99 then (nr sp).1 else 0) = n := ⟨_, rfl⟩
    have HN : Hid ((if iz sp 0 99 then (nr sp).1 else 0) = n) := hn
    rw [hn] at E
    clear hn
    go_enter Try.func15, Try.ntmps15
    go_wp2_with fail
    refine (sis _ _ _ _ HS.out).mono ?_
    rintro e w1 ⟨rfl, b1⟩
    rw [HN.out]
    have B1 : Hid (Below w.heap.size w w1) := ((Below.refl _ _).alloc (Nat.le_refl _) _).trans (b1.mono (by simp))
    obtain ⟨h0, c0, c1, c2, c3, c4, c5, c6, c7, c8, c9⟩ := (Ob.new w s t d p di sp v r we cl 28).on b1
    clear b1
    cases k : iz sp 0 99
    · have E2 : Hid (R = false) := (by show _ = _; rw [E.out, k]; rfl)
      go_wp2_with fail
      go_ret
      exact ⟨by rw [E2.out]; rfl, B1.out⟩
    · cases k2 : inB di 0 36
      · have E2 : Hid (R = false) := (by show _ = _; rw [E.out, k, k2]; rfl)
        go_wp2_with fail
        refine (in_any _ _ _ _).mono ?_
        rintro e w2 ⟨rfl, hw2⟩
        subst hw2
        rw [k2]
        go_wp2_with fail
        go_ret
        exact ⟨by rw [E2.out]; rfl, B1.out⟩
      · have E2 : Hid (R = ((n == 0) == (di == 0))) := (by show _ = _; rw [E.out, k, k2]; rfl)
        go_wp2_with fail
        refine (in_any _ _ _ _).mono ?_
        rintro e w2 ⟨rfl, hw2⟩
        subst hw2
        rw [k2]
        go_wp2_with fail
        go_ret
        exact ⟨by rw [E2.out]; first | rfl | simp, B1.out⟩
  · have E : Hid (R = nan sp) := (by show _ = _; rw [ES.out, c]; rfl)
    go_enter Try.func15, Try.ntmps15
    go_wp2_with fail
    go_ret
    exact ⟨by rw [E.out]; first | rfl | simp, (Below.refl _ _).alloc (Nat.le_refl _) _⟩
end Go.Proofs.Ytngchoonfheckaa.Flt
