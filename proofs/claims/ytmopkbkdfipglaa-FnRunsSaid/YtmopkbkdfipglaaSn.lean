/- PackRuns of the model, whatever the list. -/
import Derived.Test.YtmopkbkdfipglaaSp
namespace Go.Proofs.Ytmopkbkdfipglaa.Lists
open Go.ChangeShapes Go.WideShapes Go.ChangeAt Go.RowKit
open Go.Proofs.Ytmopkbkdfipglaa.Bytes (bys)

set_option maxHeartbeats 1000000 in
theorem spackm_any (w : World) (v : Value) (L : List Int) (h : Reads w v L) (hm : L.length < 9223372036854775808) :
    Calls Try.prog 6 #[v] w fun e w' => ∃ v', e = .returned (.tuple #[v', .bool (sml 1099511627776 L)]) ∧ w'.ownsRow w.heap.size 5 1 v' (pks L).length (bys (pks L)) ∧ Below w.heap.size w w' := by
  cases hs : sml 1099511627776 L
  · have HI : Hid (Calls Try.prog 22 #[v, .int .u64 40] w fun e w' => e = .returned (.bool false) ∧ w' = w) := (by have := ssml_any w v L h hm; rw [hs] at this; exact this)
    have e1 : pks L = [] := by unfold pks; rw [hs]; rfl
    have ER : Hid ((w.alloc (.cells #[] 5)).ownsRow w.heap.size 5 1 (.slice (some ⟨w.heap.size, 0, none⟩) 0 0) 0 []) := empty_row 5
    have BE : Hid (Below w.heap.size w (w.alloc (.cells #[] 5))) := (Below.refl _ _).alloc (Nat.le_refl _) _
    obtain ⟨a, cap, ev⟩ := h.form
    obtain ⟨n, hn⟩ : ∃ n, n = L.length := ⟨_, rfl⟩
    rw [← hn] at ev
    rw [e1]
    subst ev
    clear h hm hs e1 hn
    go_enter Try.func6, Try.ntmps6
    go_wp2_with fail
    refine HI.out.mono ?_
    rintro e w' ⟨rfl, hw⟩
    have hw' := hw.symm
    subst hw'
    go_wp2_with fail
    go_ret2
    exact ⟨_, rfl, ER.out, BE.out⟩
  · have e1 : pks L = pk L := by unfold pks; rw [hs]; rfl
    rw [e1]
    exact spack_yes w v L h (rg_sml.1 hs)
theorem pks_len (L : List Int) : (pks L).length ≤ 100000 := by
  unfold pks
  split
  · rename_i h
    have hr := rg_sml.1 h
    have h1 := byt_len (pkB L (ng L.length))
    have h2 := pkB_le hr (ng L.length) (Nat.le_refl _)
    have h3 := hr.1
    have h4 : ng L.length = (L.length + 15) / 16 := rfl
    unfold pk
    omega
  · simp
end Go.Proofs.Ytmopkbkdfipglaa.Lists
