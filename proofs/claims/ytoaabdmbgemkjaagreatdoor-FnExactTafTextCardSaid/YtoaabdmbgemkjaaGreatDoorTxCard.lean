/- Proved here: for every forecast the law FnExactTafText returns true, that is, TafText answers as its model and writes nothing into its argument; the tables are as the program's text lays them (the card ties them). -/
import Derived.Test.YtoaabdmbgemkjaaGreatDoorCards
import Derived.Test.YtoaabdmbgemkjaaGreatDoorTie
import Derived.Test.YtoaabdmbgemkjaaGreatDoorLaid
import Derived.Test.YtoaabdmbgemkjaaGreatDoorUl
import Derived.Test.YtoaabdmbgemkjaaGreatDoorChArg
import Derived.ChangeOld
import Derived.Below
import Derived.Laws.Cover2
import Derived.SevenTiedAt
namespace Go.Proofs.YtoaabdmbgemkjaaGreatDoor.fnExactTafText
open Go.ChangeShapes Go.WideShapes Go.ChangeAt Go.RowKit
set_option linter.unusedVariables false
theorem laidOut : laidOutB Tryz.prog = true := by kernel_rfl

set_option maxRecDepth 100000 in
theorem lifted (os : Os) (started : os.Started) (H : Type) (enc : TypeId × Value → H) :
    ReturnsInHanded {} Tryz.checked os 3 .any (fun w args => (Rows.fnExactTafTextSpec.pre enc Tryz.prog Tryz.f3 [] false w args ∧ laidMetH Tryz.prog Laid.lst w) ∧ sizedMet enc Tryz.prog Tryz.f3 (OpenSpec.ofChange Rows.fnExactTafTextSpec) false w args)
      (Rows.fnExactTafTextSpec.post enc Tryz.prog Tryz.f3 false true false false) := by
  refine returnsInHanded_of_change_and (C := Tryz.checked) (X := fun w _ => laidMetH Tryz.prog Laid.lst w) (fun _ _ _ hh h => h.of_heap hh) Laid.own started (by kernel_rfl) Tryz.func3
    (ChangeSpec.witness_shaped (enc := enc) (C := Tryz.checked) (os := os) (X := fun w _ => laidMetH Tryz.prog Laid.lst w) false (World.doorLaid Tryz.prog 400 os) #[.agg #[.string ⟨#[]⟩, .int .i64 0, .int .i64 0, .int .i64 0, .int .i64 0, .int .i64 0, .int .i64 0, .string ⟨#[]⟩, .string ⟨#[]⟩, .int .i64 0, .slice none 0 0]] 8 rfl (World.shaped_of_RefB (by kernel_rfl) (by kernel_rfl)) (by kernel_rfl) (by kernel_rfl) (by kernel_rfl) (Laid.door_met os _)) ?_
  intro W base args ds gs before hval0 hW _ _ hL _
  have hval : ∀ (j : Nat) t v, Tryz.f3.params[j]? = some t → args[j]? = some v → Value.okWide Tryz.prog W .any base t v := hval0
  have hW' := hW
  obtain ⟨p, q, hA0, hV0, rfl, hfz, hnd⟩ := hW
  have hA : DataW.TrodAll enc Tryz.prog W 0 (fun _ => true) true Tryz.f3.params.toList args.toList ds p := hA0
  have hV : DataW.TrodVars enc Tryz.prog W (fun _ => true) [Laid.nm] gs q := hV0
  rw [Tryz.params3] at hA hval
  obtain ⟨v0, vs0, d0, ds0, p0, q0, hargs, rfl, rfl, h0, r0⟩ := trodAll_cons hA
  obtain ⟨rfl, rfl, rfl⟩ := trodAll_nil r0
  obtain rfl : args = #[v0] := by cases args; simp_all
  have k0 := h0
  have lt0 : ∀ x ∈ p0, x.block < W.heap.size := by obtain ⟨m, hm⟩ := k0; exact DataW.trod_lt m _ _ _ hm
  obtain ⟨n0, n1, n2, n3, n4, n5, n6, n7, n8, n9, u, L, rfl, hs0, hs7, hs8, hR, hFt⟩ := Ch.openT (hval 0 28 v0 rfl rfl) h0
  obtain ⟨g, t, cs, fuel, d, p', rfl, hg, ht, hvar, hd, rfl⟩ := trodVars_one hV
  obtain rfl := Option.some.inj (Laid.gM.symm.trans hg)
  obtain rfl := Option.some.inj (Laid.tM.symm.trans ht)
  obtain rfl : cs = Laid.cells13 := Option.some.inj (hvar.symm.trans (Laid.tabs hL).1)
  obtain ⟨rfl, rfl⟩ := DataW.Trod.unique (v := .agg Laid.cells13) ⟨fuel, hd⟩ ⟨3, Laid.reads_table enc W _⟩
  clear hA0 hV0 hval0
  have hT := Laid.tb hL
  have hM := hT.1
  refine (Tx.tafTextAll W hT n0 n1 n2 n3 n4 n5 n6 n7 n8 n9 u L hR (Ch.c67 L hFt) hs0 hs7 hs8).mono fun e W' ⟨he, bel⟩ => ?_
  subst he
  have hvar' : W'.var? Tryz.prog Laid.nm = some Laid.cells13 := var?_below bel Laid.gM hM.size hvar
  have hvars : ∀ sp : Nat → Bool, DataW.TrodVars enc Tryz.prog W' sp [Laid.nm] [Laid.tableH] (MemPlace.row ⟨0, 0, none⟩ Laid.cells13.size ++ [] ++ []) := fun sp =>
    ⟨0, 102, Laid.cells13, 3, [], [], Laid.gM, Laid.tM, hvar', Laid.reads_table enc W' sp, rfl, rfl⟩
  exact ⟨_, rfl, _, _, _, [], _, _, hW', (trodAll_cons_mk (shut_bool Tryz.underlying4 _) trodAll_mk0), (trodAll_cons_mk (Below.trod laidOut (by kernel_rfl) (of_decide_eq_true (by kernel_rfl)) k0 bel lt0) trodAll_mk0), hvars _, bel.frame _, fun h => by cases h⟩

theorem over : Rows.FnExactTafTextSaid :=
  OpenClaim.holds_of_wide 3 Tryz.f3 rfl rfl rfl rfl rfl rfl rfl ⟨rfl, rfl, rfl, rfl, rfl⟩ rfl rfl rfl rfl rfl (by kernel_rfl) Tryz.func3 (by kernel_rfl)
    (of_decide_eq_true (by kernel_rfl)) (by unfold Func.isWrapper; first | (rw [if_pos (by decide +kernel)]; kernel_rfl) | (rw [if_neg (by decide +kernel)]; exact ⟨rfl, rfl⟩))
    (fun os started H enc _ => lifted os started H enc)

/-- THE STATEMENT -/
theorem proved : Rows.FnExactTafTextCardSaid :=
  Claim7.holds_tied_plain_at .later [] [.data, .data, .data, .data] true (true, "58fb14dafe559bc9b65e7d74597a5ba7970f2b366ddd29dd5bc3cf8e1e732c7e") false
    over (fun _ h => by cases h) (by kernel_rfl) (fun _ h => by cases h) fnExactTafText_row_tie rfl ⟨rfl, rfl⟩ (by kernel_rfl) rfl
    (fun f fn hf hfn => by
      obtain rfl : f = 3 := Option.some.inj ((show Tryz.prog.funcNamed "loop.example/g00051/laws.FnExactTafText" = some 3 by kernel_rfl).symm.trans hf) |>.symm
      obtain rfl : fn = Tryz.f3 := (Option.some.inj (Tryz.func3.symm.trans hfn)).symm
      exact ⟨by kernel_rfl, fun j t ht => by
        rw [Tryz.params3] at ht
        have hm : t ∈ [28] := by simpa using Array.mem_of_getElem? ht
        have hall : ([28].all fun u => !Tryz.prog.wantsStandIn u) = true := by kernel_rfl
        exact (show Tryz.prog.wantsStandIn t = false by simpa using List.all_eq_true.1 hall t hm)⟩)
    (by kernel_rfl)
#print axioms proved
end Go.Proofs.YtoaabdmbgemkjaaGreatDoor.fnExactTafText
