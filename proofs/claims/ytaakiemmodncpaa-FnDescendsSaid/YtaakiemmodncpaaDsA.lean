/- FnExactDescend: model and program together. -/
import Derived.Test.YtaakiemmodncpaaDsL
import Derived.Test.YtaakiemmodncpaaDm
namespace Go.Proofs.Ytaakiemmodncpaa.DsA
open Go.ChangeShapes Go.WideShapes Go.ChangeAt Go.RowKit
open Go.Proofs.Ytaakiemmodncpaa.Lists Go.Proofs.Ytaakiemmodncpaa.Al Go.Proofs.Ytaakiemmodncpaa.Su Go.Proofs.Ytaakiemmodncpaa.Po Go.Proofs.Ytaakiemmodncpaa.Cs Go.Proofs.Ytaakiemmodncpaa.Cf Go.Proofs.Ytaakiemmodncpaa.Dp Go.Proofs.Ytaakiemmodncpaa.De Go.Proofs.Ytaakiemmodncpaa.De2
theorem none_row (w : World) (B : Nat) : Mo.Row w B (.slice none 0 0) [] := ⟨[], ⟨rfl, .inl ⟨rfl, rfl⟩⟩, fun i hi => absurd hi (by simp)⟩
/-- What a descent that may be ends at. -/
theorem fin_ex {nn : Nat} {G T : List Int} {R : Rw.Ls} {X : List Int} {most : Int} (h : okD nn G T R X most = true) : ∃ sf : St, Dp.Ends G T R nn most (X, []) sf ∧ Dp.Good nn G T R most sf ∧ (sf.2.length : Int) ≤ 500 := by
  unfold okD at h
  rw [Bool.and_eq_true, Bool.and_eq_true] at h
  obtain ⟨y1, y2, y3⟩ := h
  have O := ok_of y1
  have y2' := nums_parts y2
  have m3 := (inn_iff _ _ _).1 y3
  have G0 : Dp.Good nn G T R most (X, []) := ⟨way_start O (show X.length = nn by omega) (fun j hj => y2'.2 j (by omega)), by simp; omega⟩
  obtain ⟨e, he⟩ := ends_ex O _ (X, []) G0 (Nat.le_refl _)
  obtain ⟨m, h1, h2⟩ := he
  have g := G0.rnds O m
  rw [h1] at g
  have := g.few
  exact ⟨e, ⟨m, h1, h2⟩, g, by omega⟩
theorem ok_nat {n : Int} {G T : List Int} {R : Rw.Ls} {X : List Int} {most : Int} (h : okD n G T R X most = true) : ∃ nn : Nat, n = nn := by
  unfold okD at h
  rw [Bool.and_eq_true] at h
  have := (ok_of h.1).n1
  exact Int.eq_ofNat_of_zero_le (by omega)
theorem descAll (w : World) (n : Int) (vg : Value) (G : List Int) (hG : Lists.Reads w vg G) (fG : G.length < 9223372036854775808) (vt : Value) (T : List Int) (hT : Lists.Reads w vt T) (fT : T.length < 9223372036854775808) (vr : Value) (R : Rw.Ls) (hR : Rw.Reads w vr R) (vx : Value) (X : List Int) (hX : Lists.Reads w vx X) (fX : X.length < 9223372036854775808) (most : Int) :
    Calls Try.prog 3 #[Pb.pv n vg vt vr, vx, .int .i64 most] w fun e w' => e = .returned (.bool true) ∧ Below w.heap.size w w' := by
  cases hk : okD n G T R X most
  · refine LawDs.descLaw w n vg G hG fG vt T hT fT vr R hR vx X hX fX most false [] (by simp) (fun w g t r' x h hx => sdesc_no n G T R X most w g t r' x h hx hk) (fun w g t r' x h hx => (idesc_no n G T R X most w g t r' x h hx hk).mono ?_)
    rintro e w' ⟨rfl, h⟩
    exact ⟨_, rfl, none_row _ _, h⟩
  · obtain ⟨nn, rfl⟩ := ok_nat hk
    obtain ⟨sf, hsf, _, hl⟩ := fin_ex hk
    exact LawDs.descLaw w nn vg G hG fG vt T hT fT vr R hR vx X hX fX most true sf.2 (by omega) (fun w g t r' x h hx => sdesc_yes nn G T R X most w g t r' x h hx hk sf hsf) (fun w g t r' x h hx => idesc_yes nn G T R X most w g t r' x h hx hk sf hsf)
end Go.Proofs.Ytaakiemmodncpaa.DsA
