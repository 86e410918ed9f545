/- FlowStep: the law, with both answers in it. -/
import Derived.Test.YtbajableobaalaaFlL
namespace Go.Proofs.Ytbajableobaalaa.Fs
open Go.ChangeShapes Go.WideShapes Go.ChangeAt Go.RowKit
open Go.Proofs.Ytbajableobaalaa.Lists
theorem anL_len (N W R : List Int) (z1 z2 : Int) : (anL N W R z1 z2).length ≤ 1000 := by
  unfold anL
  cases hq : stp N W z1 z2 R with
  | false => simp
  | true =>
    have K := stp_ok.1 hq
    have n5 := K.len
    have B2 := (wat_iff W).1 K.ww
    have B3 := (wat_iff R).1 K.wr
    rw [K.lw] at B2
    rw [K.lr] at B3
    have := (pfl_bd N W R z1 K.h1.1 B2 B3 N.length (Nat.le_refl _)).1
    rw [if_pos rfl]
    omega
theorem flowAll (w : World) (vN : Value) (N : List Int) (hN : Lists.Reads w vN N) (ln : N.length < 9223372036854775808) (z1 z2 : Int) (vW : Value) (W : List Int) (hW : Lists.Reads w vW W) (lw : W.length < 9223372036854775808) (vR : Value) (R : List Int) (hR : Lists.Reads w vR R) (lr : R.length < 9223372036854775808) :
    Calls Try.prog 3 #[vN, Bk.sv z1 z2 vW, vR] w fun e w' => e = .returned (.bool true) ∧ Below w.heap.size w w' :=
  LawFlL.flowLaw w vN N hN ln z1 z2 vW W hW lw vR R hR lr (anO N W R z1 z2) (anR N W R z1 z2) (anL N W R z1 z2) (anL_len N W R z1 z2) (stp N W z1 z2 R)
    (fun w t0 t1 t2 h0 h1 h2 => sflow_any N W R z1 z2 t0 t1 t2 w h0 h1 h2 ln) (fun w t0 t1 t2 h0 h1 h2 => iflow_any N W R z1 z2 t0 t1 t2 w h0 h1 h2 ln lw lr)
end Go.Proofs.Ytbajableobaalaa.Fs
