/- All that is asked of a time: its date, its stamp, and back. -/
import Derived.Test.YtjnkeeedoffdkaaDoorTp
import Derived.Test.YtjnkeeedoffdkaaDoorRsL
import Derived.Test.YtjnkeeedoffdkaaDoorNearL
namespace Go.Proofs.YtjnkeeedoffdkaaDoor.Tp
open Go.ChangeShapes Go.WideShapes Go.ChangeAt Go.RowKit Dates Dec Fig Stamp
theorem cut_mid (a b c : List UInt8) (i j : Nat) (h1 : a.length = i) (h2 : i + b.length = j) : (⟨(a ++ (b ++ c)).toArray⟩ : ByteArray).extract i j = ⟨b.toArray⟩ := by
  apply WideShapes.bytes_inj
  rw [ByteArray.data_extract]
  subst h1 h2
  simp
theorem fig2 : ∀ n : Fin 100, fig ⟨(p2 n.val).toArray⟩ = (n.val : Int) := by decide +kernel
theorem fig4 : ∀ n : Fin 101, fig ⟨(p4 (2000 + n.val)).toArray⟩ = ((2000 + n.val : Nat) : Int) := by decide +kernel
theorem figs {Y M D h m : Nat} (a : Dt Y M D h m) : (⟨(stampOf Y M D h m).toArray⟩ : ByteArray).size = 17 ∧
    fig ((⟨(stampOf Y M D h m).toArray⟩ : ByteArray).extract 0 4) = Y ∧ fig ((⟨(stampOf Y M D h m).toArray⟩ : ByteArray).extract 5 7) = M ∧ fig ((⟨(stampOf Y M D h m).toArray⟩ : ByteArray).extract 8 10) = D ∧ fig ((⟨(stampOf Y M D h m).toArray⟩ : ByteArray).extract 11 13) = h ∧ fig ((⟨(stampOf Y M D h m).toArray⟩ : ByteArray).extract 14 16) = m := by
  have da := a.d
  have d1 := dim_bd Y M
  have h1 := a.mo
  have g1 := a.h
  have i1 := a.mi
  have ly := p4_len Y a.y.1 a.y.2
  have lm := p2_len M (by omega)
  have ld := p2_len D (by omega)
  have lh := p2_len h (by omega)
  have lmi := p2_len m (by omega)
  have f2 : ∀ n, n < 100 → fig ⟨(p2 n).toArray⟩ = (n : Int) := fun n hn => fig2 ⟨n, hn⟩
  have f4 : fig ⟨(p4 Y).toArray⟩ = (Y : Int) := by
    have := fig4 ⟨Y - 2000, by have := a.y; omega⟩
    simp only [show 2000 + (Y - 2000) = Y by have := a.y; omega] at this
    exact this
  refine ⟨?_, ?_, ?_, ?_, ?_, ?_⟩
  · show (stampOf Y M D h m).toArray.size = 17
    unfold stampOf
    rw [List.size_toArray]
    simp only [List.length_append, ly, lm, ld, lh, lmi, List.length_cons, List.length_nil]
  · have e : stampOf Y M D h m = [] ++ (p4 Y ++ ([45] ++ p2 M ++ [45] ++ p2 D ++ [84] ++ p2 h ++ [58] ++ p2 m ++ [90])) := by unfold stampOf; simp only [List.append_assoc, List.nil_append]
    rw [e, cut_mid _ _ _ 0 4 rfl (by rw [ly])]
    exact f4
  · have e : stampOf Y M D h m = (p4 Y ++ [45]) ++ (p2 M ++ ([45] ++ p2 D ++ [84] ++ p2 h ++ [58] ++ p2 m ++ [90])) := by unfold stampOf; simp only [List.append_assoc]
    rw [e, cut_mid _ _ _ 5 7 (by simp only [List.length_append, ly, List.length_cons, List.length_nil]) (by rw [lm])]
    exact f2 M (by omega)
  · have e : stampOf Y M D h m = (p4 Y ++ [45] ++ p2 M ++ [45]) ++ (p2 D ++ ([84] ++ p2 h ++ [58] ++ p2 m ++ [90])) := by unfold stampOf; simp only [List.append_assoc]
    rw [e, cut_mid _ _ _ 8 10 (by simp only [List.length_append, ly, lm, List.length_cons, List.length_nil]) (by rw [ld])]
    exact f2 D (by omega)
  · have e : stampOf Y M D h m = (p4 Y ++ [45] ++ p2 M ++ [45] ++ p2 D ++ [84]) ++ (p2 h ++ ([58] ++ p2 m ++ [90])) := by unfold stampOf; simp only [List.append_assoc]
    rw [e, cut_mid _ _ _ 11 13 (by simp only [List.length_append, ly, lm, ld, List.length_cons, List.length_nil]) (by rw [lh])]
    exact f2 h (by omega)
  · have e : stampOf Y M D h m = (p4 Y ++ [45] ++ p2 M ++ [45] ++ p2 D ++ [84] ++ p2 h ++ [58]) ++ (p2 m ++ [90]) := by unfold stampOf; simp only [List.append_assoc]
    rw [e, cut_mid _ _ _ 14 16 (by simp only [List.length_append, ly, lm, ld, lh, List.length_cons, List.length_nil]) (by rw [lmi])]
    exact f2 m (by omega)
abbrev dv (Y M D h m : Nat) : Value := .agg #[.int .i64 Y, .int .i64 M, .int .i64 D, .int .i64 h, .int .i64 m]
/-- all that is asked of a right time -/
structure Tm (t : Int) (Y M D h m : Nat) : Prop where
  dt : Dt Y M D h m
  la : Y = 2100 → M = 1 ∧ D = 1 ∧ h = 0 ∧ m = 0
  eq : tm Y M D h m = t
  sd : ∀ w, Calls Tryd.prog 6 #[.int .i64 t] w fun e w' => e = .returned (.tuple #[dv Y M D h m, .bool true]) ∧ Below w.heap.size w w'
  idd : ∀ w, Tb w → Calls Tryd.prog 7 #[.int .i64 t] w fun e w' => e = .returned (.tuple #[dv Y M D h m, .bool true]) ∧ Below w.heap.size w w'
  too : ∀ w, Tb w → Calls Tryd.prog 9 #[dv Y M D h m] w fun e w' => e = .returned (.tuple #[.int .i64 t, .bool true]) ∧ Below w.heap.size w w'
  st : ∀ w, Tb w → Calls Tryd.prog 8 #[.int .i64 t] w fun e w' => e = .returned (.string ⟨(stampOf Y M D h m).toArray⟩) ∧ Below w.heap.size w w'
  rs : ∀ w, Tb w → Calls Tryd.prog 10 #[.string ⟨(stampOf Y M D h m).toArray⟩] w fun e w' => e = .returned (.tuple #[.int .i64 t, .bool true]) ∧ Below w.heap.size w w'
theorem times (t : Int) (h0 : 0 ≤ t) (h1 : t ≤ 52596000) : ∃ Y M D h m, Tm t Y M D h m := by
  obtain ⟨Y, M, r, a1, a2, a3, a4, a5, a6, a7⟩ := date_of (t / 1440) (by omega) (by omega)
  have db := dim_bd Y M
  obtain ⟨y, hy⟩ : ∃ y : Nat, Y = y := ⟨Y.toNat, by omega⟩
  obtain ⟨m, hm⟩ : ∃ m : Nat, M = m := ⟨M.toNat, by omega⟩
  obtain ⟨d, hd⟩ : ∃ d : Nat, r + 1 = d := ⟨(r + 1).toNat, by omega⟩
  obtain ⟨hh, hhh⟩ : ∃ hh : Nat, t / 60 % 24 = hh := ⟨(t / 60 % 24).toNat, by omega⟩
  obtain ⟨mi, hmi⟩ : ∃ mi : Nat, t % 60 = mi := ⟨(t % 60).toNat, by omega⟩
  have D1 : ∀ w, Calls Tryd.prog 6 #[.int .i64 t] w fun e w' => e = .returned (.tuple #[dv y m d hh mi, .bool true]) ∧ Below w.heap.size w w' := by
    intro w
    refine (date_yes t w h0 h1).mono ?_
    rintro e w' ⟨Y2, M2, r2, rfl, b1, b2, b3, b4, b5, b6, b7, hb⟩
    obtain ⟨e1, e2, e3⟩ := unique (t / 1440) Y M r Y2 M2 r2 a1 a2 a3 a4 a5 a6 a7 (by omega) b1 b2 b3 b4 b5 b6 b7
    subst e1 e2 e3
    exact ⟨by rw [hd, hhh, hmi, hy, hm], hb⟩
  have D2 : ∀ w, Months w → Calls Tryd.prog 7 #[.int .i64 t] w fun e w' => e = .returned (.tuple #[dv y m d hh mi, .bool true]) ∧ Below w.heap.size w w' := by
    intro w hM
    refine (idate_yes t w hM h0 h1).mono ?_
    rintro e w' ⟨Y2, M2, r2, rfl, b1, b2, b3, b4, b5, b6, b7, hb⟩
    obtain ⟨e1, e2, e3⟩ := unique (t / 1440) Y M r Y2 M2 r2 a1 a2 a3 a4 a5 a6 a7 (by omega) b1 b2 b3 b4 b5 b6 b7
    subst e1 e2 e3
    exact ⟨by rw [hd, hhh, hmi, hy, hm], hb⟩
  have la : Y = 2100 → M = 1 ∧ r = 0 ∧ t = 52596000 := by
    intro e
    have y : ys Y = 36525 := by rw [e]; rfl
    by_cases x : 2 ≤ M
    · have c := cum_le Y 2 M (by omega) x (by omega)
      have c2 : cum Y 2 = 31 := rfl
      omega
    · have c := (cum_bd Y M).1
      omega
  have dtt : Dt y m d hh mi := ⟨by omega, by omega, ⟨by omega, by rw [← hy, ← hm]; omega⟩, by omega, by omega⟩
  have g : good (y : Int) m d hh mi := by
    by_cases e : Y = 2100
    · obtain ⟨q1, q2, q3⟩ := la e
      exact Or.inl ⟨by omega, by omega, by omega, by omega, by omega⟩
    · exact Or.inr ⟨by omega, by omega, dtt.d.1 |> fun q => ⟨by omega, dtt.d.2⟩, by omega, by omega⟩
  have et : tm y m d hh mi = t := by
    unfold tm
    rw [← hy, ← hm, ← hd, ← hhh, ← hmi]
    have : ys Y + cum Y M + (r + 1) - 1 = t / 1440 := by omega
    rw [this]
    omega
  have TT : ∀ w, Tb w → Calls Tryd.prog 9 #[dv y m d hh mi] w fun e w' => e = .returned (.tuple #[.int .i64 t, .bool true]) ∧ Below w.heap.size w w' := fun w hT => by
    have := itime_yes y m d hh mi w hT.1 g
    rw [et] at this
    exact this
  have SS : ∀ w, Tb w → Calls Tryd.prog 8 #[.int .i64 t] w fun e w' => e = .returned (.string ⟨(stampOf y m d hh mi).toArray⟩) ∧ Below w.heap.size w w' := fun w hT => istamp_any lib t y m d hh mi w hT (by omega) (by omega) (by omega) (by omega) (by omega) (D2 w hT.1)
  refine ⟨y, m, d, hh, mi, dtt, fun e => ?_, et, D1, fun w hT => D2 w hT.1, TT, SS, fun w hT => ?_⟩
  · obtain ⟨q1, q2, q3⟩ := la (by omega)
    omega
  · obtain ⟨s0, s1, s2, s3, s4, s5⟩ := figs dtt
    have := irs_any ⟨(stampOf y m d hh mi).toArray⟩ t true ⟨(stampOf y m d hh mi).toArray⟩ w s0 Tb (fun w' hb => hT.keep _ _ hb) (by rw [s1, s2, s3, s4, s5]; exact TT) SS
    simpa using this
end Go.Proofs.YtjnkeeedoffdkaaDoor.Tp
