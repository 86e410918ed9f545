/- Upper: what one rune becomes, in the program and in its model. -/
import Derived.Test.YtpehoakdhbicfaaDoorRu
import Derived.ProofKit
import Derived.WalkSpells
import Derived.WalkLawsBesides
import Derived.WalkSmall
import Derived.Below
namespace Go.Proofs.YtpehoakdhbicfaaDoor.Uq
open Go.Proofs.YtpehoakdhbicfaaDoor.Ru
open Go.ChangeShapes Go.WideShapes Go.ChangeAt Go.RowKit

/-- what stands for a rune beyond ASCII -/
def plain (r : Nat) : List UInt8 :=
  if r = 228 ∨ r = 196 then [65, 69]
  else if r = 246 ∨ r = 214 ∨ r = 248 ∨ r = 216 then [79, 69]
  else if r = 252 ∨ r = 220 then [85, 69]
  else if r = 229 ∨ r = 197 then [65, 65]
  else if r = 223 then [83, 83]
  else if r = 233 ∨ r = 232 ∨ r = 234 ∨ r = 201 ∨ r = 200 ∨ r = 202 then [69]
  else if r = 225 ∨ r = 224 ∨ r = 226 ∨ r = 193 ∨ r = 192 ∨ r = 194 then [65]
  else if r = 241 ∨ r = 209 then [78]
  else [63]
def letters : List Nat := [228, 196, 246, 214, 248, 216, 252, 220, 229, 197, 223, 233, 232, 234, 201, 200, 202, 225, 224, 226, 193, 192, 194, 241, 209]
theorem plain_none (r : Nat) (h : ∀ x, x ∈ letters → r ≠ x) : plain r = [63] := by
  unfold letters at h
  simp only [List.mem_cons, List.not_mem_nil, or_false, forall_eq_or_imp, forall_eq] at h
  obtain ⟨h228, h196, h246, h214, h248, h216, h252, h220, h229, h197, h223, h233, h232, h234, h201, h200, h202, h225, h224, h226, h193, h192, h194, h241, h209⟩ := h
  unfold plain
  rw [if_neg (by omega)]
  rw [if_neg (by omega)]
  rw [if_neg (by omega)]
  rw [if_neg (by omega)]
  rw [if_neg (by omega)]
  rw [if_neg (by omega)]
  rw [if_neg (by omega)]
  rw [if_neg (by omega)]
theorem plain_size (r : Nat) : (plain r).length ≤ 2 := by
  unfold plain
  repeat' split
  all_goals decide
theorem plain_228 : plain 228 = [65, 69] := by decide
theorem plain_196 : plain 196 = [65, 69] := by decide
theorem plain_246 : plain 246 = [79, 69] := by decide
theorem plain_214 : plain 214 = [79, 69] := by decide
theorem plain_248 : plain 248 = [79, 69] := by decide
theorem plain_216 : plain 216 = [79, 69] := by decide
theorem plain_252 : plain 252 = [85, 69] := by decide
theorem plain_220 : plain 220 = [85, 69] := by decide
theorem plain_229 : plain 229 = [65, 65] := by decide
theorem plain_197 : plain 197 = [65, 65] := by decide
theorem plain_223 : plain 223 = [83, 83] := by decide
theorem plain_233 : plain 233 = [69] := by decide
theorem plain_232 : plain 232 = [69] := by decide
theorem plain_234 : plain 234 = [69] := by decide
theorem plain_201 : plain 201 = [69] := by decide
theorem plain_200 : plain 200 = [69] := by decide
theorem plain_202 : plain 202 = [69] := by decide
theorem plain_225 : plain 225 = [65] := by decide
theorem plain_224 : plain 224 = [65] := by decide
theorem plain_226 : plain 226 = [65] := by decide
theorem plain_193 : plain 193 = [65] := by decide
theorem plain_192 : plain 192 = [65] := by decide
theorem plain_194 : plain 194 = [65] := by decide
theorem plain_241 : plain 241 = [78] := by decide
theorem plain_209 : plain 209 = [78] := by decide

def Told (l : List UInt8) (w : World) : Ending → World → Prop := fun e w' => e = .returned (.string ⟨l.toArray⟩) ∧ w' = w
def Piece (l : List UInt8) (w : World) : Ending → World → Prop := fun e w' => e = .returned (.string ⟨l.toArray⟩) ∧ Below w.heap.size w w'

set_option maxHeartbeats 1000000 in
theorem up_228 (w : World) : Calls Tryd.prog 25 #[.string ⟨#[195, 164]⟩] w (Piece (plain 228) w) := by
  rw [plain_228]
  unfold Piece
  go_enter Tryd.func25, Tryd.ntmps25
  go_wp2
  go_ret
  exact ⟨rfl, Below.refl _ _⟩

set_option maxHeartbeats 1000000 in
theorem up_196 (w : World) : Calls Tryd.prog 25 #[.string ⟨#[195, 132]⟩] w (Piece (plain 196) w) := by
  rw [plain_196]
  unfold Piece
  go_enter Tryd.func25, Tryd.ntmps25
  go_wp2
  go_ret
  exact ⟨rfl, Below.refl _ _⟩

set_option maxHeartbeats 1000000 in
theorem up_246 (w : World) : Calls Tryd.prog 25 #[.string ⟨#[195, 182]⟩] w (Piece (plain 246) w) := by
  rw [plain_246]
  unfold Piece
  go_enter Tryd.func25, Tryd.ntmps25
  go_wp2
  go_ret
  exact ⟨rfl, Below.refl _ _⟩

set_option maxHeartbeats 1000000 in
theorem up_214 (w : World) : Calls Tryd.prog 25 #[.string ⟨#[195, 150]⟩] w (Piece (plain 214) w) := by
  rw [plain_214]
  unfold Piece
  go_enter Tryd.func25, Tryd.ntmps25
  go_wp2
  go_ret
  exact ⟨rfl, Below.refl _ _⟩

set_option maxHeartbeats 1000000 in
theorem up_248 (w : World) : Calls Tryd.prog 25 #[.string ⟨#[195, 184]⟩] w (Piece (plain 248) w) := by
  rw [plain_248]
  unfold Piece
  go_enter Tryd.func25, Tryd.ntmps25
  go_wp2
  go_ret
  exact ⟨rfl, Below.refl _ _⟩

set_option maxHeartbeats 1000000 in
theorem up_216 (w : World) : Calls Tryd.prog 25 #[.string ⟨#[195, 152]⟩] w (Piece (plain 216) w) := by
  rw [plain_216]
  unfold Piece
  go_enter Tryd.func25, Tryd.ntmps25
  go_wp2
  go_ret
  exact ⟨rfl, Below.refl _ _⟩

set_option maxHeartbeats 1000000 in
theorem up_252 (w : World) : Calls Tryd.prog 25 #[.string ⟨#[195, 188]⟩] w (Piece (plain 252) w) := by
  rw [plain_252]
  unfold Piece
  go_enter Tryd.func25, Tryd.ntmps25
  go_wp2
  go_ret
  exact ⟨rfl, Below.refl _ _⟩

set_option maxHeartbeats 1000000 in
theorem up_220 (w : World) : Calls Tryd.prog 25 #[.string ⟨#[195, 156]⟩] w (Piece (plain 220) w) := by
  rw [plain_220]
  unfold Piece
  go_enter Tryd.func25, Tryd.ntmps25
  go_wp2
  go_ret
  exact ⟨rfl, Below.refl _ _⟩

set_option maxHeartbeats 1000000 in
theorem up_229 (w : World) : Calls Tryd.prog 25 #[.string ⟨#[195, 165]⟩] w (Piece (plain 229) w) := by
  rw [plain_229]
  unfold Piece
  go_enter Tryd.func25, Tryd.ntmps25
  go_wp2
  go_ret
  exact ⟨rfl, Below.refl _ _⟩

set_option maxHeartbeats 1000000 in
theorem up_197 (w : World) : Calls Tryd.prog 25 #[.string ⟨#[195, 133]⟩] w (Piece (plain 197) w) := by
  rw [plain_197]
  unfold Piece
  go_enter Tryd.func25, Tryd.ntmps25
  go_wp2
  go_ret
  exact ⟨rfl, Below.refl _ _⟩

set_option maxHeartbeats 1000000 in
theorem up_223 (w : World) : Calls Tryd.prog 25 #[.string ⟨#[195, 159]⟩] w (Piece (plain 223) w) := by
  rw [plain_223]
  unfold Piece
  go_enter Tryd.func25, Tryd.ntmps25
  go_wp2
  go_ret
  exact ⟨rfl, Below.refl _ _⟩

set_option maxHeartbeats 1000000 in
theorem up_233 (w : World) : Calls Tryd.prog 25 #[.string ⟨#[195, 169]⟩] w (Piece (plain 233) w) := by
  rw [plain_233]
  unfold Piece
  go_enter Tryd.func25, Tryd.ntmps25
  go_wp2
  go_ret
  exact ⟨rfl, Below.refl _ _⟩

set_option maxHeartbeats 1000000 in
theorem up_232 (w : World) : Calls Tryd.prog 25 #[.string ⟨#[195, 168]⟩] w (Piece (plain 232) w) := by
  rw [plain_232]
  unfold Piece
  go_enter Tryd.func25, Tryd.ntmps25
  go_wp2
  go_ret
  exact ⟨rfl, Below.refl _ _⟩

set_option maxHeartbeats 1000000 in
theorem up_234 (w : World) : Calls Tryd.prog 25 #[.string ⟨#[195, 170]⟩] w (Piece (plain 234) w) := by
  rw [plain_234]
  unfold Piece
  go_enter Tryd.func25, Tryd.ntmps25
  go_wp2
  go_ret
  exact ⟨rfl, Below.refl _ _⟩

set_option maxHeartbeats 1000000 in
theorem up_201 (w : World) : Calls Tryd.prog 25 #[.string ⟨#[195, 137]⟩] w (Piece (plain 201) w) := by
  rw [plain_201]
  unfold Piece
  go_enter Tryd.func25, Tryd.ntmps25
  go_wp2
  go_ret
  exact ⟨rfl, Below.refl _ _⟩

set_option maxHeartbeats 1000000 in
theorem up_200 (w : World) : Calls Tryd.prog 25 #[.string ⟨#[195, 136]⟩] w (Piece (plain 200) w) := by
  rw [plain_200]
  unfold Piece
  go_enter Tryd.func25, Tryd.ntmps25
  go_wp2
  go_ret
  exact ⟨rfl, Below.refl _ _⟩

set_option maxHeartbeats 1000000 in
theorem up_202 (w : World) : Calls Tryd.prog 25 #[.string ⟨#[195, 138]⟩] w (Piece (plain 202) w) := by
  rw [plain_202]
  unfold Piece
  go_enter Tryd.func25, Tryd.ntmps25
  go_wp2
  go_ret
  exact ⟨rfl, Below.refl _ _⟩

set_option maxHeartbeats 1000000 in
theorem up_225 (w : World) : Calls Tryd.prog 25 #[.string ⟨#[195, 161]⟩] w (Piece (plain 225) w) := by
  rw [plain_225]
  unfold Piece
  go_enter Tryd.func25, Tryd.ntmps25
  go_wp2
  go_ret
  exact ⟨rfl, Below.refl _ _⟩

set_option maxHeartbeats 1000000 in
theorem up_224 (w : World) : Calls Tryd.prog 25 #[.string ⟨#[195, 160]⟩] w (Piece (plain 224) w) := by
  rw [plain_224]
  unfold Piece
  go_enter Tryd.func25, Tryd.ntmps25
  go_wp2
  go_ret
  exact ⟨rfl, Below.refl _ _⟩

set_option maxHeartbeats 1000000 in
theorem up_226 (w : World) : Calls Tryd.prog 25 #[.string ⟨#[195, 162]⟩] w (Piece (plain 226) w) := by
  rw [plain_226]
  unfold Piece
  go_enter Tryd.func25, Tryd.ntmps25
  go_wp2
  go_ret
  exact ⟨rfl, Below.refl _ _⟩

set_option maxHeartbeats 1000000 in
theorem up_193 (w : World) : Calls Tryd.prog 25 #[.string ⟨#[195, 129]⟩] w (Piece (plain 193) w) := by
  rw [plain_193]
  unfold Piece
  go_enter Tryd.func25, Tryd.ntmps25
  go_wp2
  go_ret
  exact ⟨rfl, Below.refl _ _⟩

set_option maxHeartbeats 1000000 in
theorem up_192 (w : World) : Calls Tryd.prog 25 #[.string ⟨#[195, 128]⟩] w (Piece (plain 192) w) := by
  rw [plain_192]
  unfold Piece
  go_enter Tryd.func25, Tryd.ntmps25
  go_wp2
  go_ret
  exact ⟨rfl, Below.refl _ _⟩

set_option maxHeartbeats 1000000 in
theorem up_194 (w : World) : Calls Tryd.prog 25 #[.string ⟨#[195, 130]⟩] w (Piece (plain 194) w) := by
  rw [plain_194]
  unfold Piece
  go_enter Tryd.func25, Tryd.ntmps25
  go_wp2
  go_ret
  exact ⟨rfl, Below.refl _ _⟩

set_option maxHeartbeats 1000000 in
theorem up_241 (w : World) : Calls Tryd.prog 25 #[.string ⟨#[195, 177]⟩] w (Piece (plain 241) w) := by
  rw [plain_241]
  unfold Piece
  go_enter Tryd.func25, Tryd.ntmps25
  go_wp2
  go_ret
  exact ⟨rfl, Below.refl _ _⟩

set_option maxHeartbeats 1000000 in
theorem up_209 (w : World) : Calls Tryd.prog 25 #[.string ⟨#[195, 145]⟩] w (Piece (plain 209) w) := by
  rw [plain_209]
  unfold Piece
  go_enter Tryd.func25, Tryd.ntmps25
  go_wp2
  go_ret
  exact ⟨rfl, Below.refl _ _⟩

set_option maxHeartbeats 2000000 in
theorem up_other (s : ByteArray) (w : World) (h : s.size ≠ 1) (h228 : (s.toList == [195, 164]) = false) (h196 : (s.toList == [195, 132]) = false) (h246 : (s.toList == [195, 182]) = false) (h214 : (s.toList == [195, 150]) = false) (h248 : (s.toList == [195, 184]) = false) (h216 : (s.toList == [195, 152]) = false) (h252 : (s.toList == [195, 188]) = false) (h220 : (s.toList == [195, 156]) = false) (h229 : (s.toList == [195, 165]) = false) (h197 : (s.toList == [195, 133]) = false) (h223 : (s.toList == [195, 159]) = false) (h233 : (s.toList == [195, 169]) = false) (h232 : (s.toList == [195, 168]) = false) (h234 : (s.toList == [195, 170]) = false) (h201 : (s.toList == [195, 137]) = false) (h200 : (s.toList == [195, 136]) = false) (h202 : (s.toList == [195, 138]) = false) (h225 : (s.toList == [195, 161]) = false) (h224 : (s.toList == [195, 160]) = false) (h226 : (s.toList == [195, 162]) = false) (h193 : (s.toList == [195, 129]) = false) (h192 : (s.toList == [195, 128]) = false) (h194 : (s.toList == [195, 130]) = false) (h241 : (s.toList == [195, 177]) = false) (h209 : (s.toList == [195, 145]) = false) : Calls Tryd.prog 25 #[.string s] w (Piece [63] w) := by
  unfold Piece
  have h1 : ((s.size : Int) == 1) = false := by simp; omega
  go_enter Tryd.func25, Tryd.ntmps25
  go_wp2
  go_ret
  exact ⟨rfl, Below.refl _ _⟩

set_option maxHeartbeats 1000000 in
theorem of_228 (w : World) : Calls Tryd.prog 23 #[.int .i32 228] w (Told (plain 228) w) := by
  rw [plain_228]
  unfold Told
  go_enter Tryd.func23, Tryd.ntmps23
  go_wp2
  go_ret
  exact ⟨rfl, rfl⟩

set_option maxHeartbeats 1000000 in
theorem of_196 (w : World) : Calls Tryd.prog 23 #[.int .i32 196] w (Told (plain 196) w) := by
  rw [plain_196]
  unfold Told
  go_enter Tryd.func23, Tryd.ntmps23
  go_wp2
  go_ret
  exact ⟨rfl, rfl⟩

set_option maxHeartbeats 1000000 in
theorem of_246 (w : World) : Calls Tryd.prog 23 #[.int .i32 246] w (Told (plain 246) w) := by
  rw [plain_246]
  unfold Told
  go_enter Tryd.func23, Tryd.ntmps23
  go_wp2
  go_ret
  exact ⟨rfl, rfl⟩

set_option maxHeartbeats 1000000 in
theorem of_214 (w : World) : Calls Tryd.prog 23 #[.int .i32 214] w (Told (plain 214) w) := by
  rw [plain_214]
  unfold Told
  go_enter Tryd.func23, Tryd.ntmps23
  go_wp2
  go_ret
  exact ⟨rfl, rfl⟩

set_option maxHeartbeats 1000000 in
theorem of_248 (w : World) : Calls Tryd.prog 23 #[.int .i32 248] w (Told (plain 248) w) := by
  rw [plain_248]
  unfold Told
  go_enter Tryd.func23, Tryd.ntmps23
  go_wp2
  go_ret
  exact ⟨rfl, rfl⟩

set_option maxHeartbeats 1000000 in
theorem of_216 (w : World) : Calls Tryd.prog 23 #[.int .i32 216] w (Told (plain 216) w) := by
  rw [plain_216]
  unfold Told
  go_enter Tryd.func23, Tryd.ntmps23
  go_wp2
  go_ret
  exact ⟨rfl, rfl⟩

set_option maxHeartbeats 1000000 in
theorem of_252 (w : World) : Calls Tryd.prog 23 #[.int .i32 252] w (Told (plain 252) w) := by
  rw [plain_252]
  unfold Told
  go_enter Tryd.func23, Tryd.ntmps23
  go_wp2
  go_ret
  exact ⟨rfl, rfl⟩

set_option maxHeartbeats 1000000 in
theorem of_220 (w : World) : Calls Tryd.prog 23 #[.int .i32 220] w (Told (plain 220) w) := by
  rw [plain_220]
  unfold Told
  go_enter Tryd.func23, Tryd.ntmps23
  go_wp2
  go_ret
  exact ⟨rfl, rfl⟩

set_option maxHeartbeats 1000000 in
theorem of_229 (w : World) : Calls Tryd.prog 23 #[.int .i32 229] w (Told (plain 229) w) := by
  rw [plain_229]
  unfold Told
  go_enter Tryd.func23, Tryd.ntmps23
  go_wp2
  go_ret
  exact ⟨rfl, rfl⟩

set_option maxHeartbeats 1000000 in
theorem of_197 (w : World) : Calls Tryd.prog 23 #[.int .i32 197] w (Told (plain 197) w) := by
  rw [plain_197]
  unfold Told
  go_enter Tryd.func23, Tryd.ntmps23
  go_wp2
  go_ret
  exact ⟨rfl, rfl⟩

set_option maxHeartbeats 1000000 in
theorem of_223 (w : World) : Calls Tryd.prog 23 #[.int .i32 223] w (Told (plain 223) w) := by
  rw [plain_223]
  unfold Told
  go_enter Tryd.func23, Tryd.ntmps23
  go_wp2
  go_ret
  exact ⟨rfl, rfl⟩

set_option maxHeartbeats 1000000 in
theorem of_233 (w : World) : Calls Tryd.prog 23 #[.int .i32 233] w (Told (plain 233) w) := by
  rw [plain_233]
  unfold Told
  go_enter Tryd.func23, Tryd.ntmps23
  go_wp2
  go_ret
  exact ⟨rfl, rfl⟩

set_option maxHeartbeats 1000000 in
theorem of_232 (w : World) : Calls Tryd.prog 23 #[.int .i32 232] w (Told (plain 232) w) := by
  rw [plain_232]
  unfold Told
  go_enter Tryd.func23, Tryd.ntmps23
  go_wp2
  go_ret
  exact ⟨rfl, rfl⟩

set_option maxHeartbeats 1000000 in
theorem of_234 (w : World) : Calls Tryd.prog 23 #[.int .i32 234] w (Told (plain 234) w) := by
  rw [plain_234]
  unfold Told
  go_enter Tryd.func23, Tryd.ntmps23
  go_wp2
  go_ret
  exact ⟨rfl, rfl⟩

set_option maxHeartbeats 1000000 in
theorem of_201 (w : World) : Calls Tryd.prog 23 #[.int .i32 201] w (Told (plain 201) w) := by
  rw [plain_201]
  unfold Told
  go_enter Tryd.func23, Tryd.ntmps23
  go_wp2
  go_ret
  exact ⟨rfl, rfl⟩

set_option maxHeartbeats 1000000 in
theorem of_200 (w : World) : Calls Tryd.prog 23 #[.int .i32 200] w (Told (plain 200) w) := by
  rw [plain_200]
  unfold Told
  go_enter Tryd.func23, Tryd.ntmps23
  go_wp2
  go_ret
  exact ⟨rfl, rfl⟩

set_option maxHeartbeats 1000000 in
theorem of_202 (w : World) : Calls Tryd.prog 23 #[.int .i32 202] w (Told (plain 202) w) := by
  rw [plain_202]
  unfold Told
  go_enter Tryd.func23, Tryd.ntmps23
  go_wp2
  go_ret
  exact ⟨rfl, rfl⟩

set_option maxHeartbeats 1000000 in
theorem of_225 (w : World) : Calls Tryd.prog 23 #[.int .i32 225] w (Told (plain 225) w) := by
  rw [plain_225]
  unfold Told
  go_enter Tryd.func23, Tryd.ntmps23
  go_wp2
  go_ret
  exact ⟨rfl, rfl⟩

set_option maxHeartbeats 1000000 in
theorem of_224 (w : World) : Calls Tryd.prog 23 #[.int .i32 224] w (Told (plain 224) w) := by
  rw [plain_224]
  unfold Told
  go_enter Tryd.func23, Tryd.ntmps23
  go_wp2
  go_ret
  exact ⟨rfl, rfl⟩

set_option maxHeartbeats 1000000 in
theorem of_226 (w : World) : Calls Tryd.prog 23 #[.int .i32 226] w (Told (plain 226) w) := by
  rw [plain_226]
  unfold Told
  go_enter Tryd.func23, Tryd.ntmps23
  go_wp2
  go_ret
  exact ⟨rfl, rfl⟩

set_option maxHeartbeats 1000000 in
theorem of_193 (w : World) : Calls Tryd.prog 23 #[.int .i32 193] w (Told (plain 193) w) := by
  rw [plain_193]
  unfold Told
  go_enter Tryd.func23, Tryd.ntmps23
  go_wp2
  go_ret
  exact ⟨rfl, rfl⟩

set_option maxHeartbeats 1000000 in
theorem of_192 (w : World) : Calls Tryd.prog 23 #[.int .i32 192] w (Told (plain 192) w) := by
  rw [plain_192]
  unfold Told
  go_enter Tryd.func23, Tryd.ntmps23
  go_wp2
  go_ret
  exact ⟨rfl, rfl⟩

set_option maxHeartbeats 1000000 in
theorem of_194 (w : World) : Calls Tryd.prog 23 #[.int .i32 194] w (Told (plain 194) w) := by
  rw [plain_194]
  unfold Told
  go_enter Tryd.func23, Tryd.ntmps23
  go_wp2
  go_ret
  exact ⟨rfl, rfl⟩

set_option maxHeartbeats 1000000 in
theorem of_241 (w : World) : Calls Tryd.prog 23 #[.int .i32 241] w (Told (plain 241) w) := by
  rw [plain_241]
  unfold Told
  go_enter Tryd.func23, Tryd.ntmps23
  go_wp2
  go_ret
  exact ⟨rfl, rfl⟩

set_option maxHeartbeats 1000000 in
theorem of_209 (w : World) : Calls Tryd.prog 23 #[.int .i32 209] w (Told (plain 209) w) := by
  rw [plain_209]
  unfold Told
  go_enter Tryd.func23, Tryd.ntmps23
  go_wp2
  go_ret
  exact ⟨rfl, rfl⟩

set_option maxHeartbeats 2000000 in
theorem of_other (r : Int) (w : World) (h228 : (r == 228) = false) (h196 : (r == 196) = false) (h246 : (r == 246) = false) (h214 : (r == 214) = false) (h248 : (r == 248) = false) (h216 : (r == 216) = false) (h252 : (r == 252) = false) (h220 : (r == 220) = false) (h229 : (r == 229) = false) (h197 : (r == 197) = false) (h223 : (r == 223) = false) (h233 : (r == 233) = false) (h232 : (r == 232) = false) (h234 : (r == 234) = false) (h201 : (r == 201) = false) (h200 : (r == 200) = false) (h202 : (r == 202) = false) (h225 : (r == 225) = false) (h224 : (r == 224) = false) (h226 : (r == 226) = false) (h193 : (r == 193) = false) (h192 : (r == 192) = false) (h194 : (r == 194) = false) (h241 : (r == 241) = false) (h209 : (r == 209) = false) : Calls Tryd.prog 23 #[.int .i32 r] w (Told [63] w) := by
  unfold Told
  go_enter Tryd.func23, Tryd.ntmps23
  go_wp2
  go_ret
  exact ⟨rfl, rfl⟩

theorem of_any (r : Nat) (w : World) : Calls Tryd.prog 23 #[.int .i32 r] w (Told (plain r) w) := by
  by_cases e228 : r = 228
  · subst e228; exact of_228 w
  by_cases e196 : r = 196
  · subst e196; exact of_196 w
  by_cases e246 : r = 246
  · subst e246; exact of_246 w
  by_cases e214 : r = 214
  · subst e214; exact of_214 w
  by_cases e248 : r = 248
  · subst e248; exact of_248 w
  by_cases e216 : r = 216
  · subst e216; exact of_216 w
  by_cases e252 : r = 252
  · subst e252; exact of_252 w
  by_cases e220 : r = 220
  · subst e220; exact of_220 w
  by_cases e229 : r = 229
  · subst e229; exact of_229 w
  by_cases e197 : r = 197
  · subst e197; exact of_197 w
  by_cases e223 : r = 223
  · subst e223; exact of_223 w
  by_cases e233 : r = 233
  · subst e233; exact of_233 w
  by_cases e232 : r = 232
  · subst e232; exact of_232 w
  by_cases e234 : r = 234
  · subst e234; exact of_234 w
  by_cases e201 : r = 201
  · subst e201; exact of_201 w
  by_cases e200 : r = 200
  · subst e200; exact of_200 w
  by_cases e202 : r = 202
  · subst e202; exact of_202 w
  by_cases e225 : r = 225
  · subst e225; exact of_225 w
  by_cases e224 : r = 224
  · subst e224; exact of_224 w
  by_cases e226 : r = 226
  · subst e226; exact of_226 w
  by_cases e193 : r = 193
  · subst e193; exact of_193 w
  by_cases e192 : r = 192
  · subst e192; exact of_192 w
  by_cases e194 : r = 194
  · subst e194; exact of_194 w
  by_cases e241 : r = 241
  · subst e241; exact of_241 w
  by_cases e209 : r = 209
  · subst e209; exact of_209 w
  rw [plain_none r (by
    unfold letters
    simp only [List.mem_cons, List.not_mem_nil, or_false, forall_eq_or_imp, forall_eq]
    exact ⟨e228, e196, e246, e214, e248, e216, e252, e220, e229, e197, e223, e233, e232, e234, e201, e200, e202, e225, e224, e226, e193, e192, e194, e241, e209⟩)]
  exact of_other r w (by rw [beq_eq_false_iff_ne]; omega) (by rw [beq_eq_false_iff_ne]; omega) (by rw [beq_eq_false_iff_ne]; omega) (by rw [beq_eq_false_iff_ne]; omega) (by rw [beq_eq_false_iff_ne]; omega) (by rw [beq_eq_false_iff_ne]; omega) (by rw [beq_eq_false_iff_ne]; omega) (by rw [beq_eq_false_iff_ne]; omega) (by rw [beq_eq_false_iff_ne]; omega) (by rw [beq_eq_false_iff_ne]; omega) (by rw [beq_eq_false_iff_ne]; omega) (by rw [beq_eq_false_iff_ne]; omega) (by rw [beq_eq_false_iff_ne]; omega) (by rw [beq_eq_false_iff_ne]; omega) (by rw [beq_eq_false_iff_ne]; omega) (by rw [beq_eq_false_iff_ne]; omega) (by rw [beq_eq_false_iff_ne]; omega) (by rw [beq_eq_false_iff_ne]; omega) (by rw [beq_eq_false_iff_ne]; omega) (by rw [beq_eq_false_iff_ne]; omega) (by rw [beq_eq_false_iff_ne]; omega) (by rw [beq_eq_false_iff_ne]; omega) (by rw [beq_eq_false_iff_ne]; omega) (by rw [beq_eq_false_iff_ne]; omega) (by rw [beq_eq_false_iff_ne]; omega)

end Go.Proofs.YtpehoakdhbicfaaDoor.Uq
