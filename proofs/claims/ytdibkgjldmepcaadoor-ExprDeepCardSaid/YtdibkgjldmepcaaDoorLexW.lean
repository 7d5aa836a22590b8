/- The words of the language: Reserved and Name, of both. -/
import Derived.Test.YtdibkgjldmepcaaDoorLexR2
namespace Go.Proofs.YtdibkgjldmepcaaDoor.Lex
open Go.RowKit Mem
set_option linter.unusedVariables false

def wordsL : List Bytes := [[115, 121, 115, 116, 101, 109], [97, 103, 101], [99, 104, 97, 114, 116], [115, 116, 101, 112, 115], [102, 117, 101, 108], [118, 97, 114], [112, 111, 114, 116], [116, 105, 109, 101, 114], [115, 116, 97, 116, 101], [112, 97, 114, 97, 108, 108, 101, 108], [104, 105, 115, 116, 111, 114, 121], [100, 101, 101, 112], [101, 110, 116, 114, 121], [101, 120, 105, 116], [111, 110], [97, 117, 116, 111], [114, 97, 105, 115, 101], [115, 101, 110, 100], [97, 114, 109], [99, 97, 110, 99, 101, 108], [105, 102], [101, 108, 115, 101], [108, 111, 111, 112], [105, 110], [105, 110, 115, 116], [113, 117, 97, 110, 116, 117, 109], [101, 120, 116], [112, 114, 105, 111], [99, 104, 97, 110], [99, 97, 112], [99, 101, 114, 116], [105, 110, 115, 116, 115], [99, 104, 97, 110, 115], [99, 101, 108, 108], [111, 102, 102]]
def reserved (l : Bytes) : Bool := wordsL.contains l
def wordsC : Array Value := #[.string ⟨#[115, 121, 115, 116, 101, 109]⟩, .string ⟨#[97, 103, 101]⟩, .string ⟨#[99, 104, 97, 114, 116]⟩, .string ⟨#[115, 116, 101, 112, 115]⟩, .string ⟨#[102, 117, 101, 108]⟩, .string ⟨#[118, 97, 114]⟩, .string ⟨#[112, 111, 114, 116]⟩, .string ⟨#[116, 105, 109, 101, 114]⟩, .string ⟨#[115, 116, 97, 116, 101]⟩, .string ⟨#[112, 97, 114, 97, 108, 108, 101, 108]⟩, .string ⟨#[104, 105, 115, 116, 111, 114, 121]⟩, .string ⟨#[100, 101, 101, 112]⟩, .string ⟨#[101, 110, 116, 114, 121]⟩, .string ⟨#[101, 120, 105, 116]⟩, .string ⟨#[111, 110]⟩, .string ⟨#[97, 117, 116, 111]⟩, .string ⟨#[114, 97, 105, 115, 101]⟩, .string ⟨#[115, 101, 110, 100]⟩, .string ⟨#[97, 114, 109]⟩, .string ⟨#[99, 97, 110, 99, 101, 108]⟩, .string ⟨#[105, 102]⟩, .string ⟨#[101, 108, 115, 101]⟩, .string ⟨#[108, 111, 111, 112]⟩, .string ⟨#[105, 110]⟩, .string ⟨#[105, 110, 115, 116]⟩, .string ⟨#[113, 117, 97, 110, 116, 117, 109]⟩, .string ⟨#[101, 120, 116]⟩, .string ⟨#[112, 114, 105, 111]⟩, .string ⟨#[99, 104, 97, 110]⟩, .string ⟨#[99, 97, 112]⟩, .string ⟨#[99, 101, 114, 116]⟩, .string ⟨#[105, 110, 115, 116, 115]⟩, .string ⟨#[99, 104, 97, 110, 115]⟩, .string ⟨#[99, 101, 108, 108]⟩, .string ⟨#[111, 102, 102]⟩]
theorem words_len : wordsL.length = 35 := rfl
theorem words_get (k : Nat) (h : k < 35) : ∃ z : ByteArray, bs z = wordsL[k]'h ∧ wordsC[k]? = some (.string z) := by
  match k, h with
  | 0, _ => exact ⟨_, rfl, rfl⟩
  | 1, _ => exact ⟨_, rfl, rfl⟩
  | 2, _ => exact ⟨_, rfl, rfl⟩
  | 3, _ => exact ⟨_, rfl, rfl⟩
  | 4, _ => exact ⟨_, rfl, rfl⟩
  | 5, _ => exact ⟨_, rfl, rfl⟩
  | 6, _ => exact ⟨_, rfl, rfl⟩
  | 7, _ => exact ⟨_, rfl, rfl⟩
  | 8, _ => exact ⟨_, rfl, rfl⟩
  | 9, _ => exact ⟨_, rfl, rfl⟩
  | 10, _ => exact ⟨_, rfl, rfl⟩
  | 11, _ => exact ⟨_, rfl, rfl⟩
  | 12, _ => exact ⟨_, rfl, rfl⟩
  | 13, _ => exact ⟨_, rfl, rfl⟩
  | 14, _ => exact ⟨_, rfl, rfl⟩
  | 15, _ => exact ⟨_, rfl, rfl⟩
  | 16, _ => exact ⟨_, rfl, rfl⟩
  | 17, _ => exact ⟨_, rfl, rfl⟩
  | 18, _ => exact ⟨_, rfl, rfl⟩
  | 19, _ => exact ⟨_, rfl, rfl⟩
  | 20, _ => exact ⟨_, rfl, rfl⟩
  | 21, _ => exact ⟨_, rfl, rfl⟩
  | 22, _ => exact ⟨_, rfl, rfl⟩
  | 23, _ => exact ⟨_, rfl, rfl⟩
  | 24, _ => exact ⟨_, rfl, rfl⟩
  | 25, _ => exact ⟨_, rfl, rfl⟩
  | 26, _ => exact ⟨_, rfl, rfl⟩
  | 27, _ => exact ⟨_, rfl, rfl⟩
  | 28, _ => exact ⟨_, rfl, rfl⟩
  | 29, _ => exact ⟨_, rfl, rfl⟩
  | 30, _ => exact ⟨_, rfl, rfl⟩
  | 31, _ => exact ⟨_, rfl, rfl⟩
  | 32, _ => exact ⟨_, rfl, rfl⟩
  | 33, _ => exact ⟨_, rfl, rfl⟩
  | 34, _ => exact ⟨_, rfl, rfl⟩
  | (n + 35), h => exact absurd h (by omega)
theorem words_step {l : Bytes} {k : Nat} (h : k < 35) : (wordsL.take (k + 1)).contains l = ((wordsL.take k).contains l || l == wordsL[k]'h) := by
  rw [List.take_succ_eq_append_getElem h, Bool.eq_iff_iff]
  simp

set_option maxHeartbeats 4000000 in
set_option maxRecDepth 10000 in
theorem reserved_c (s : ByteArray) (w : World) : Calls Tryd.prog 69 #[.string s] w fun e w' => e = .returned (.bool (reserved (bs s))) ∧ w' = w := by
  have key : ∀ l, (s.toList == l) = (bs s == l) := fun l => by rw [toList_bs]
  by_cases h0 : bs s = [115, 121, 115, 116, 101, 109]
  · rw [h0, show reserved [115, 121, 115, 116, 101, 109] = true by decide]
    have f0 : (s.toList == [115, 121, 115, 116, 101, 109]) = true := by rw [key, h0]; decide
    clear key h0
    go_enter Tryd.func69, Tryd.ntmps69
    go_wp2_with fail
    go_ret
    exact ⟨rfl, rfl⟩
  by_cases h1 : bs s = [97, 103, 101]
  · rw [h1, show reserved [97, 103, 101] = true by decide]
    have f0 : (s.toList == [115, 121, 115, 116, 101, 109]) = false := by rw [key, h1]; decide
    have f1 : (s.toList == [97, 103, 101]) = true := by rw [key, h1]; decide
    clear key h0 h1
    go_enter Tryd.func69, Tryd.ntmps69
    go_wp2_with fail
    go_ret
    exact ⟨rfl, rfl⟩
  by_cases h2 : bs s = [99, 104, 97, 114, 116]
  · rw [h2, show reserved [99, 104, 97, 114, 116] = true by decide]
    have f0 : (s.toList == [115, 121, 115, 116, 101, 109]) = false := by rw [key, h2]; decide
    have f1 : (s.toList == [97, 103, 101]) = false := by rw [key, h2]; decide
    have f2 : (s.toList == [99, 104, 97, 114, 116]) = true := by rw [key, h2]; decide
    clear key h0 h1 h2
    go_enter Tryd.func69, Tryd.ntmps69
    go_wp2_with fail
    go_ret
    exact ⟨rfl, rfl⟩
  by_cases h3 : bs s = [115, 116, 101, 112, 115]
  · rw [h3, show reserved [115, 116, 101, 112, 115] = true by decide]
    have f0 : (s.toList == [115, 121, 115, 116, 101, 109]) = false := by rw [key, h3]; decide
    have f1 : (s.toList == [97, 103, 101]) = false := by rw [key, h3]; decide
    have f2 : (s.toList == [99, 104, 97, 114, 116]) = false := by rw [key, h3]; decide
    have f3 : (s.toList == [115, 116, 101, 112, 115]) = true := by rw [key, h3]; decide
    clear key h0 h1 h2 h3
    go_enter Tryd.func69, Tryd.ntmps69
    go_wp2_with fail
    go_ret
    exact ⟨rfl, rfl⟩
  by_cases h4 : bs s = [102, 117, 101, 108]
  · rw [h4, show reserved [102, 117, 101, 108] = true by decide]
    have f0 : (s.toList == [115, 121, 115, 116, 101, 109]) = false := by rw [key, h4]; decide
    have f1 : (s.toList == [97, 103, 101]) = false := by rw [key, h4]; decide
    have f2 : (s.toList == [99, 104, 97, 114, 116]) = false := by rw [key, h4]; decide
    have f3 : (s.toList == [115, 116, 101, 112, 115]) = false := by rw [key, h4]; decide
    have f4 : (s.toList == [102, 117, 101, 108]) = true := by rw [key, h4]; decide
    clear key h0 h1 h2 h3 h4
    go_enter Tryd.func69, Tryd.ntmps69
    go_wp2_with fail
    go_ret
    exact ⟨rfl, rfl⟩
  by_cases h5 : bs s = [118, 97, 114]
  · rw [h5, show reserved [118, 97, 114] = true by decide]
    have f0 : (s.toList == [115, 121, 115, 116, 101, 109]) = false := by rw [key, h5]; decide
    have f1 : (s.toList == [97, 103, 101]) = false := by rw [key, h5]; decide
    have f2 : (s.toList == [99, 104, 97, 114, 116]) = false := by rw [key, h5]; decide
    have f3 : (s.toList == [115, 116, 101, 112, 115]) = false := by rw [key, h5]; decide
    have f4 : (s.toList == [102, 117, 101, 108]) = false := by rw [key, h5]; decide
    have f5 : (s.toList == [118, 97, 114]) = true := by rw [key, h5]; decide
    clear key h0 h1 h2 h3 h4 h5
    go_enter Tryd.func69, Tryd.ntmps69
    go_wp2_with fail
    go_ret
    exact ⟨rfl, rfl⟩
  by_cases h6 : bs s = [112, 111, 114, 116]
  · rw [h6, show reserved [112, 111, 114, 116] = true by decide]
    have f0 : (s.toList == [115, 121, 115, 116, 101, 109]) = false := by rw [key, h6]; decide
    have f1 : (s.toList == [97, 103, 101]) = false := by rw [key, h6]; decide
    have f2 : (s.toList == [99, 104, 97, 114, 116]) = false := by rw [key, h6]; decide
    have f3 : (s.toList == [115, 116, 101, 112, 115]) = false := by rw [key, h6]; decide
    have f4 : (s.toList == [102, 117, 101, 108]) = false := by rw [key, h6]; decide
    have f5 : (s.toList == [118, 97, 114]) = false := by rw [key, h6]; decide
    have f6 : (s.toList == [112, 111, 114, 116]) = true := by rw [key, h6]; decide
    clear key h0 h1 h2 h3 h4 h5 h6
    go_enter Tryd.func69, Tryd.ntmps69
    go_wp2_with fail
    go_ret
    exact ⟨rfl, rfl⟩
  by_cases h7 : bs s = [116, 105, 109, 101, 114]
  · rw [h7, show reserved [116, 105, 109, 101, 114] = true by decide]
    have f0 : (s.toList == [115, 121, 115, 116, 101, 109]) = false := by rw [key, h7]; decide
    have f1 : (s.toList == [97, 103, 101]) = false := by rw [key, h7]; decide
    have f2 : (s.toList == [99, 104, 97, 114, 116]) = false := by rw [key, h7]; decide
    have f3 : (s.toList == [115, 116, 101, 112, 115]) = false := by rw [key, h7]; decide
    have f4 : (s.toList == [102, 117, 101, 108]) = false := by rw [key, h7]; decide
    have f5 : (s.toList == [118, 97, 114]) = false := by rw [key, h7]; decide
    have f6 : (s.toList == [112, 111, 114, 116]) = false := by rw [key, h7]; decide
    have f7 : (s.toList == [116, 105, 109, 101, 114]) = true := by rw [key, h7]; decide
    clear key h0 h1 h2 h3 h4 h5 h6 h7
    go_enter Tryd.func69, Tryd.ntmps69
    go_wp2_with fail
    go_ret
    exact ⟨rfl, rfl⟩
  by_cases h8 : bs s = [115, 116, 97, 116, 101]
  · rw [h8, show reserved [115, 116, 97, 116, 101] = true by decide]
    have f0 : (s.toList == [115, 121, 115, 116, 101, 109]) = false := by rw [key, h8]; decide
    have f1 : (s.toList == [97, 103, 101]) = false := by rw [key, h8]; decide
    have f2 : (s.toList == [99, 104, 97, 114, 116]) = false := by rw [key, h8]; decide
    have f3 : (s.toList == [115, 116, 101, 112, 115]) = false := by rw [key, h8]; decide
    have f4 : (s.toList == [102, 117, 101, 108]) = false := by rw [key, h8]; decide
    have f5 : (s.toList == [118, 97, 114]) = false := by rw [key, h8]; decide
    have f6 : (s.toList == [112, 111, 114, 116]) = false := by rw [key, h8]; decide
    have f7 : (s.toList == [116, 105, 109, 101, 114]) = false := by rw [key, h8]; decide
    have f8 : (s.toList == [115, 116, 97, 116, 101]) = true := by rw [key, h8]; decide
    clear key h0 h1 h2 h3 h4 h5 h6 h7 h8
    go_enter Tryd.func69, Tryd.ntmps69
    go_wp2_with fail
    go_ret
    exact ⟨rfl, rfl⟩
  by_cases h9 : bs s = [112, 97, 114, 97, 108, 108, 101, 108]
  · rw [h9, show reserved [112, 97, 114, 97, 108, 108, 101, 108] = true by decide]
    have f0 : (s.toList == [115, 121, 115, 116, 101, 109]) = false := by rw [key, h9]; decide
    have f1 : (s.toList == [97, 103, 101]) = false := by rw [key, h9]; decide
    have f2 : (s.toList == [99, 104, 97, 114, 116]) = false := by rw [key, h9]; decide
    have f3 : (s.toList == [115, 116, 101, 112, 115]) = false := by rw [key, h9]; decide
    have f4 : (s.toList == [102, 117, 101, 108]) = false := by rw [key, h9]; decide
    have f5 : (s.toList == [118, 97, 114]) = false := by rw [key, h9]; decide
    have f6 : (s.toList == [112, 111, 114, 116]) = false := by rw [key, h9]; decide
    have f7 : (s.toList == [116, 105, 109, 101, 114]) = false := by rw [key, h9]; decide
    have f8 : (s.toList == [115, 116, 97, 116, 101]) = false := by rw [key, h9]; decide
    have f9 : (s.toList == [112, 97, 114, 97, 108, 108, 101, 108]) = true := by rw [key, h9]; decide
    clear key h0 h1 h2 h3 h4 h5 h6 h7 h8 h9
    go_enter Tryd.func69, Tryd.ntmps69
    go_wp2_with fail
    go_ret
    exact ⟨rfl, rfl⟩
  by_cases h10 : bs s = [104, 105, 115, 116, 111, 114, 121]
  · rw [h10, show reserved [104, 105, 115, 116, 111, 114, 121] = true by decide]
    have f0 : (s.toList == [115, 121, 115, 116, 101, 109]) = false := by rw [key, h10]; decide
    have f1 : (s.toList == [97, 103, 101]) = false := by rw [key, h10]; decide
    have f2 : (s.toList == [99, 104, 97, 114, 116]) = false := by rw [key, h10]; decide
    have f3 : (s.toList == [115, 116, 101, 112, 115]) = false := by rw [key, h10]; decide
    have f4 : (s.toList == [102, 117, 101, 108]) = false := by rw [key, h10]; decide
    have f5 : (s.toList == [118, 97, 114]) = false := by rw [key, h10]; decide
    have f6 : (s.toList == [112, 111, 114, 116]) = false := by rw [key, h10]; decide
    have f7 : (s.toList == [116, 105, 109, 101, 114]) = false := by rw [key, h10]; decide
    have f8 : (s.toList == [115, 116, 97, 116, 101]) = false := by rw [key, h10]; decide
    have f9 : (s.toList == [112, 97, 114, 97, 108, 108, 101, 108]) = false := by rw [key, h10]; decide
    have f10 : (s.toList == [104, 105, 115, 116, 111, 114, 121]) = true := by rw [key, h10]; decide
    clear key h0 h1 h2 h3 h4 h5 h6 h7 h8 h9 h10
    go_enter Tryd.func69, Tryd.ntmps69
    go_wp2_with fail
    go_ret
    exact ⟨rfl, rfl⟩
  by_cases h11 : bs s = [100, 101, 101, 112]
  · rw [h11, show reserved [100, 101, 101, 112] = true by decide]
    have f0 : (s.toList == [115, 121, 115, 116, 101, 109]) = false := by rw [key, h11]; decide
    have f1 : (s.toList == [97, 103, 101]) = false := by rw [key, h11]; decide
    have f2 : (s.toList == [99, 104, 97, 114, 116]) = false := by rw [key, h11]; decide
    have f3 : (s.toList == [115, 116, 101, 112, 115]) = false := by rw [key, h11]; decide
    have f4 : (s.toList == [102, 117, 101, 108]) = false := by rw [key, h11]; decide
    have f5 : (s.toList == [118, 97, 114]) = false := by rw [key, h11]; decide
    have f6 : (s.toList == [112, 111, 114, 116]) = false := by rw [key, h11]; decide
    have f7 : (s.toList == [116, 105, 109, 101, 114]) = false := by rw [key, h11]; decide
    have f8 : (s.toList == [115, 116, 97, 116, 101]) = false := by rw [key, h11]; decide
    have f9 : (s.toList == [112, 97, 114, 97, 108, 108, 101, 108]) = false := by rw [key, h11]; decide
    have f10 : (s.toList == [104, 105, 115, 116, 111, 114, 121]) = false := by rw [key, h11]; decide
    have f11 : (s.toList == [100, 101, 101, 112]) = true := by rw [key, h11]; decide
    clear key h0 h1 h2 h3 h4 h5 h6 h7 h8 h9 h10 h11
    go_enter Tryd.func69, Tryd.ntmps69
    go_wp2_with fail
    go_ret
    exact ⟨rfl, rfl⟩
  by_cases h12 : bs s = [101, 110, 116, 114, 121]
  · rw [h12, show reserved [101, 110, 116, 114, 121] = true by decide]
    have f0 : (s.toList == [115, 121, 115, 116, 101, 109]) = false := by rw [key, h12]; decide
    have f1 : (s.toList == [97, 103, 101]) = false := by rw [key, h12]; decide
    have f2 : (s.toList == [99, 104, 97, 114, 116]) = false := by rw [key, h12]; decide
    have f3 : (s.toList == [115, 116, 101, 112, 115]) = false := by rw [key, h12]; decide
    have f4 : (s.toList == [102, 117, 101, 108]) = false := by rw [key, h12]; decide
    have f5 : (s.toList == [118, 97, 114]) = false := by rw [key, h12]; decide
    have f6 : (s.toList == [112, 111, 114, 116]) = false := by rw [key, h12]; decide
    have f7 : (s.toList == [116, 105, 109, 101, 114]) = false := by rw [key, h12]; decide
    have f8 : (s.toList == [115, 116, 97, 116, 101]) = false := by rw [key, h12]; decide
    have f9 : (s.toList == [112, 97, 114, 97, 108, 108, 101, 108]) = false := by rw [key, h12]; decide
    have f10 : (s.toList == [104, 105, 115, 116, 111, 114, 121]) = false := by rw [key, h12]; decide
    have f11 : (s.toList == [100, 101, 101, 112]) = false := by rw [key, h12]; decide
    have f12 : (s.toList == [101, 110, 116, 114, 121]) = true := by rw [key, h12]; decide
    clear key h0 h1 h2 h3 h4 h5 h6 h7 h8 h9 h10 h11 h12
    go_enter Tryd.func69, Tryd.ntmps69
    go_wp2_with fail
    go_ret
    exact ⟨rfl, rfl⟩
  by_cases h13 : bs s = [101, 120, 105, 116]
  · rw [h13, show reserved [101, 120, 105, 116] = true by decide]
    have f0 : (s.toList == [115, 121, 115, 116, 101, 109]) = false := by rw [key, h13]; decide
    have f1 : (s.toList == [97, 103, 101]) = false := by rw [key, h13]; decide
    have f2 : (s.toList == [99, 104, 97, 114, 116]) = false := by rw [key, h13]; decide
    have f3 : (s.toList == [115, 116, 101, 112, 115]) = false := by rw [key, h13]; decide
    have f4 : (s.toList == [102, 117, 101, 108]) = false := by rw [key, h13]; decide
    have f5 : (s.toList == [118, 97, 114]) = false := by rw [key, h13]; decide
    have f6 : (s.toList == [112, 111, 114, 116]) = false := by rw [key, h13]; decide
    have f7 : (s.toList == [116, 105, 109, 101, 114]) = false := by rw [key, h13]; decide
    have f8 : (s.toList == [115, 116, 97, 116, 101]) = false := by rw [key, h13]; decide
    have f9 : (s.toList == [112, 97, 114, 97, 108, 108, 101, 108]) = false := by rw [key, h13]; decide
    have f10 : (s.toList == [104, 105, 115, 116, 111, 114, 121]) = false := by rw [key, h13]; decide
    have f11 : (s.toList == [100, 101, 101, 112]) = false := by rw [key, h13]; decide
    have f12 : (s.toList == [101, 110, 116, 114, 121]) = false := by rw [key, h13]; decide
    have f13 : (s.toList == [101, 120, 105, 116]) = true := by rw [key, h13]; decide
    clear key h0 h1 h2 h3 h4 h5 h6 h7 h8 h9 h10 h11 h12 h13
    go_enter Tryd.func69, Tryd.ntmps69
    go_wp2_with fail
    go_ret
    exact ⟨rfl, rfl⟩
  by_cases h14 : bs s = [111, 110]
  · rw [h14, show reserved [111, 110] = true by decide]
    have f0 : (s.toList == [115, 121, 115, 116, 101, 109]) = false := by rw [key, h14]; decide
    have f1 : (s.toList == [97, 103, 101]) = false := by rw [key, h14]; decide
    have f2 : (s.toList == [99, 104, 97, 114, 116]) = false := by rw [key, h14]; decide
    have f3 : (s.toList == [115, 116, 101, 112, 115]) = false := by rw [key, h14]; decide
    have f4 : (s.toList == [102, 117, 101, 108]) = false := by rw [key, h14]; decide
    have f5 : (s.toList == [118, 97, 114]) = false := by rw [key, h14]; decide
    have f6 : (s.toList == [112, 111, 114, 116]) = false := by rw [key, h14]; decide
    have f7 : (s.toList == [116, 105, 109, 101, 114]) = false := by rw [key, h14]; decide
    have f8 : (s.toList == [115, 116, 97, 116, 101]) = false := by rw [key, h14]; decide
    have f9 : (s.toList == [112, 97, 114, 97, 108, 108, 101, 108]) = false := by rw [key, h14]; decide
    have f10 : (s.toList == [104, 105, 115, 116, 111, 114, 121]) = false := by rw [key, h14]; decide
    have f11 : (s.toList == [100, 101, 101, 112]) = false := by rw [key, h14]; decide
    have f12 : (s.toList == [101, 110, 116, 114, 121]) = false := by rw [key, h14]; decide
    have f13 : (s.toList == [101, 120, 105, 116]) = false := by rw [key, h14]; decide
    have f14 : (s.toList == [111, 110]) = true := by rw [key, h14]; decide
    clear key h0 h1 h2 h3 h4 h5 h6 h7 h8 h9 h10 h11 h12 h13 h14
    go_enter Tryd.func69, Tryd.ntmps69
    go_wp2_with fail
    go_ret
    exact ⟨rfl, rfl⟩
  by_cases h15 : bs s = [97, 117, 116, 111]
  · rw [h15, show reserved [97, 117, 116, 111] = true by decide]
    have f0 : (s.toList == [115, 121, 115, 116, 101, 109]) = false := by rw [key, h15]; decide
    have f1 : (s.toList == [97, 103, 101]) = false := by rw [key, h15]; decide
    have f2 : (s.toList == [99, 104, 97, 114, 116]) = false := by rw [key, h15]; decide
    have f3 : (s.toList == [115, 116, 101, 112, 115]) = false := by rw [key, h15]; decide
    have f4 : (s.toList == [102, 117, 101, 108]) = false := by rw [key, h15]; decide
    have f5 : (s.toList == [118, 97, 114]) = false := by rw [key, h15]; decide
    have f6 : (s.toList == [112, 111, 114, 116]) = false := by rw [key, h15]; decide
    have f7 : (s.toList == [116, 105, 109, 101, 114]) = false := by rw [key, h15]; decide
    have f8 : (s.toList == [115, 116, 97, 116, 101]) = false := by rw [key, h15]; decide
    have f9 : (s.toList == [112, 97, 114, 97, 108, 108, 101, 108]) = false := by rw [key, h15]; decide
    have f10 : (s.toList == [104, 105, 115, 116, 111, 114, 121]) = false := by rw [key, h15]; decide
    have f11 : (s.toList == [100, 101, 101, 112]) = false := by rw [key, h15]; decide
    have f12 : (s.toList == [101, 110, 116, 114, 121]) = false := by rw [key, h15]; decide
    have f13 : (s.toList == [101, 120, 105, 116]) = false := by rw [key, h15]; decide
    have f14 : (s.toList == [111, 110]) = false := by rw [key, h15]; decide
    have f15 : (s.toList == [97, 117, 116, 111]) = true := by rw [key, h15]; decide
    clear key h0 h1 h2 h3 h4 h5 h6 h7 h8 h9 h10 h11 h12 h13 h14 h15
    go_enter Tryd.func69, Tryd.ntmps69
    go_wp2_with fail
    go_ret
    exact ⟨rfl, rfl⟩
  by_cases h16 : bs s = [114, 97, 105, 115, 101]
  · rw [h16, show reserved [114, 97, 105, 115, 101] = true by decide]
    have f0 : (s.toList == [115, 121, 115, 116, 101, 109]) = false := by rw [key, h16]; decide
    have f1 : (s.toList == [97, 103, 101]) = false := by rw [key, h16]; decide
    have f2 : (s.toList == [99, 104, 97, 114, 116]) = false := by rw [key, h16]; decide
    have f3 : (s.toList == [115, 116, 101, 112, 115]) = false := by rw [key, h16]; decide
    have f4 : (s.toList == [102, 117, 101, 108]) = false := by rw [key, h16]; decide
    have f5 : (s.toList == [118, 97, 114]) = false := by rw [key, h16]; decide
    have f6 : (s.toList == [112, 111, 114, 116]) = false := by rw [key, h16]; decide
    have f7 : (s.toList == [116, 105, 109, 101, 114]) = false := by rw [key, h16]; decide
    have f8 : (s.toList == [115, 116, 97, 116, 101]) = false := by rw [key, h16]; decide
    have f9 : (s.toList == [112, 97, 114, 97, 108, 108, 101, 108]) = false := by rw [key, h16]; decide
    have f10 : (s.toList == [104, 105, 115, 116, 111, 114, 121]) = false := by rw [key, h16]; decide
    have f11 : (s.toList == [100, 101, 101, 112]) = false := by rw [key, h16]; decide
    have f12 : (s.toList == [101, 110, 116, 114, 121]) = false := by rw [key, h16]; decide
    have f13 : (s.toList == [101, 120, 105, 116]) = false := by rw [key, h16]; decide
    have f14 : (s.toList == [111, 110]) = false := by rw [key, h16]; decide
    have f15 : (s.toList == [97, 117, 116, 111]) = false := by rw [key, h16]; decide
    have f16 : (s.toList == [114, 97, 105, 115, 101]) = true := by rw [key, h16]; decide
    clear key h0 h1 h2 h3 h4 h5 h6 h7 h8 h9 h10 h11 h12 h13 h14 h15 h16
    go_enter Tryd.func69, Tryd.ntmps69
    go_wp2_with fail
    go_ret
    exact ⟨rfl, rfl⟩
  by_cases h17 : bs s = [115, 101, 110, 100]
  · rw [h17, show reserved [115, 101, 110, 100] = true by decide]
    have f0 : (s.toList == [115, 121, 115, 116, 101, 109]) = false := by rw [key, h17]; decide
    have f1 : (s.toList == [97, 103, 101]) = false := by rw [key, h17]; decide
    have f2 : (s.toList == [99, 104, 97, 114, 116]) = false := by rw [key, h17]; decide
    have f3 : (s.toList == [115, 116, 101, 112, 115]) = false := by rw [key, h17]; decide
    have f4 : (s.toList == [102, 117, 101, 108]) = false := by rw [key, h17]; decide
    have f5 : (s.toList == [118, 97, 114]) = false := by rw [key, h17]; decide
    have f6 : (s.toList == [112, 111, 114, 116]) = false := by rw [key, h17]; decide
    have f7 : (s.toList == [116, 105, 109, 101, 114]) = false := by rw [key, h17]; decide
    have f8 : (s.toList == [115, 116, 97, 116, 101]) = false := by rw [key, h17]; decide
    have f9 : (s.toList == [112, 97, 114, 97, 108, 108, 101, 108]) = false := by rw [key, h17]; decide
    have f10 : (s.toList == [104, 105, 115, 116, 111, 114, 121]) = false := by rw [key, h17]; decide
    have f11 : (s.toList == [100, 101, 101, 112]) = false := by rw [key, h17]; decide
    have f12 : (s.toList == [101, 110, 116, 114, 121]) = false := by rw [key, h17]; decide
    have f13 : (s.toList == [101, 120, 105, 116]) = false := by rw [key, h17]; decide
    have f14 : (s.toList == [111, 110]) = false := by rw [key, h17]; decide
    have f15 : (s.toList == [97, 117, 116, 111]) = false := by rw [key, h17]; decide
    have f16 : (s.toList == [114, 97, 105, 115, 101]) = false := by rw [key, h17]; decide
    have f17 : (s.toList == [115, 101, 110, 100]) = true := by rw [key, h17]; decide
    clear key h0 h1 h2 h3 h4 h5 h6 h7 h8 h9 h10 h11 h12 h13 h14 h15 h16 h17
    go_enter Tryd.func69, Tryd.ntmps69
    go_wp2_with fail
    go_ret
    exact ⟨rfl, rfl⟩
  by_cases h18 : bs s = [97, 114, 109]
  · rw [h18, show reserved [97, 114, 109] = true by decide]
    have f0 : (s.toList == [115, 121, 115, 116, 101, 109]) = false := by rw [key, h18]; decide
    have f1 : (s.toList == [97, 103, 101]) = false := by rw [key, h18]; decide
    have f2 : (s.toList == [99, 104, 97, 114, 116]) = false := by rw [key, h18]; decide
    have f3 : (s.toList == [115, 116, 101, 112, 115]) = false := by rw [key, h18]; decide
    have f4 : (s.toList == [102, 117, 101, 108]) = false := by rw [key, h18]; decide
    have f5 : (s.toList == [118, 97, 114]) = false := by rw [key, h18]; decide
    have f6 : (s.toList == [112, 111, 114, 116]) = false := by rw [key, h18]; decide
    have f7 : (s.toList == [116, 105, 109, 101, 114]) = false := by rw [key, h18]; decide
    have f8 : (s.toList == [115, 116, 97, 116, 101]) = false := by rw [key, h18]; decide
    have f9 : (s.toList == [112, 97, 114, 97, 108, 108, 101, 108]) = false := by rw [key, h18]; decide
    have f10 : (s.toList == [104, 105, 115, 116, 111, 114, 121]) = false := by rw [key, h18]; decide
    have f11 : (s.toList == [100, 101, 101, 112]) = false := by rw [key, h18]; decide
    have f12 : (s.toList == [101, 110, 116, 114, 121]) = false := by rw [key, h18]; decide
    have f13 : (s.toList == [101, 120, 105, 116]) = false := by rw [key, h18]; decide
    have f14 : (s.toList == [111, 110]) = false := by rw [key, h18]; decide
    have f15 : (s.toList == [97, 117, 116, 111]) = false := by rw [key, h18]; decide
    have f16 : (s.toList == [114, 97, 105, 115, 101]) = false := by rw [key, h18]; decide
    have f17 : (s.toList == [115, 101, 110, 100]) = false := by rw [key, h18]; decide
    have f18 : (s.toList == [97, 114, 109]) = true := by rw [key, h18]; decide
    clear key h0 h1 h2 h3 h4 h5 h6 h7 h8 h9 h10 h11 h12 h13 h14 h15 h16 h17 h18
    go_enter Tryd.func69, Tryd.ntmps69
    go_wp2_with fail
    go_ret
    exact ⟨rfl, rfl⟩
  by_cases h19 : bs s = [99, 97, 110, 99, 101, 108]
  · rw [h19, show reserved [99, 97, 110, 99, 101, 108] = true by decide]
    have f0 : (s.toList == [115, 121, 115, 116, 101, 109]) = false := by rw [key, h19]; decide
    have f1 : (s.toList == [97, 103, 101]) = false := by rw [key, h19]; decide
    have f2 : (s.toList == [99, 104, 97, 114, 116]) = false := by rw [key, h19]; decide
    have f3 : (s.toList == [115, 116, 101, 112, 115]) = false := by rw [key, h19]; decide
    have f4 : (s.toList == [102, 117, 101, 108]) = false := by rw [key, h19]; decide
    have f5 : (s.toList == [118, 97, 114]) = false := by rw [key, h19]; decide
    have f6 : (s.toList == [112, 111, 114, 116]) = false := by rw [key, h19]; decide
    have f7 : (s.toList == [116, 105, 109, 101, 114]) = false := by rw [key, h19]; decide
    have f8 : (s.toList == [115, 116, 97, 116, 101]) = false := by rw [key, h19]; decide
    have f9 : (s.toList == [112, 97, 114, 97, 108, 108, 101, 108]) = false := by rw [key, h19]; decide
    have f10 : (s.toList == [104, 105, 115, 116, 111, 114, 121]) = false := by rw [key, h19]; decide
    have f11 : (s.toList == [100, 101, 101, 112]) = false := by rw [key, h19]; decide
    have f12 : (s.toList == [101, 110, 116, 114, 121]) = false := by rw [key, h19]; decide
    have f13 : (s.toList == [101, 120, 105, 116]) = false := by rw [key, h19]; decide
    have f14 : (s.toList == [111, 110]) = false := by rw [key, h19]; decide
    have f15 : (s.toList == [97, 117, 116, 111]) = false := by rw [key, h19]; decide
    have f16 : (s.toList == [114, 97, 105, 115, 101]) = false := by rw [key, h19]; decide
    have f17 : (s.toList == [115, 101, 110, 100]) = false := by rw [key, h19]; decide
    have f18 : (s.toList == [97, 114, 109]) = false := by rw [key, h19]; decide
    have f19 : (s.toList == [99, 97, 110, 99, 101, 108]) = true := by rw [key, h19]; decide
    clear key h0 h1 h2 h3 h4 h5 h6 h7 h8 h9 h10 h11 h12 h13 h14 h15 h16 h17 h18 h19
    go_enter Tryd.func69, Tryd.ntmps69
    go_wp2_with fail
    go_ret
    exact ⟨rfl, rfl⟩
  by_cases h20 : bs s = [105, 102]
  · rw [h20, show reserved [105, 102] = true by decide]
    have f0 : (s.toList == [115, 121, 115, 116, 101, 109]) = false := by rw [key, h20]; decide
    have f1 : (s.toList == [97, 103, 101]) = false := by rw [key, h20]; decide
    have f2 : (s.toList == [99, 104, 97, 114, 116]) = false := by rw [key, h20]; decide
    have f3 : (s.toList == [115, 116, 101, 112, 115]) = false := by rw [key, h20]; decide
    have f4 : (s.toList == [102, 117, 101, 108]) = false := by rw [key, h20]; decide
    have f5 : (s.toList == [118, 97, 114]) = false := by rw [key, h20]; decide
    have f6 : (s.toList == [112, 111, 114, 116]) = false := by rw [key, h20]; decide
    have f7 : (s.toList == [116, 105, 109, 101, 114]) = false := by rw [key, h20]; decide
    have f8 : (s.toList == [115, 116, 97, 116, 101]) = false := by rw [key, h20]; decide
    have f9 : (s.toList == [112, 97, 114, 97, 108, 108, 101, 108]) = false := by rw [key, h20]; decide
    have f10 : (s.toList == [104, 105, 115, 116, 111, 114, 121]) = false := by rw [key, h20]; decide
    have f11 : (s.toList == [100, 101, 101, 112]) = false := by rw [key, h20]; decide
    have f12 : (s.toList == [101, 110, 116, 114, 121]) = false := by rw [key, h20]; decide
    have f13 : (s.toList == [101, 120, 105, 116]) = false := by rw [key, h20]; decide
    have f14 : (s.toList == [111, 110]) = false := by rw [key, h20]; decide
    have f15 : (s.toList == [97, 117, 116, 111]) = false := by rw [key, h20]; decide
    have f16 : (s.toList == [114, 97, 105, 115, 101]) = false := by rw [key, h20]; decide
    have f17 : (s.toList == [115, 101, 110, 100]) = false := by rw [key, h20]; decide
    have f18 : (s.toList == [97, 114, 109]) = false := by rw [key, h20]; decide
    have f19 : (s.toList == [99, 97, 110, 99, 101, 108]) = false := by rw [key, h20]; decide
    have f20 : (s.toList == [105, 102]) = true := by rw [key, h20]; decide
    clear key h0 h1 h2 h3 h4 h5 h6 h7 h8 h9 h10 h11 h12 h13 h14 h15 h16 h17 h18 h19 h20
    go_enter Tryd.func69, Tryd.ntmps69
    go_wp2_with fail
    go_ret
    exact ⟨rfl, rfl⟩
  by_cases h21 : bs s = [101, 108, 115, 101]
  · rw [h21, show reserved [101, 108, 115, 101] = true by decide]
    have f0 : (s.toList == [115, 121, 115, 116, 101, 109]) = false := by rw [key, h21]; decide
    have f1 : (s.toList == [97, 103, 101]) = false := by rw [key, h21]; decide
    have f2 : (s.toList == [99, 104, 97, 114, 116]) = false := by rw [key, h21]; decide
    have f3 : (s.toList == [115, 116, 101, 112, 115]) = false := by rw [key, h21]; decide
    have f4 : (s.toList == [102, 117, 101, 108]) = false := by rw [key, h21]; decide
    have f5 : (s.toList == [118, 97, 114]) = false := by rw [key, h21]; decide
    have f6 : (s.toList == [112, 111, 114, 116]) = false := by rw [key, h21]; decide
    have f7 : (s.toList == [116, 105, 109, 101, 114]) = false := by rw [key, h21]; decide
    have f8 : (s.toList == [115, 116, 97, 116, 101]) = false := by rw [key, h21]; decide
    have f9 : (s.toList == [112, 97, 114, 97, 108, 108, 101, 108]) = false := by rw [key, h21]; decide
    have f10 : (s.toList == [104, 105, 115, 116, 111, 114, 121]) = false := by rw [key, h21]; decide
    have f11 : (s.toList == [100, 101, 101, 112]) = false := by rw [key, h21]; decide
    have f12 : (s.toList == [101, 110, 116, 114, 121]) = false := by rw [key, h21]; decide
    have f13 : (s.toList == [101, 120, 105, 116]) = false := by rw [key, h21]; decide
    have f14 : (s.toList == [111, 110]) = false := by rw [key, h21]; decide
    have f15 : (s.toList == [97, 117, 116, 111]) = false := by rw [key, h21]; decide
    have f16 : (s.toList == [114, 97, 105, 115, 101]) = false := by rw [key, h21]; decide
    have f17 : (s.toList == [115, 101, 110, 100]) = false := by rw [key, h21]; decide
    have f18 : (s.toList == [97, 114, 109]) = false := by rw [key, h21]; decide
    have f19 : (s.toList == [99, 97, 110, 99, 101, 108]) = false := by rw [key, h21]; decide
    have f20 : (s.toList == [105, 102]) = false := by rw [key, h21]; decide
    have f21 : (s.toList == [101, 108, 115, 101]) = true := by rw [key, h21]; decide
    clear key h0 h1 h2 h3 h4 h5 h6 h7 h8 h9 h10 h11 h12 h13 h14 h15 h16 h17 h18 h19 h20 h21
    go_enter Tryd.func69, Tryd.ntmps69
    go_wp2_with fail
    go_ret
    exact ⟨rfl, rfl⟩
  by_cases h22 : bs s = [108, 111, 111, 112]
  · rw [h22, show reserved [108, 111, 111, 112] = true by decide]
    have f0 : (s.toList == [115, 121, 115, 116, 101, 109]) = false := by rw [key, h22]; decide
    have f1 : (s.toList == [97, 103, 101]) = false := by rw [key, h22]; decide
    have f2 : (s.toList == [99, 104, 97, 114, 116]) = false := by rw [key, h22]; decide
    have f3 : (s.toList == [115, 116, 101, 112, 115]) = false := by rw [key, h22]; decide
    have f4 : (s.toList == [102, 117, 101, 108]) = false := by rw [key, h22]; decide
    have f5 : (s.toList == [118, 97, 114]) = false := by rw [key, h22]; decide
    have f6 : (s.toList == [112, 111, 114, 116]) = false := by rw [key, h22]; decide
    have f7 : (s.toList == [116, 105, 109, 101, 114]) = false := by rw [key, h22]; decide
    have f8 : (s.toList == [115, 116, 97, 116, 101]) = false := by rw [key, h22]; decide
    have f9 : (s.toList == [112, 97, 114, 97, 108, 108, 101, 108]) = false := by rw [key, h22]; decide
    have f10 : (s.toList == [104, 105, 115, 116, 111, 114, 121]) = false := by rw [key, h22]; decide
    have f11 : (s.toList == [100, 101, 101, 112]) = false := by rw [key, h22]; decide
    have f12 : (s.toList == [101, 110, 116, 114, 121]) = false := by rw [key, h22]; decide
    have f13 : (s.toList == [101, 120, 105, 116]) = false := by rw [key, h22]; decide
    have f14 : (s.toList == [111, 110]) = false := by rw [key, h22]; decide
    have f15 : (s.toList == [97, 117, 116, 111]) = false := by rw [key, h22]; decide
    have f16 : (s.toList == [114, 97, 105, 115, 101]) = false := by rw [key, h22]; decide
    have f17 : (s.toList == [115, 101, 110, 100]) = false := by rw [key, h22]; decide
    have f18 : (s.toList == [97, 114, 109]) = false := by rw [key, h22]; decide
    have f19 : (s.toList == [99, 97, 110, 99, 101, 108]) = false := by rw [key, h22]; decide
    have f20 : (s.toList == [105, 102]) = false := by rw [key, h22]; decide
    have f21 : (s.toList == [101, 108, 115, 101]) = false := by rw [key, h22]; decide
    have f22 : (s.toList == [108, 111, 111, 112]) = true := by rw [key, h22]; decide
    clear key h0 h1 h2 h3 h4 h5 h6 h7 h8 h9 h10 h11 h12 h13 h14 h15 h16 h17 h18 h19 h20 h21 h22
    go_enter Tryd.func69, Tryd.ntmps69
    go_wp2_with fail
    go_ret
    exact ⟨rfl, rfl⟩
  by_cases h23 : bs s = [105, 110]
  · rw [h23, show reserved [105, 110] = true by decide]
    have f0 : (s.toList == [115, 121, 115, 116, 101, 109]) = false := by rw [key, h23]; decide
    have f1 : (s.toList == [97, 103, 101]) = false := by rw [key, h23]; decide
    have f2 : (s.toList == [99, 104, 97, 114, 116]) = false := by rw [key, h23]; decide
    have f3 : (s.toList == [115, 116, 101, 112, 115]) = false := by rw [key, h23]; decide
    have f4 : (s.toList == [102, 117, 101, 108]) = false := by rw [key, h23]; decide
    have f5 : (s.toList == [118, 97, 114]) = false := by rw [key, h23]; decide
    have f6 : (s.toList == [112, 111, 114, 116]) = false := by rw [key, h23]; decide
    have f7 : (s.toList == [116, 105, 109, 101, 114]) = false := by rw [key, h23]; decide
    have f8 : (s.toList == [115, 116, 97, 116, 101]) = false := by rw [key, h23]; decide
    have f9 : (s.toList == [112, 97, 114, 97, 108, 108, 101, 108]) = false := by rw [key, h23]; decide
    have f10 : (s.toList == [104, 105, 115, 116, 111, 114, 121]) = false := by rw [key, h23]; decide
    have f11 : (s.toList == [100, 101, 101, 112]) = false := by rw [key, h23]; decide
    have f12 : (s.toList == [101, 110, 116, 114, 121]) = false := by rw [key, h23]; decide
    have f13 : (s.toList == [101, 120, 105, 116]) = false := by rw [key, h23]; decide
    have f14 : (s.toList == [111, 110]) = false := by rw [key, h23]; decide
    have f15 : (s.toList == [97, 117, 116, 111]) = false := by rw [key, h23]; decide
    have f16 : (s.toList == [114, 97, 105, 115, 101]) = false := by rw [key, h23]; decide
    have f17 : (s.toList == [115, 101, 110, 100]) = false := by rw [key, h23]; decide
    have f18 : (s.toList == [97, 114, 109]) = false := by rw [key, h23]; decide
    have f19 : (s.toList == [99, 97, 110, 99, 101, 108]) = false := by rw [key, h23]; decide
    have f20 : (s.toList == [105, 102]) = false := by rw [key, h23]; decide
    have f21 : (s.toList == [101, 108, 115, 101]) = false := by rw [key, h23]; decide
    have f22 : (s.toList == [108, 111, 111, 112]) = false := by rw [key, h23]; decide
    have f23 : (s.toList == [105, 110]) = true := by rw [key, h23]; decide
    clear key h0 h1 h2 h3 h4 h5 h6 h7 h8 h9 h10 h11 h12 h13 h14 h15 h16 h17 h18 h19 h20 h21 h22 h23
    go_enter Tryd.func69, Tryd.ntmps69
    go_wp2_with fail
    go_ret
    exact ⟨rfl, rfl⟩
  by_cases h24 : bs s = [105, 110, 115, 116]
  · rw [h24, show reserved [105, 110, 115, 116] = true by decide]
    have f0 : (s.toList == [115, 121, 115, 116, 101, 109]) = false := by rw [key, h24]; decide
    have f1 : (s.toList == [97, 103, 101]) = false := by rw [key, h24]; decide
    have f2 : (s.toList == [99, 104, 97, 114, 116]) = false := by rw [key, h24]; decide
    have f3 : (s.toList == [115, 116, 101, 112, 115]) = false := by rw [key, h24]; decide
    have f4 : (s.toList == [102, 117, 101, 108]) = false := by rw [key, h24]; decide
    have f5 : (s.toList == [118, 97, 114]) = false := by rw [key, h24]; decide
    have f6 : (s.toList == [112, 111, 114, 116]) = false := by rw [key, h24]; decide
    have f7 : (s.toList == [116, 105, 109, 101, 114]) = false := by rw [key, h24]; decide
    have f8 : (s.toList == [115, 116, 97, 116, 101]) = false := by rw [key, h24]; decide
    have f9 : (s.toList == [112, 97, 114, 97, 108, 108, 101, 108]) = false := by rw [key, h24]; decide
    have f10 : (s.toList == [104, 105, 115, 116, 111, 114, 121]) = false := by rw [key, h24]; decide
    have f11 : (s.toList == [100, 101, 101, 112]) = false := by rw [key, h24]; decide
    have f12 : (s.toList == [101, 110, 116, 114, 121]) = false := by rw [key, h24]; decide
    have f13 : (s.toList == [101, 120, 105, 116]) = false := by rw [key, h24]; decide
    have f14 : (s.toList == [111, 110]) = false := by rw [key, h24]; decide
    have f15 : (s.toList == [97, 117, 116, 111]) = false := by rw [key, h24]; decide
    have f16 : (s.toList == [114, 97, 105, 115, 101]) = false := by rw [key, h24]; decide
    have f17 : (s.toList == [115, 101, 110, 100]) = false := by rw [key, h24]; decide
    have f18 : (s.toList == [97, 114, 109]) = false := by rw [key, h24]; decide
    have f19 : (s.toList == [99, 97, 110, 99, 101, 108]) = false := by rw [key, h24]; decide
    have f20 : (s.toList == [105, 102]) = false := by rw [key, h24]; decide
    have f21 : (s.toList == [101, 108, 115, 101]) = false := by rw [key, h24]; decide
    have f22 : (s.toList == [108, 111, 111, 112]) = false := by rw [key, h24]; decide
    have f23 : (s.toList == [105, 110]) = false := by rw [key, h24]; decide
    have f24 : (s.toList == [105, 110, 115, 116]) = true := by rw [key, h24]; decide
    clear key h0 h1 h2 h3 h4 h5 h6 h7 h8 h9 h10 h11 h12 h13 h14 h15 h16 h17 h18 h19 h20 h21 h22 h23 h24
    go_enter Tryd.func69, Tryd.ntmps69
    go_wp2_with fail
    go_ret
    exact ⟨rfl, rfl⟩
  by_cases h25 : bs s = [113, 117, 97, 110, 116, 117, 109]
  · rw [h25, show reserved [113, 117, 97, 110, 116, 117, 109] = true by decide]
    have f0 : (s.toList == [115, 121, 115, 116, 101, 109]) = false := by rw [key, h25]; decide
    have f1 : (s.toList == [97, 103, 101]) = false := by rw [key, h25]; decide
    have f2 : (s.toList == [99, 104, 97, 114, 116]) = false := by rw [key, h25]; decide
    have f3 : (s.toList == [115, 116, 101, 112, 115]) = false := by rw [key, h25]; decide
    have f4 : (s.toList == [102, 117, 101, 108]) = false := by rw [key, h25]; decide
    have f5 : (s.toList == [118, 97, 114]) = false := by rw [key, h25]; decide
    have f6 : (s.toList == [112, 111, 114, 116]) = false := by rw [key, h25]; decide
    have f7 : (s.toList == [116, 105, 109, 101, 114]) = false := by rw [key, h25]; decide
    have f8 : (s.toList == [115, 116, 97, 116, 101]) = false := by rw [key, h25]; decide
    have f9 : (s.toList == [112, 97, 114, 97, 108, 108, 101, 108]) = false := by rw [key, h25]; decide
    have f10 : (s.toList == [104, 105, 115, 116, 111, 114, 121]) = false := by rw [key, h25]; decide
    have f11 : (s.toList == [100, 101, 101, 112]) = false := by rw [key, h25]; decide
    have f12 : (s.toList == [101, 110, 116, 114, 121]) = false := by rw [key, h25]; decide
    have f13 : (s.toList == [101, 120, 105, 116]) = false := by rw [key, h25]; decide
    have f14 : (s.toList == [111, 110]) = false := by rw [key, h25]; decide
    have f15 : (s.toList == [97, 117, 116, 111]) = false := by rw [key, h25]; decide
    have f16 : (s.toList == [114, 97, 105, 115, 101]) = false := by rw [key, h25]; decide
    have f17 : (s.toList == [115, 101, 110, 100]) = false := by rw [key, h25]; decide
    have f18 : (s.toList == [97, 114, 109]) = false := by rw [key, h25]; decide
    have f19 : (s.toList == [99, 97, 110, 99, 101, 108]) = false := by rw [key, h25]; decide
    have f20 : (s.toList == [105, 102]) = false := by rw [key, h25]; decide
    have f21 : (s.toList == [101, 108, 115, 101]) = false := by rw [key, h25]; decide
    have f22 : (s.toList == [108, 111, 111, 112]) = false := by rw [key, h25]; decide
    have f23 : (s.toList == [105, 110]) = false := by rw [key, h25]; decide
    have f24 : (s.toList == [105, 110, 115, 116]) = false := by rw [key, h25]; decide
    have f25 : (s.toList == [113, 117, 97, 110, 116, 117, 109]) = true := by rw [key, h25]; decide
    clear key h0 h1 h2 h3 h4 h5 h6 h7 h8 h9 h10 h11 h12 h13 h14 h15 h16 h17 h18 h19 h20 h21 h22 h23 h24 h25
    go_enter Tryd.func69, Tryd.ntmps69
    go_wp2_with fail
    go_ret
    exact ⟨rfl, rfl⟩
  by_cases h26 : bs s = [101, 120, 116]
  · rw [h26, show reserved [101, 120, 116] = true by decide]
    have f0 : (s.toList == [115, 121, 115, 116, 101, 109]) = false := by rw [key, h26]; decide
    have f1 : (s.toList == [97, 103, 101]) = false := by rw [key, h26]; decide
    have f2 : (s.toList == [99, 104, 97, 114, 116]) = false := by rw [key, h26]; decide
    have f3 : (s.toList == [115, 116, 101, 112, 115]) = false := by rw [key, h26]; decide
    have f4 : (s.toList == [102, 117, 101, 108]) = false := by rw [key, h26]; decide
    have f5 : (s.toList == [118, 97, 114]) = false := by rw [key, h26]; decide
    have f6 : (s.toList == [112, 111, 114, 116]) = false := by rw [key, h26]; decide
    have f7 : (s.toList == [116, 105, 109, 101, 114]) = false := by rw [key, h26]; decide
    have f8 : (s.toList == [115, 116, 97, 116, 101]) = false := by rw [key, h26]; decide
    have f9 : (s.toList == [112, 97, 114, 97, 108, 108, 101, 108]) = false := by rw [key, h26]; decide
    have f10 : (s.toList == [104, 105, 115, 116, 111, 114, 121]) = false := by rw [key, h26]; decide
    have f11 : (s.toList == [100, 101, 101, 112]) = false := by rw [key, h26]; decide
    have f12 : (s.toList == [101, 110, 116, 114, 121]) = false := by rw [key, h26]; decide
    have f13 : (s.toList == [101, 120, 105, 116]) = false := by rw [key, h26]; decide
    have f14 : (s.toList == [111, 110]) = false := by rw [key, h26]; decide
    have f15 : (s.toList == [97, 117, 116, 111]) = false := by rw [key, h26]; decide
    have f16 : (s.toList == [114, 97, 105, 115, 101]) = false := by rw [key, h26]; decide
    have f17 : (s.toList == [115, 101, 110, 100]) = false := by rw [key, h26]; decide
    have f18 : (s.toList == [97, 114, 109]) = false := by rw [key, h26]; decide
    have f19 : (s.toList == [99, 97, 110, 99, 101, 108]) = false := by rw [key, h26]; decide
    have f20 : (s.toList == [105, 102]) = false := by rw [key, h26]; decide
    have f21 : (s.toList == [101, 108, 115, 101]) = false := by rw [key, h26]; decide
    have f22 : (s.toList == [108, 111, 111, 112]) = false := by rw [key, h26]; decide
    have f23 : (s.toList == [105, 110]) = false := by rw [key, h26]; decide
    have f24 : (s.toList == [105, 110, 115, 116]) = false := by rw [key, h26]; decide
    have f25 : (s.toList == [113, 117, 97, 110, 116, 117, 109]) = false := by rw [key, h26]; decide
    have f26 : (s.toList == [101, 120, 116]) = true := by rw [key, h26]; decide
    clear key h0 h1 h2 h3 h4 h5 h6 h7 h8 h9 h10 h11 h12 h13 h14 h15 h16 h17 h18 h19 h20 h21 h22 h23 h24 h25 h26
    go_enter Tryd.func69, Tryd.ntmps69
    go_wp2_with fail
    go_ret
    exact ⟨rfl, rfl⟩
  by_cases h27 : bs s = [112, 114, 105, 111]
  · rw [h27, show reserved [112, 114, 105, 111] = true by decide]
    have f0 : (s.toList == [115, 121, 115, 116, 101, 109]) = false := by rw [key, h27]; decide
    have f1 : (s.toList == [97, 103, 101]) = false := by rw [key, h27]; decide
    have f2 : (s.toList == [99, 104, 97, 114, 116]) = false := by rw [key, h27]; decide
    have f3 : (s.toList == [115, 116, 101, 112, 115]) = false := by rw [key, h27]; decide
    have f4 : (s.toList == [102, 117, 101, 108]) = false := by rw [key, h27]; decide
    have f5 : (s.toList == [118, 97, 114]) = false := by rw [key, h27]; decide
    have f6 : (s.toList == [112, 111, 114, 116]) = false := by rw [key, h27]; decide
    have f7 : (s.toList == [116, 105, 109, 101, 114]) = false := by rw [key, h27]; decide
    have f8 : (s.toList == [115, 116, 97, 116, 101]) = false := by rw [key, h27]; decide
    have f9 : (s.toList == [112, 97, 114, 97, 108, 108, 101, 108]) = false := by rw [key, h27]; decide
    have f10 : (s.toList == [104, 105, 115, 116, 111, 114, 121]) = false := by rw [key, h27]; decide
    have f11 : (s.toList == [100, 101, 101, 112]) = false := by rw [key, h27]; decide
    have f12 : (s.toList == [101, 110, 116, 114, 121]) = false := by rw [key, h27]; decide
    have f13 : (s.toList == [101, 120, 105, 116]) = false := by rw [key, h27]; decide
    have f14 : (s.toList == [111, 110]) = false := by rw [key, h27]; decide
    have f15 : (s.toList == [97, 117, 116, 111]) = false := by rw [key, h27]; decide
    have f16 : (s.toList == [114, 97, 105, 115, 101]) = false := by rw [key, h27]; decide
    have f17 : (s.toList == [115, 101, 110, 100]) = false := by rw [key, h27]; decide
    have f18 : (s.toList == [97, 114, 109]) = false := by rw [key, h27]; decide
    have f19 : (s.toList == [99, 97, 110, 99, 101, 108]) = false := by rw [key, h27]; decide
    have f20 : (s.toList == [105, 102]) = false := by rw [key, h27]; decide
    have f21 : (s.toList == [101, 108, 115, 101]) = false := by rw [key, h27]; decide
    have f22 : (s.toList == [108, 111, 111, 112]) = false := by rw [key, h27]; decide
    have f23 : (s.toList == [105, 110]) = false := by rw [key, h27]; decide
    have f24 : (s.toList == [105, 110, 115, 116]) = false := by rw [key, h27]; decide
    have f25 : (s.toList == [113, 117, 97, 110, 116, 117, 109]) = false := by rw [key, h27]; decide
    have f26 : (s.toList == [101, 120, 116]) = false := by rw [key, h27]; decide
    have f27 : (s.toList == [112, 114, 105, 111]) = true := by rw [key, h27]; decide
    clear key h0 h1 h2 h3 h4 h5 h6 h7 h8 h9 h10 h11 h12 h13 h14 h15 h16 h17 h18 h19 h20 h21 h22 h23 h24 h25 h26 h27
    go_enter Tryd.func69, Tryd.ntmps69
    go_wp2_with fail
    go_ret
    exact ⟨rfl, rfl⟩
  by_cases h28 : bs s = [99, 104, 97, 110]
  · rw [h28, show reserved [99, 104, 97, 110] = true by decide]
    have f0 : (s.toList == [115, 121, 115, 116, 101, 109]) = false := by rw [key, h28]; decide
    have f1 : (s.toList == [97, 103, 101]) = false := by rw [key, h28]; decide
    have f2 : (s.toList == [99, 104, 97, 114, 116]) = false := by rw [key, h28]; decide
    have f3 : (s.toList == [115, 116, 101, 112, 115]) = false := by rw [key, h28]; decide
    have f4 : (s.toList == [102, 117, 101, 108]) = false := by rw [key, h28]; decide
    have f5 : (s.toList == [118, 97, 114]) = false := by rw [key, h28]; decide
    have f6 : (s.toList == [112, 111, 114, 116]) = false := by rw [key, h28]; decide
    have f7 : (s.toList == [116, 105, 109, 101, 114]) = false := by rw [key, h28]; decide
    have f8 : (s.toList == [115, 116, 97, 116, 101]) = false := by rw [key, h28]; decide
    have f9 : (s.toList == [112, 97, 114, 97, 108, 108, 101, 108]) = false := by rw [key, h28]; decide
    have f10 : (s.toList == [104, 105, 115, 116, 111, 114, 121]) = false := by rw [key, h28]; decide
    have f11 : (s.toList == [100, 101, 101, 112]) = false := by rw [key, h28]; decide
    have f12 : (s.toList == [101, 110, 116, 114, 121]) = false := by rw [key, h28]; decide
    have f13 : (s.toList == [101, 120, 105, 116]) = false := by rw [key, h28]; decide
    have f14 : (s.toList == [111, 110]) = false := by rw [key, h28]; decide
    have f15 : (s.toList == [97, 117, 116, 111]) = false := by rw [key, h28]; decide
    have f16 : (s.toList == [114, 97, 105, 115, 101]) = false := by rw [key, h28]; decide
    have f17 : (s.toList == [115, 101, 110, 100]) = false := by rw [key, h28]; decide
    have f18 : (s.toList == [97, 114, 109]) = false := by rw [key, h28]; decide
    have f19 : (s.toList == [99, 97, 110, 99, 101, 108]) = false := by rw [key, h28]; decide
    have f20 : (s.toList == [105, 102]) = false := by rw [key, h28]; decide
    have f21 : (s.toList == [101, 108, 115, 101]) = false := by rw [key, h28]; decide
    have f22 : (s.toList == [108, 111, 111, 112]) = false := by rw [key, h28]; decide
    have f23 : (s.toList == [105, 110]) = false := by rw [key, h28]; decide
    have f24 : (s.toList == [105, 110, 115, 116]) = false := by rw [key, h28]; decide
    have f25 : (s.toList == [113, 117, 97, 110, 116, 117, 109]) = false := by rw [key, h28]; decide
    have f26 : (s.toList == [101, 120, 116]) = false := by rw [key, h28]; decide
    have f27 : (s.toList == [112, 114, 105, 111]) = false := by rw [key, h28]; decide
    have f28 : (s.toList == [99, 104, 97, 110]) = true := by rw [key, h28]; decide
    clear key h0 h1 h2 h3 h4 h5 h6 h7 h8 h9 h10 h11 h12 h13 h14 h15 h16 h17 h18 h19 h20 h21 h22 h23 h24 h25 h26 h27 h28
    go_enter Tryd.func69, Tryd.ntmps69
    go_wp2_with fail
    go_ret
    exact ⟨rfl, rfl⟩
  by_cases h29 : bs s = [99, 97, 112]
  · rw [h29, show reserved [99, 97, 112] = true by decide]
    have f0 : (s.toList == [115, 121, 115, 116, 101, 109]) = false := by rw [key, h29]; decide
    have f1 : (s.toList == [97, 103, 101]) = false := by rw [key, h29]; decide
    have f2 : (s.toList == [99, 104, 97, 114, 116]) = false := by rw [key, h29]; decide
    have f3 : (s.toList == [115, 116, 101, 112, 115]) = false := by rw [key, h29]; decide
    have f4 : (s.toList == [102, 117, 101, 108]) = false := by rw [key, h29]; decide
    have f5 : (s.toList == [118, 97, 114]) = false := by rw [key, h29]; decide
    have f6 : (s.toList == [112, 111, 114, 116]) = false := by rw [key, h29]; decide
    have f7 : (s.toList == [116, 105, 109, 101, 114]) = false := by rw [key, h29]; decide
    have f8 : (s.toList == [115, 116, 97, 116, 101]) = false := by rw [key, h29]; decide
    have f9 : (s.toList == [112, 97, 114, 97, 108, 108, 101, 108]) = false := by rw [key, h29]; decide
    have f10 : (s.toList == [104, 105, 115, 116, 111, 114, 121]) = false := by rw [key, h29]; decide
    have f11 : (s.toList == [100, 101, 101, 112]) = false := by rw [key, h29]; decide
    have f12 : (s.toList == [101, 110, 116, 114, 121]) = false := by rw [key, h29]; decide
    have f13 : (s.toList == [101, 120, 105, 116]) = false := by rw [key, h29]; decide
    have f14 : (s.toList == [111, 110]) = false := by rw [key, h29]; decide
    have f15 : (s.toList == [97, 117, 116, 111]) = false := by rw [key, h29]; decide
    have f16 : (s.toList == [114, 97, 105, 115, 101]) = false := by rw [key, h29]; decide
    have f17 : (s.toList == [115, 101, 110, 100]) = false := by rw [key, h29]; decide
    have f18 : (s.toList == [97, 114, 109]) = false := by rw [key, h29]; decide
    have f19 : (s.toList == [99, 97, 110, 99, 101, 108]) = false := by rw [key, h29]; decide
    have f20 : (s.toList == [105, 102]) = false := by rw [key, h29]; decide
    have f21 : (s.toList == [101, 108, 115, 101]) = false := by rw [key, h29]; decide
    have f22 : (s.toList == [108, 111, 111, 112]) = false := by rw [key, h29]; decide
    have f23 : (s.toList == [105, 110]) = false := by rw [key, h29]; decide
    have f24 : (s.toList == [105, 110, 115, 116]) = false := by rw [key, h29]; decide
    have f25 : (s.toList == [113, 117, 97, 110, 116, 117, 109]) = false := by rw [key, h29]; decide
    have f26 : (s.toList == [101, 120, 116]) = false := by rw [key, h29]; decide
    have f27 : (s.toList == [112, 114, 105, 111]) = false := by rw [key, h29]; decide
    have f28 : (s.toList == [99, 104, 97, 110]) = false := by rw [key, h29]; decide
    have f29 : (s.toList == [99, 97, 112]) = true := by rw [key, h29]; decide
    clear key h0 h1 h2 h3 h4 h5 h6 h7 h8 h9 h10 h11 h12 h13 h14 h15 h16 h17 h18 h19 h20 h21 h22 h23 h24 h25 h26 h27 h28 h29
    go_enter Tryd.func69, Tryd.ntmps69
    go_wp2_with fail
    go_ret
    exact ⟨rfl, rfl⟩
  by_cases h30 : bs s = [99, 101, 114, 116]
  · rw [h30, show reserved [99, 101, 114, 116] = true by decide]
    have f0 : (s.toList == [115, 121, 115, 116, 101, 109]) = false := by rw [key, h30]; decide
    have f1 : (s.toList == [97, 103, 101]) = false := by rw [key, h30]; decide
    have f2 : (s.toList == [99, 104, 97, 114, 116]) = false := by rw [key, h30]; decide
    have f3 : (s.toList == [115, 116, 101, 112, 115]) = false := by rw [key, h30]; decide
    have f4 : (s.toList == [102, 117, 101, 108]) = false := by rw [key, h30]; decide
    have f5 : (s.toList == [118, 97, 114]) = false := by rw [key, h30]; decide
    have f6 : (s.toList == [112, 111, 114, 116]) = false := by rw [key, h30]; decide
    have f7 : (s.toList == [116, 105, 109, 101, 114]) = false := by rw [key, h30]; decide
    have f8 : (s.toList == [115, 116, 97, 116, 101]) = false := by rw [key, h30]; decide
    have f9 : (s.toList == [112, 97, 114, 97, 108, 108, 101, 108]) = false := by rw [key, h30]; decide
    have f10 : (s.toList == [104, 105, 115, 116, 111, 114, 121]) = false := by rw [key, h30]; decide
    have f11 : (s.toList == [100, 101, 101, 112]) = false := by rw [key, h30]; decide
    have f12 : (s.toList == [101, 110, 116, 114, 121]) = false := by rw [key, h30]; decide
    have f13 : (s.toList == [101, 120, 105, 116]) = false := by rw [key, h30]; decide
    have f14 : (s.toList == [111, 110]) = false := by rw [key, h30]; decide
    have f15 : (s.toList == [97, 117, 116, 111]) = false := by rw [key, h30]; decide
    have f16 : (s.toList == [114, 97, 105, 115, 101]) = false := by rw [key, h30]; decide
    have f17 : (s.toList == [115, 101, 110, 100]) = false := by rw [key, h30]; decide
    have f18 : (s.toList == [97, 114, 109]) = false := by rw [key, h30]; decide
    have f19 : (s.toList == [99, 97, 110, 99, 101, 108]) = false := by rw [key, h30]; decide
    have f20 : (s.toList == [105, 102]) = false := by rw [key, h30]; decide
    have f21 : (s.toList == [101, 108, 115, 101]) = false := by rw [key, h30]; decide
    have f22 : (s.toList == [108, 111, 111, 112]) = false := by rw [key, h30]; decide
    have f23 : (s.toList == [105, 110]) = false := by rw [key, h30]; decide
    have f24 : (s.toList == [105, 110, 115, 116]) = false := by rw [key, h30]; decide
    have f25 : (s.toList == [113, 117, 97, 110, 116, 117, 109]) = false := by rw [key, h30]; decide
    have f26 : (s.toList == [101, 120, 116]) = false := by rw [key, h30]; decide
    have f27 : (s.toList == [112, 114, 105, 111]) = false := by rw [key, h30]; decide
    have f28 : (s.toList == [99, 104, 97, 110]) = false := by rw [key, h30]; decide
    have f29 : (s.toList == [99, 97, 112]) = false := by rw [key, h30]; decide
    have f30 : (s.toList == [99, 101, 114, 116]) = true := by rw [key, h30]; decide
    clear key h0 h1 h2 h3 h4 h5 h6 h7 h8 h9 h10 h11 h12 h13 h14 h15 h16 h17 h18 h19 h20 h21 h22 h23 h24 h25 h26 h27 h28 h29 h30
    go_enter Tryd.func69, Tryd.ntmps69
    go_wp2_with fail
    go_ret
    exact ⟨rfl, rfl⟩
  by_cases h31 : bs s = [105, 110, 115, 116, 115]
  · rw [h31, show reserved [105, 110, 115, 116, 115] = true by decide]
    have f0 : (s.toList == [115, 121, 115, 116, 101, 109]) = false := by rw [key, h31]; decide
    have f1 : (s.toList == [97, 103, 101]) = false := by rw [key, h31]; decide
    have f2 : (s.toList == [99, 104, 97, 114, 116]) = false := by rw [key, h31]; decide
    have f3 : (s.toList == [115, 116, 101, 112, 115]) = false := by rw [key, h31]; decide
    have f4 : (s.toList == [102, 117, 101, 108]) = false := by rw [key, h31]; decide
    have f5 : (s.toList == [118, 97, 114]) = false := by rw [key, h31]; decide
    have f6 : (s.toList == [112, 111, 114, 116]) = false := by rw [key, h31]; decide
    have f7 : (s.toList == [116, 105, 109, 101, 114]) = false := by rw [key, h31]; decide
    have f8 : (s.toList == [115, 116, 97, 116, 101]) = false := by rw [key, h31]; decide
    have f9 : (s.toList == [112, 97, 114, 97, 108, 108, 101, 108]) = false := by rw [key, h31]; decide
    have f10 : (s.toList == [104, 105, 115, 116, 111, 114, 121]) = false := by rw [key, h31]; decide
    have f11 : (s.toList == [100, 101, 101, 112]) = false := by rw [key, h31]; decide
    have f12 : (s.toList == [101, 110, 116, 114, 121]) = false := by rw [key, h31]; decide
    have f13 : (s.toList == [101, 120, 105, 116]) = false := by rw [key, h31]; decide
    have f14 : (s.toList == [111, 110]) = false := by rw [key, h31]; decide
    have f15 : (s.toList == [97, 117, 116, 111]) = false := by rw [key, h31]; decide
    have f16 : (s.toList == [114, 97, 105, 115, 101]) = false := by rw [key, h31]; decide
    have f17 : (s.toList == [115, 101, 110, 100]) = false := by rw [key, h31]; decide
    have f18 : (s.toList == [97, 114, 109]) = false := by rw [key, h31]; decide
    have f19 : (s.toList == [99, 97, 110, 99, 101, 108]) = false := by rw [key, h31]; decide
    have f20 : (s.toList == [105, 102]) = false := by rw [key, h31]; decide
    have f21 : (s.toList == [101, 108, 115, 101]) = false := by rw [key, h31]; decide
    have f22 : (s.toList == [108, 111, 111, 112]) = false := by rw [key, h31]; decide
    have f23 : (s.toList == [105, 110]) = false := by rw [key, h31]; decide
    have f24 : (s.toList == [105, 110, 115, 116]) = false := by rw [key, h31]; decide
    have f25 : (s.toList == [113, 117, 97, 110, 116, 117, 109]) = false := by rw [key, h31]; decide
    have f26 : (s.toList == [101, 120, 116]) = false := by rw [key, h31]; decide
    have f27 : (s.toList == [112, 114, 105, 111]) = false := by rw [key, h31]; decide
    have f28 : (s.toList == [99, 104, 97, 110]) = false := by rw [key, h31]; decide
    have f29 : (s.toList == [99, 97, 112]) = false := by rw [key, h31]; decide
    have f30 : (s.toList == [99, 101, 114, 116]) = false := by rw [key, h31]; decide
    have f31 : (s.toList == [105, 110, 115, 116, 115]) = true := by rw [key, h31]; decide
    clear key h0 h1 h2 h3 h4 h5 h6 h7 h8 h9 h10 h11 h12 h13 h14 h15 h16 h17 h18 h19 h20 h21 h22 h23 h24 h25 h26 h27 h28 h29 h30 h31
    go_enter Tryd.func69, Tryd.ntmps69
    go_wp2_with fail
    go_ret
    exact ⟨rfl, rfl⟩
  by_cases h32 : bs s = [99, 104, 97, 110, 115]
  · rw [h32, show reserved [99, 104, 97, 110, 115] = true by decide]
    have f0 : (s.toList == [115, 121, 115, 116, 101, 109]) = false := by rw [key, h32]; decide
    have f1 : (s.toList == [97, 103, 101]) = false := by rw [key, h32]; decide
    have f2 : (s.toList == [99, 104, 97, 114, 116]) = false := by rw [key, h32]; decide
    have f3 : (s.toList == [115, 116, 101, 112, 115]) = false := by rw [key, h32]; decide
    have f4 : (s.toList == [102, 117, 101, 108]) = false := by rw [key, h32]; decide
    have f5 : (s.toList == [118, 97, 114]) = false := by rw [key, h32]; decide
    have f6 : (s.toList == [112, 111, 114, 116]) = false := by rw [key, h32]; decide
    have f7 : (s.toList == [116, 105, 109, 101, 114]) = false := by rw [key, h32]; decide
    have f8 : (s.toList == [115, 116, 97, 116, 101]) = false := by rw [key, h32]; decide
    have f9 : (s.toList == [112, 97, 114, 97, 108, 108, 101, 108]) = false := by rw [key, h32]; decide
    have f10 : (s.toList == [104, 105, 115, 116, 111, 114, 121]) = false := by rw [key, h32]; decide
    have f11 : (s.toList == [100, 101, 101, 112]) = false := by rw [key, h32]; decide
    have f12 : (s.toList == [101, 110, 116, 114, 121]) = false := by rw [key, h32]; decide
    have f13 : (s.toList == [101, 120, 105, 116]) = false := by rw [key, h32]; decide
    have f14 : (s.toList == [111, 110]) = false := by rw [key, h32]; decide
    have f15 : (s.toList == [97, 117, 116, 111]) = false := by rw [key, h32]; decide
    have f16 : (s.toList == [114, 97, 105, 115, 101]) = false := by rw [key, h32]; decide
    have f17 : (s.toList == [115, 101, 110, 100]) = false := by rw [key, h32]; decide
    have f18 : (s.toList == [97, 114, 109]) = false := by rw [key, h32]; decide
    have f19 : (s.toList == [99, 97, 110, 99, 101, 108]) = false := by rw [key, h32]; decide
    have f20 : (s.toList == [105, 102]) = false := by rw [key, h32]; decide
    have f21 : (s.toList == [101, 108, 115, 101]) = false := by rw [key, h32]; decide
    have f22 : (s.toList == [108, 111, 111, 112]) = false := by rw [key, h32]; decide
    have f23 : (s.toList == [105, 110]) = false := by rw [key, h32]; decide
    have f24 : (s.toList == [105, 110, 115, 116]) = false := by rw [key, h32]; decide
    have f25 : (s.toList == [113, 117, 97, 110, 116, 117, 109]) = false := by rw [key, h32]; decide
    have f26 : (s.toList == [101, 120, 116]) = false := by rw [key, h32]; decide
    have f27 : (s.toList == [112, 114, 105, 111]) = false := by rw [key, h32]; decide
    have f28 : (s.toList == [99, 104, 97, 110]) = false := by rw [key, h32]; decide
    have f29 : (s.toList == [99, 97, 112]) = false := by rw [key, h32]; decide
    have f30 : (s.toList == [99, 101, 114, 116]) = false := by rw [key, h32]; decide
    have f31 : (s.toList == [105, 110, 115, 116, 115]) = false := by rw [key, h32]; decide
    have f32 : (s.toList == [99, 104, 97, 110, 115]) = true := by rw [key, h32]; decide
    clear key h0 h1 h2 h3 h4 h5 h6 h7 h8 h9 h10 h11 h12 h13 h14 h15 h16 h17 h18 h19 h20 h21 h22 h23 h24 h25 h26 h27 h28 h29 h30 h31 h32
    go_enter Tryd.func69, Tryd.ntmps69
    go_wp2_with fail
    go_ret
    exact ⟨rfl, rfl⟩
  by_cases h33 : bs s = [99, 101, 108, 108]
  · rw [h33, show reserved [99, 101, 108, 108] = true by decide]
    have f0 : (s.toList == [115, 121, 115, 116, 101, 109]) = false := by rw [key, h33]; decide
    have f1 : (s.toList == [97, 103, 101]) = false := by rw [key, h33]; decide
    have f2 : (s.toList == [99, 104, 97, 114, 116]) = false := by rw [key, h33]; decide
    have f3 : (s.toList == [115, 116, 101, 112, 115]) = false := by rw [key, h33]; decide
    have f4 : (s.toList == [102, 117, 101, 108]) = false := by rw [key, h33]; decide
    have f5 : (s.toList == [118, 97, 114]) = false := by rw [key, h33]; decide
    have f6 : (s.toList == [112, 111, 114, 116]) = false := by rw [key, h33]; decide
    have f7 : (s.toList == [116, 105, 109, 101, 114]) = false := by rw [key, h33]; decide
    have f8 : (s.toList == [115, 116, 97, 116, 101]) = false := by rw [key, h33]; decide
    have f9 : (s.toList == [112, 97, 114, 97, 108, 108, 101, 108]) = false := by rw [key, h33]; decide
    have f10 : (s.toList == [104, 105, 115, 116, 111, 114, 121]) = false := by rw [key, h33]; decide
    have f11 : (s.toList == [100, 101, 101, 112]) = false := by rw [key, h33]; decide
    have f12 : (s.toList == [101, 110, 116, 114, 121]) = false := by rw [key, h33]; decide
    have f13 : (s.toList == [101, 120, 105, 116]) = false := by rw [key, h33]; decide
    have f14 : (s.toList == [111, 110]) = false := by rw [key, h33]; decide
    have f15 : (s.toList == [97, 117, 116, 111]) = false := by rw [key, h33]; decide
    have f16 : (s.toList == [114, 97, 105, 115, 101]) = false := by rw [key, h33]; decide
    have f17 : (s.toList == [115, 101, 110, 100]) = false := by rw [key, h33]; decide
    have f18 : (s.toList == [97, 114, 109]) = false := by rw [key, h33]; decide
    have f19 : (s.toList == [99, 97, 110, 99, 101, 108]) = false := by rw [key, h33]; decide
    have f20 : (s.toList == [105, 102]) = false := by rw [key, h33]; decide
    have f21 : (s.toList == [101, 108, 115, 101]) = false := by rw [key, h33]; decide
    have f22 : (s.toList == [108, 111, 111, 112]) = false := by rw [key, h33]; decide
    have f23 : (s.toList == [105, 110]) = false := by rw [key, h33]; decide
    have f24 : (s.toList == [105, 110, 115, 116]) = false := by rw [key, h33]; decide
    have f25 : (s.toList == [113, 117, 97, 110, 116, 117, 109]) = false := by rw [key, h33]; decide
    have f26 : (s.toList == [101, 120, 116]) = false := by rw [key, h33]; decide
    have f27 : (s.toList == [112, 114, 105, 111]) = false := by rw [key, h33]; decide
    have f28 : (s.toList == [99, 104, 97, 110]) = false := by rw [key, h33]; decide
    have f29 : (s.toList == [99, 97, 112]) = false := by rw [key, h33]; decide
    have f30 : (s.toList == [99, 101, 114, 116]) = false := by rw [key, h33]; decide
    have f31 : (s.toList == [105, 110, 115, 116, 115]) = false := by rw [key, h33]; decide
    have f32 : (s.toList == [99, 104, 97, 110, 115]) = false := by rw [key, h33]; decide
    have f33 : (s.toList == [99, 101, 108, 108]) = true := by rw [key, h33]; decide
    clear key h0 h1 h2 h3 h4 h5 h6 h7 h8 h9 h10 h11 h12 h13 h14 h15 h16 h17 h18 h19 h20 h21 h22 h23 h24 h25 h26 h27 h28 h29 h30 h31 h32 h33
    go_enter Tryd.func69, Tryd.ntmps69
    go_wp2_with fail
    go_ret
    exact ⟨rfl, rfl⟩
  by_cases h34 : bs s = [111, 102, 102]
  · rw [h34, show reserved [111, 102, 102] = true by decide]
    have f0 : (s.toList == [115, 121, 115, 116, 101, 109]) = false := by rw [key, h34]; decide
    have f1 : (s.toList == [97, 103, 101]) = false := by rw [key, h34]; decide
    have f2 : (s.toList == [99, 104, 97, 114, 116]) = false := by rw [key, h34]; decide
    have f3 : (s.toList == [115, 116, 101, 112, 115]) = false := by rw [key, h34]; decide
    have f4 : (s.toList == [102, 117, 101, 108]) = false := by rw [key, h34]; decide
    have f5 : (s.toList == [118, 97, 114]) = false := by rw [key, h34]; decide
    have f6 : (s.toList == [112, 111, 114, 116]) = false := by rw [key, h34]; decide
    have f7 : (s.toList == [116, 105, 109, 101, 114]) = false := by rw [key, h34]; decide
    have f8 : (s.toList == [115, 116, 97, 116, 101]) = false := by rw [key, h34]; decide
    have f9 : (s.toList == [112, 97, 114, 97, 108, 108, 101, 108]) = false := by rw [key, h34]; decide
    have f10 : (s.toList == [104, 105, 115, 116, 111, 114, 121]) = false := by rw [key, h34]; decide
    have f11 : (s.toList == [100, 101, 101, 112]) = false := by rw [key, h34]; decide
    have f12 : (s.toList == [101, 110, 116, 114, 121]) = false := by rw [key, h34]; decide
    have f13 : (s.toList == [101, 120, 105, 116]) = false := by rw [key, h34]; decide
    have f14 : (s.toList == [111, 110]) = false := by rw [key, h34]; decide
    have f15 : (s.toList == [97, 117, 116, 111]) = false := by rw [key, h34]; decide
    have f16 : (s.toList == [114, 97, 105, 115, 101]) = false := by rw [key, h34]; decide
    have f17 : (s.toList == [115, 101, 110, 100]) = false := by rw [key, h34]; decide
    have f18 : (s.toList == [97, 114, 109]) = false := by rw [key, h34]; decide
    have f19 : (s.toList == [99, 97, 110, 99, 101, 108]) = false := by rw [key, h34]; decide
    have f20 : (s.toList == [105, 102]) = false := by rw [key, h34]; decide
    have f21 : (s.toList == [101, 108, 115, 101]) = false := by rw [key, h34]; decide
    have f22 : (s.toList == [108, 111, 111, 112]) = false := by rw [key, h34]; decide
    have f23 : (s.toList == [105, 110]) = false := by rw [key, h34]; decide
    have f24 : (s.toList == [105, 110, 115, 116]) = false := by rw [key, h34]; decide
    have f25 : (s.toList == [113, 117, 97, 110, 116, 117, 109]) = false := by rw [key, h34]; decide
    have f26 : (s.toList == [101, 120, 116]) = false := by rw [key, h34]; decide
    have f27 : (s.toList == [112, 114, 105, 111]) = false := by rw [key, h34]; decide
    have f28 : (s.toList == [99, 104, 97, 110]) = false := by rw [key, h34]; decide
    have f29 : (s.toList == [99, 97, 112]) = false := by rw [key, h34]; decide
    have f30 : (s.toList == [99, 101, 114, 116]) = false := by rw [key, h34]; decide
    have f31 : (s.toList == [105, 110, 115, 116, 115]) = false := by rw [key, h34]; decide
    have f32 : (s.toList == [99, 104, 97, 110, 115]) = false := by rw [key, h34]; decide
    have f33 : (s.toList == [99, 101, 108, 108]) = false := by rw [key, h34]; decide
    have f34 : (s.toList == [111, 102, 102]) = true := by rw [key, h34]; decide
    clear key h0 h1 h2 h3 h4 h5 h6 h7 h8 h9 h10 h11 h12 h13 h14 h15 h16 h17 h18 h19 h20 h21 h22 h23 h24 h25 h26 h27 h28 h29 h30 h31 h32 h33 h34
    go_enter Tryd.func69, Tryd.ntmps69
    go_wp2_with fail
    go_ret
    exact ⟨rfl, rfl⟩
  have hno : reserved (bs s) = false := by
    rw [Bool.eq_false_iff]
    intro h
    have hm := List.contains_iff_mem.1 h
    simp only [wordsL, List.mem_cons, List.not_mem_nil, or_false] at hm
    rcases hm with h | h | h | h | h | h | h | h | h | h | h | h | h | h | h | h | h | h | h | h | h | h | h | h | h | h | h | h | h | h | h | h | h | h | h
    · exact h0 h
    · exact h1 h
    · exact h2 h
    · exact h3 h
    · exact h4 h
    · exact h5 h
    · exact h6 h
    · exact h7 h
    · exact h8 h
    · exact h9 h
    · exact h10 h
    · exact h11 h
    · exact h12 h
    · exact h13 h
    · exact h14 h
    · exact h15 h
    · exact h16 h
    · exact h17 h
    · exact h18 h
    · exact h19 h
    · exact h20 h
    · exact h21 h
    · exact h22 h
    · exact h23 h
    · exact h24 h
    · exact h25 h
    · exact h26 h
    · exact h27 h
    · exact h28 h
    · exact h29 h
    · exact h30 h
    · exact h31 h
    · exact h32 h
    · exact h33 h
    · exact h34 h
  rw [hno]
  have f0 : (s.toList == [115, 121, 115, 116, 101, 109]) = false := by rw [key, beq_eq_false_iff_ne]; exact h0
  have f1 : (s.toList == [97, 103, 101]) = false := by rw [key, beq_eq_false_iff_ne]; exact h1
  have f2 : (s.toList == [99, 104, 97, 114, 116]) = false := by rw [key, beq_eq_false_iff_ne]; exact h2
  have f3 : (s.toList == [115, 116, 101, 112, 115]) = false := by rw [key, beq_eq_false_iff_ne]; exact h3
  have f4 : (s.toList == [102, 117, 101, 108]) = false := by rw [key, beq_eq_false_iff_ne]; exact h4
  have f5 : (s.toList == [118, 97, 114]) = false := by rw [key, beq_eq_false_iff_ne]; exact h5
  have f6 : (s.toList == [112, 111, 114, 116]) = false := by rw [key, beq_eq_false_iff_ne]; exact h6
  have f7 : (s.toList == [116, 105, 109, 101, 114]) = false := by rw [key, beq_eq_false_iff_ne]; exact h7
  have f8 : (s.toList == [115, 116, 97, 116, 101]) = false := by rw [key, beq_eq_false_iff_ne]; exact h8
  have f9 : (s.toList == [112, 97, 114, 97, 108, 108, 101, 108]) = false := by rw [key, beq_eq_false_iff_ne]; exact h9
  have f10 : (s.toList == [104, 105, 115, 116, 111, 114, 121]) = false := by rw [key, beq_eq_false_iff_ne]; exact h10
  have f11 : (s.toList == [100, 101, 101, 112]) = false := by rw [key, beq_eq_false_iff_ne]; exact h11
  have f12 : (s.toList == [101, 110, 116, 114, 121]) = false := by rw [key, beq_eq_false_iff_ne]; exact h12
  have f13 : (s.toList == [101, 120, 105, 116]) = false := by rw [key, beq_eq_false_iff_ne]; exact h13
  have f14 : (s.toList == [111, 110]) = false := by rw [key, beq_eq_false_iff_ne]; exact h14
  have f15 : (s.toList == [97, 117, 116, 111]) = false := by rw [key, beq_eq_false_iff_ne]; exact h15
  have f16 : (s.toList == [114, 97, 105, 115, 101]) = false := by rw [key, beq_eq_false_iff_ne]; exact h16
  have f17 : (s.toList == [115, 101, 110, 100]) = false := by rw [key, beq_eq_false_iff_ne]; exact h17
  have f18 : (s.toList == [97, 114, 109]) = false := by rw [key, beq_eq_false_iff_ne]; exact h18
  have f19 : (s.toList == [99, 97, 110, 99, 101, 108]) = false := by rw [key, beq_eq_false_iff_ne]; exact h19
  have f20 : (s.toList == [105, 102]) = false := by rw [key, beq_eq_false_iff_ne]; exact h20
  have f21 : (s.toList == [101, 108, 115, 101]) = false := by rw [key, beq_eq_false_iff_ne]; exact h21
  have f22 : (s.toList == [108, 111, 111, 112]) = false := by rw [key, beq_eq_false_iff_ne]; exact h22
  have f23 : (s.toList == [105, 110]) = false := by rw [key, beq_eq_false_iff_ne]; exact h23
  have f24 : (s.toList == [105, 110, 115, 116]) = false := by rw [key, beq_eq_false_iff_ne]; exact h24
  have f25 : (s.toList == [113, 117, 97, 110, 116, 117, 109]) = false := by rw [key, beq_eq_false_iff_ne]; exact h25
  have f26 : (s.toList == [101, 120, 116]) = false := by rw [key, beq_eq_false_iff_ne]; exact h26
  have f27 : (s.toList == [112, 114, 105, 111]) = false := by rw [key, beq_eq_false_iff_ne]; exact h27
  have f28 : (s.toList == [99, 104, 97, 110]) = false := by rw [key, beq_eq_false_iff_ne]; exact h28
  have f29 : (s.toList == [99, 97, 112]) = false := by rw [key, beq_eq_false_iff_ne]; exact h29
  have f30 : (s.toList == [99, 101, 114, 116]) = false := by rw [key, beq_eq_false_iff_ne]; exact h30
  have f31 : (s.toList == [105, 110, 115, 116, 115]) = false := by rw [key, beq_eq_false_iff_ne]; exact h31
  have f32 : (s.toList == [99, 104, 97, 110, 115]) = false := by rw [key, beq_eq_false_iff_ne]; exact h32
  have f33 : (s.toList == [99, 101, 108, 108]) = false := by rw [key, beq_eq_false_iff_ne]; exact h33
  have f34 : (s.toList == [111, 102, 102]) = false := by rw [key, beq_eq_false_iff_ne]; exact h34
  clear key hno h0 h1 h2 h3 h4 h5 h6 h7 h8 h9 h10 h11 h12 h13 h14 h15 h16 h17 h18 h19 h20 h21 h22 h23 h24 h25 h26 h27 h28 h29 h30 h31 h32 h33 h34
  go_enter Tryd.func69, Tryd.ntmps69
  go_wp2_with fail
  go_ret
  exact ⟨rfl, rfl⟩
end Go.Proofs.YtdibkgjldmepcaaDoor.Lex
