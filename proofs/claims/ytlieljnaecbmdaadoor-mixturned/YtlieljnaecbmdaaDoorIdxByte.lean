/-
  What a digit of hexadecimal text is worth, by the code's own search: it returns it and leaves the world as it was.
-/
import Derived.Test.YtlieljnaecbmdaaDoorProg
import Derived.Test.YtlieljnaecbmdaaDoorHexPlain
import Derived.WalkKit
import Derived.WalkSpells
import Derived.WalkLawsBesides
import Derived.Lib.Bytealg
import Derived.KernelRfl
namespace Go.Proofs.YtlieljnaecbmdaaDoor
open Go.RowKit

def digits16 : ByteArray := ⟨#[48, 49, 50, 51, 52, 53, 54, 55, 56, 57, 97, 98, 99, 100, 101, 102]⟩

/-- The worth as Go tells it: -1 where it is none. -/
def worthI (c : UInt8) : Int := if Hx.worth c < 16 then (Hx.worth c : Int) else -1

theorem worthI_all : ∀ k : Fin 256, Lib.indexByte [48, 49, 50, 51, 52, 53, 54, 55, 56, 57, 97, 98, 99, 100, 101, 102] (UInt8.ofNat k.val) = worthI (UInt8.ofNat k.val) := by decide +kernel

theorem worthI_eq (c : UInt8) : Lib.indexByte [48, 49, 50, 51, 52, 53, 54, 55, 56, 57, 97, 98, 99, 100, 101, 102] c = worthI c := by
  have := worthI_all ⟨c.toNat, c.toNat_lt⟩
  simpa only [UInt8.ofNat_toNat] using this

theorem ret_int {k : IntKind} {a b : Int} (h : a = b) : Ending.returned (.int k a) = .returned (.int k b) := by rw [h]

set_option maxHeartbeats 400000 in
theorem indexByte2 (c : UInt8) (w : World) :
    Calls Tryd.prog 38 #[.string ⟨#[48, 49, 50, 51, 52, 53, 54, 55, 56, 57, 97, 98, 99, 100, 101, 102]⟩, .int .u8 c.toNat] w fun e w' => e = .returned (.int .i64 (worthI c)) ∧ w' = w := by
  go_enter Tryd.func38, Tryd.ntmps38
  go_wp2
  rw [run_callFunc_extern Tryd.func39 (by kernel_rfl) (by kernel_rfl) (by kernel_rfl) (e := Extern.BytealgIndexByte.indexByte) (by kernel_rfl), Lib.run_indexByteString]
  simp only [Result.andThen]
  rw [Oper.upon_value]
  go_wp2
  go_ret
  exact ⟨ret_int (by have := worthI_eq c; simpa using this), rfl⟩

set_option maxHeartbeats 400000 in
theorem indexByte_any (c : UInt8) (w : World) :
    Calls Tryd.prog 35 #[.string ⟨#[48, 49, 50, 51, 52, 53, 54, 55, 56, 57, 97, 98, 99, 100, 101, 102]⟩, .int .u8 c.toNat] w fun e w' => e = .returned (.int .i64 (worthI c)) ∧ w' = w := by
  go_enter Tryd.func35, Tryd.ntmps35
  go_wp2_with (go_at_call 38; refine (indexByte2 _ _).mono ?_; rintro e w' ⟨rfl, rfl⟩)
  go_ret
  exact ⟨rfl, rfl⟩

theorem indexByte_yes (c : UInt8) (h : Hx.worth c < 16) (w : World) :
    Calls Tryd.prog 35 #[.string ⟨#[48, 49, 50, 51, 52, 53, 54, 55, 56, 57, 97, 98, 99, 100, 101, 102]⟩, .int .u8 c.toNat] w fun e w' => e = .returned (.int .i64 (Hx.worth c : Int)) ∧ w' = w := by
  have := indexByte_any c w
  rwa [show worthI c = (Hx.worth c : Int) from if_pos h] at this

theorem indexByte_no (c : UInt8) (h : ¬ Hx.worth c < 16) (w : World) :
    Calls Tryd.prog 35 #[.string ⟨#[48, 49, 50, 51, 52, 53, 54, 55, 56, 57, 97, 98, 99, 100, 101, 102]⟩, .int .u8 c.toNat] w fun e w' => e = .returned (.int .i64 (-1)) ∧ w' = w := by
  have := indexByte_any c w
  rwa [show worthI c = -1 from if_neg h] at this

end Go.Proofs.YtlieljnaecbmdaaDoor
