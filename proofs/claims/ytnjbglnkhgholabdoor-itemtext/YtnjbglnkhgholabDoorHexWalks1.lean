/-
  What a digit of hexadecimal text is worth, by the document's own rule: it returns it and leaves the world as it was.
-/
import Derived.Test.YtnjbglnkhgholabDoorIdxByte
namespace Go.Proofs.YtnjbglnkhgholabDoor
open Go.RowKit

set_option maxHeartbeats 400000 in
theorem digit_any (c : UInt8) (w : World) :
    Calls Tryd.prog 25 #[.int .u8 c.toNat] w fun e w' => e = .returned (.int .i64 (worthI c)) ∧ w' = w := by
  have hlt := c.toNat_lt
  have hlt' : (c.toNat : Int) < 256 := by omega
  by_cases h1 : (48 : Int) ≤ c.toNat
  · by_cases h2 : (c.toNat : Int) ≤ 57
    · go_enter Tryd.func25, Tryd.ntmps25
      go_wp2
      go_ret
      exact ⟨ret_int (by unfold worthI Hx.worth; rw [if_pos (show 48 ≤ c.toNat ∧ c.toNat ≤ 57 from by omega), if_pos (by omega)]; omega), rfl⟩
    · by_cases h3 : (97 : Int) ≤ c.toNat
      · by_cases h4 : (c.toNat : Int) ≤ 102
        · go_enter Tryd.func25, Tryd.ntmps25
          go_wp2
          go_ret
          exact ⟨ret_int (by unfold worthI Hx.worth; rw [if_neg (show ¬ (48 ≤ c.toNat ∧ c.toNat ≤ 57) from by omega), if_pos (show 97 ≤ c.toNat ∧ c.toNat ≤ 102 from by omega), if_pos (by omega)]; omega), rfl⟩
        · go_enter Tryd.func25, Tryd.ntmps25
          go_wp2
          go_ret
          exact ⟨ret_int (by unfold worthI Hx.worth; rw [if_neg (show ¬ (48 ≤ c.toNat ∧ c.toNat ≤ 57) from by omega), if_neg (show ¬ (97 ≤ c.toNat ∧ c.toNat ≤ 102) from by omega), if_neg (by omega)]), rfl⟩
      · go_enter Tryd.func25, Tryd.ntmps25
        go_wp2
        go_ret
        exact ⟨ret_int (by unfold worthI Hx.worth; rw [if_neg (show ¬ (48 ≤ c.toNat ∧ c.toNat ≤ 57) from by omega), if_neg (show ¬ (97 ≤ c.toNat ∧ c.toNat ≤ 102) from by omega), if_neg (by omega)]), rfl⟩
  · have h3 : ¬ (97 : Int) ≤ c.toNat := by omega
    go_enter Tryd.func25, Tryd.ntmps25
    go_wp2
    go_ret
    exact ⟨ret_int (by unfold worthI Hx.worth; rw [if_neg (show ¬ (48 ≤ c.toNat ∧ c.toNat ≤ 57) from by omega), if_neg (show ¬ (97 ≤ c.toNat ∧ c.toNat ≤ 102) from by omega), if_neg (by omega)]), rfl⟩

theorem digit_yes (c : UInt8) (h : Hx.worth c < 16) (w : World) :
    Calls Tryd.prog 25 #[.int .u8 c.toNat] w fun e w' => e = .returned (.int .i64 (Hx.worth c : Int)) ∧ w' = w := by
  have := digit_any c w
  rwa [show worthI c = (Hx.worth c : Int) from if_pos h] at this

theorem digit_no (c : UInt8) (h : ¬ Hx.worth c < 16) (w : World) :
    Calls Tryd.prog 25 #[.int .u8 c.toNat] w fun e w' => e = .returned (.int .i64 (-1)) ∧ w' = w := by
  have := digit_any c w
  rwa [show worthI c = -1 from if_neg h] at this

end Go.Proofs.YtnjbglnkhgholabDoor
