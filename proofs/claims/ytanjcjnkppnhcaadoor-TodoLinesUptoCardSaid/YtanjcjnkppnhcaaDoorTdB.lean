/-
  todo: a verb; a number; what is behind a step's commit.
-/
import Derived.Test.YtanjcjnkppnhcaaDoorTdA
namespace Go.Proofs.YtanjcjnkppnhcaaDoor
open Go Go.RowKit

/-- Is it a step's verb? -/
def knownV (v : ByteArray) : Bool := (v.toList == [112, 105, 99, 107]) || (v.toList == [114, 101, 119, 111, 114, 100]) || (v.toList == [101, 100, 105, 116]) || (v.toList == [115, 113, 117, 97, 115, 104]) || (v.toList == [102, 105, 120, 117, 112]) || (v.toList == [100, 114, 111, 112])
set_option maxRecDepth 100000 in
set_option maxHeartbeats 2000000 in
theorem knownV_any (v : ByteArray) (w : World) : Calls Tryd.prog 25 #[.string v] w fun e w' => e = .returned (.bool (knownV v)) ∧ w' = w := by
  cases h0 : (v.toList == [112, 105, 99, 107]) with
  | true =>
    have HV := Lib.hid (show knownV v = true by unfold knownV; rw [h0]; rfl)
    go_enter Tryd.func25, Tryd.ntmps25
    go_wp2
    go_ret
    exact ⟨by rw [HV.out]; rfl, rfl⟩
  | false =>
    cases h1 : (v.toList == [114, 101, 119, 111, 114, 100]) with
    | true =>
      have HV := Lib.hid (show knownV v = true by unfold knownV; rw [h0, h1]; rfl)
      go_enter Tryd.func25, Tryd.ntmps25
      go_wp2
      go_ret
      exact ⟨by rw [HV.out]; rfl, rfl⟩
    | false =>
      cases h2 : (v.toList == [101, 100, 105, 116]) with
      | true =>
        have HV := Lib.hid (show knownV v = true by unfold knownV; rw [h0, h1, h2]; rfl)
        go_enter Tryd.func25, Tryd.ntmps25
        go_wp2
        go_ret
        exact ⟨by rw [HV.out]; rfl, rfl⟩
      | false =>
        cases h3 : (v.toList == [115, 113, 117, 97, 115, 104]) with
        | true =>
          have HV := Lib.hid (show knownV v = true by unfold knownV; rw [h0, h1, h2, h3]; rfl)
          go_enter Tryd.func25, Tryd.ntmps25
          go_wp2
          go_ret
          exact ⟨by rw [HV.out]; rfl, rfl⟩
        | false =>
          cases h4 : (v.toList == [102, 105, 120, 117, 112]) with
          | true =>
            have HV := Lib.hid (show knownV v = true by unfold knownV; rw [h0, h1, h2, h3, h4]; rfl)
            go_enter Tryd.func25, Tryd.ntmps25
            go_wp2
            go_ret
            exact ⟨by rw [HV.out]; rfl, rfl⟩
          | false =>
            cases h5 : (v.toList == [100, 114, 111, 112]) with
            | true =>
              have HV := Lib.hid (show knownV v = true by unfold knownV; rw [h0, h1, h2, h3, h4, h5]; rfl)
              go_enter Tryd.func25, Tryd.ntmps25
              go_wp2
              go_ret
              exact ⟨by rw [HV.out]; rfl, rfl⟩
            | false =>
              have HV := Lib.hid (show knownV v = false by unfold knownV; rw [h0, h1, h2, h3, h4, h5]; rfl)
              go_enter Tryd.func25, Tryd.ntmps25
              go_wp2
              go_ret
              exact ⟨by rw [HV.out]; rfl, rfl⟩
end Go.Proofs.YtanjcjnkppnhcaaDoor
