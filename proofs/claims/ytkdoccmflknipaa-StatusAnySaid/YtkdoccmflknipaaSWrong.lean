/-
  The error of a Wrong.
-/
import Derived.Test.YtkdoccmflknipaaSThy
namespace Go.Proofs.Ytkdoccmflknipaa
open Go.RowKit
theorem wrong_err (A : Option Addr) (k c : Nat) (n : Int) (w : World) : (Instr.field 30 (.agg #[.slice A k c, .int .i64 n]) 1).run Try.prog w = .ok (.int .i64 n) w := by
  simp only [Instr.field, Sem.run_bind, run_underlying Try.underlying30, Result.andThen, asAgg]
  simp [part, Sem.run_bind, Try.isAgg3 w, Result.andThen]
end Go.Proofs.Ytkdoccmflknipaa
