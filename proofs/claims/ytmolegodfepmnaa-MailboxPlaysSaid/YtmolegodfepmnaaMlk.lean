/- The numbers under which the program holds the lock's functions and types, and that it holds them. -/
import Derived.Test.YtmolegodfepmnaaRows
import Derived.Conc.MuLone
import Derived.KernelRfl
namespace Go.Proofs.Ytmolegodfepmnaa
abbrev muLink : Go.Conc.Locks.MuLink := { lock := 16, unlock := 17, ilock := 28, iunlock := 29, lockSlow := 52, unlockSlow := 54, disable := 34, enable := 35, acquire := 46, relMerge := 33, cas32 := 51, add32 := 53, tMutex := 50, tIMutex := 48, tPMutex := 57, tPIMutex := 93, tPI32 := 95, tUP := 79, tNoCopy := 45, tU32 := 46 }
theorem muLib : Go.Conc.Locks.MuLib Try.prog muLink :=
  ⟨Try.func16, Try.func17, Try.func28, Try.func29, Try.func34, Try.func35, Try.func46, Try.func33, Try.func51, Try.func53, Try.underlying48, Try.runUnderlying48, Try.sizeOf48, Try.isAgg48, Try.zeroValue48, Try.underlying50, Try.runUnderlying50, Try.sizeOf50, Try.isAgg50, Try.zeroValue50, Try.underlying57, Try.runUnderlying57, Try.sizeOf57, Try.isAgg57, Try.zeroValue57, Try.underlying93, Try.runUnderlying93, Try.sizeOf93, Try.isAgg93, Try.zeroValue93, Try.underlying95, Try.runUnderlying95, Try.sizeOf95, Try.isAgg95, Try.zeroValue95, Try.underlying79, Try.runUnderlying79, Try.sizeOf79, Try.isAgg79, Try.zeroValue79, Try.underlying45, Try.runUnderlying45, Try.sizeOf45, Try.isAgg45, Try.zeroValue45, Try.underlying21, Try.runUnderlying21, Try.sizeOf21, Try.isAgg21, Try.zeroValue21, (by kernel_rfl)⟩
end Go.Proofs.Ytmolegodfepmnaa
