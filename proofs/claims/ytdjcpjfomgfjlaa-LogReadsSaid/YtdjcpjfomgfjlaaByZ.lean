/- Rows of bytes that are made, and five. -/
import Derived.Test.YtdjcpjfomgfjlaaLogE
import Derived.Lib.SlBytesConst
namespace Go.Proofs.Ytdjcpjfomgfjlaa
open Go.RowKit Go.Maps

theorem makeBytes (n : Nat) (hn : n ≤ 8192) (w : World) : (Instr.makeSlice 45 (.int .i64 (n : Int)) (.int .i64 (n : Int))).run Try.prog w = .ok (.slice (some ⟨w.heap.size, 0, none⟩) n n) (w.alloc (.cells (u8s (List.replicate n 0)).toArray 5)) := by
  have h := run_make_row' (P := Try.prog) 45 5 (.int .u8 0) 1 Try.underlying45 infoU8 rfl .i64 .i64 n (by omega) (by omega) w
  have e : madeCells #[Value.int .u8 0] n = (u8s (List.replicate n 0)).toArray := by
    apply Array.toList_inj.1
    rw [toList_madeCells_one]
    simp [u8s]
  rw [e] at h
  exact h
theorem make65 (w : World) : (Instr.makeSlice 45 (.int .i64 65) (.int .i64 65)).run Try.prog w = .ok (.slice (some ⟨w.heap.size, 0, none⟩) 65 65) (w.alloc (.cells (u8s (List.replicate 65 0)).toArray 5)) := makeBytes 65 (by omega) w
theorem conv_five (w : World) : (convert 45 45 (.slice (some ⟨w.heap.size, 0, none⟩) 5 5)).run Try.prog (w.alloc (.cells #[.int .u8 102, .int .u8 105, .int .u8 118, .int .u8 101, .int .u8 33] 5)) = .ok (.slice (some ⟨w.heap.size, 0, none⟩) 5 5) (w.alloc (.cells #[.int .u8 102, .int .u8 105, .int .u8 118, .int .u8 101, .int .u8 33] 5 (5, 6))) :=
  Lib.run_convert_bytes_const w 45 5 #[.int .u8 102, .int .u8 105, .int .u8 118, .int .u8 101, .int .u8 33] 5 5 Try.underlying45 Try.underlying5
def five : List UInt8 := [102, 105, 118, 101, 33]
end Go.Proofs.Ytdjcpjfomgfjlaa
