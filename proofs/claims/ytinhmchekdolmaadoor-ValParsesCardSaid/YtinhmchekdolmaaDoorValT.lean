/- What a row of layer 2 lists of the library's variables, as Tabs; the witness' world. -/
import Derived.Test.YtinhmchekdolmaaDoorRows
import Derived.Test.YtinhmchekdolmaaDoorValB
import Derived.Lib.LaidU8T
import Derived.Lib.LaidTab
import Derived.LaidLaws
import Derived.PinnedBridge
import Derived.ProofKit
import Derived.OpenShut
import Derived.LaidMore
import Derived.Lay
namespace Go.Proofs.YtinhmchekdolmaaDoor
open Go.ChangeShapes Go.WideShapes Go.ChangeAt Go.RowKit

/-- The list that each row bears. -/
def LL : List (String × DataW Unit) := [("math/bits.deBruijn32tab", Rows.laid_math_bits_deBruijn32tab), ("math/bits.deBruijn64tab", Rows.laid_math_bits_deBruijn64tab), ("internal/strconv.uint64pow10", Rows.laid_internal_strconv_uint64pow10), ("unicode/utf8.acceptRanges", Rows.laid_unicode_utf8_acceptRanges), ("strconv.ErrRange", Rows.laid_strconv_ErrRange), ("strconv.ErrSyntax", Rows.laid_strconv_ErrSyntax), ("unicode/utf8.first", Rows.laid_unicode_utf8_first)]

theorem tab_of {n : String} {t e : TypeId} {m : Nat} {k : IntKind} {zs : List Int} {W : World} (ht : Tryd.prog.underlying t = some (.array m e)) (he : Tryd.prog.underlying e = some (.int k)) (hce : Tryd.prog.cellsOf e = 1) (hct : Tryd.prog.cellsOf t = m)
    (hy : ((Tryd.prog.globalNamed n).bind fun g => (Tryd.prog.globals[g]?).map (·.type)) = some t) (h : Lib.VarReads Tryd.prog W n (Lib.tabData k zs)) : Lib.TabIs Tryd.prog W n k zs := by
  obtain ⟨g, t', cs, fuel, p, hg, hty, hvar, hd⟩ := h
  rw [hg, Option.bind_some, hty] at hy
  obtain rfl := Option.some.inj hy
  have hcs := Lib.cells_of_tab ht he hce hct hd
  unfold Lib.TabIs
  rw [hvar, ← hcs]

theorem iface_of {n : String} {g : Nat} {t : TypeId} {ms : Array (String × TypeId)} {s : String} {d : DataW Unit} {W : World} (ht : Tryd.prog.underlying t = some (.interface ms)) (hn : Tryd.prog.globalNamed n = some g) (hy : (Tryd.prog.globals[g]?).map (·.type) = some t)
    (h : Lib.VarReads Tryd.prog W n (.iface s d)) : ∃ te pe, W.cell? ⟨g, 0, none⟩ = some (.iface te pe) := by
  obtain ⟨g', t', cs, fuel, p, hg, hty, hvar, hd⟩ := h
  obtain rfl := Option.some.inj (hn.symm.trans hg)
  obtain rfl := Option.some.inj (hy.symm.trans hty)
  obtain ⟨fuel', u, v, hcs, -, -⟩ := iface_of_trod ht hd
  refine ⟨u, v, ?_⟩
  rw [World.var?_cell hn hvar 0, ← Array.getElem?_toList, hcs]
  rfl

def Z64 : List Int := [0, 1, 56, 2, 57, 49, 28, 3, 61, 58, 42, 50, 38, 29, 17, 4, 62, 47, 59, 36, 45, 43, 51, 22, 53, 39, 33, 30, 24, 18, 12, 5, 63, 55, 48, 27, 60, 41, 37, 16, 46, 35, 44, 21, 52, 32, 23, 11, 54, 26, 40, 15, 34, 20, 31, 10, 25, 14, 19, 9, 13, 8, 7, 6]

theorem tabs_of {W : World} (h : laidMetH Tryd.prog LL W) : Tabs W := by
  rw [MakeChecks.laidMetH_plain _ _ _ (by kernel_rfl)] at h
  have r1 := Lib.laidMet.reads h (n := "math/bits.deBruijn64tab") (d := Rows.laid_math_bits_deBruijn64tab) (.tail _ (.head _))
  have r2 := Lib.laidMet.reads h (n := "internal/strconv.uint64pow10") (d := Rows.laid_internal_strconv_uint64pow10) (.tail _ (.tail _ (.head _)))
  have r3 := Lib.laidMet.reads h (n := "unicode/utf8.acceptRanges") (d := Rows.laid_unicode_utf8_acceptRanges) (.tail _ (.tail _ (.tail _ (.head _))))
  have r4 := Lib.laidMet.reads h (n := "strconv.ErrRange") (d := Rows.laid_strconv_ErrRange) (.tail _ (.tail _ (.tail _ (.tail _ (.head _)))))
  have r5 := Lib.laidMet.reads h (n := "strconv.ErrSyntax") (d := Rows.laid_strconv_ErrSyntax) (.tail _ (.tail _ (.tail _ (.tail _ (.tail _ (.head _))))))
  have r6 := Lib.laidMet.reads h (n := "unicode/utf8.first") (d := Rows.laid_unicode_utf8_first) (.tail _ (.tail _ (.tail _ (.tail _ (.tail _ (.tail _ (.head _)))))))
  have e6 : Rows.laid_unicode_utf8_first = Lib.firstData := Go.Pinned.utf8First_eq
  have e3 : (Rows.laid_unicode_utf8_acceptRanges : DataW Unit) = Lib.acceptData := by kernel_rfl
  have e2 : (Rows.laid_internal_strconv_uint64pow10 : DataW Unit) = Lib.tabData .u64 Lib.pow10Tab := by kernel_rfl
  have e1 : (Rows.laid_math_bits_deBruijn64tab : DataW Unit) = Lib.tabData .u8 Z64 := by kernel_rfl
  rw [e1] at r1
  rw [e2] at r2
  rw [e3] at r3
  rw [e6] at r6
  have t1 := tab_of Tryd.underlying126 Tryd.underlying5 (by kernel_rfl) (by kernel_rfl) (by kernel_rfl) r1
  refine ⟨utf8Tabs_of_readsT (U8Types.of196 Tryd.lays196) ⟨by kernel_rfl, by kernel_rfl, by kernel_rfl, by kernel_rfl, by kernel_rfl, by kernel_rfl, by kernel_rfl⟩ r6 r3, tab_of Tryd.underlying111 Tryd.underlying64 (by kernel_rfl) (by kernel_rfl) (by kernel_rfl) r2, ?_, iface_of Tryd.underlying82 (by kernel_rfl) (by kernel_rfl) r5, iface_of Tryd.underlying82 (by kernel_rfl) (by kernel_rfl) r4⟩
  unfold Lib.TabIs at t1
  rw [World.var?_cell (g := 7) (by kernel_rfl) t1 15]
  rfl
end Go.Proofs.YtinhmchekdolmaaDoor
