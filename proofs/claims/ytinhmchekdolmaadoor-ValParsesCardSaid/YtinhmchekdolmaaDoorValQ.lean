/- The orders: val.Cmp, val.Same; the reference's Plain, Cmp. -/
import Derived.Test.YtinhmchekdolmaaDoorProg
import Derived.Test.YtinhmchekdolmaaDoorValK
import Derived.WalkKit
import Derived.WalkSpells
import Derived.WalkLawsBesides
import Derived.Deep.QuietTactic
import Derived.BigQuiet
import Derived.KernelRfl
import Derived.Lib.Hide
namespace Go.Proofs.YtinhmchekdolmaaDoor
open Go.RowKit

/-- The order of values. -/
def vc (a b : VVal) : Int := if a.kind ≠ b.kind then Lib.compareInt a.kind b.kind else if a.kind = 2 then Lib.compareBytes a.s.data.toList b.s.data.toList else Lib.compareInt a.n b.n

set_option maxRecDepth 100000 in
set_option maxHeartbeats 1000000 in
theorem vcmp_any (a b : VVal) (w : World) :
    Calls Tryd.prog 24 #[.agg a.cells, .agg b.cells] w fun e w' => e = .returned (.int .i64 (vc a b)) ∧ Below w.heap.size w w' := by
  obtain ⟨k, n, s⟩ := a
  obtain ⟨l, m, t⟩ := b
  simp only [VVal.cells]
  have hB : Below w.heap.size w ((w.alloc (.cells #[.int .i64 k, .int .i64 n, .string s] 23)).alloc (.cells #[.int .i64 l, .int .i64 m, .string t] 23)) := ((Below.refl _ _).alloc (Nat.le_refl _) _).alloc (by simp) _
  by_cases h1 : k = l
  · subst h1
    by_cases h2 : k = 2
    · subst h2
      have hc : Hid (vc ⟨2, n, s⟩ ⟨2, m, t⟩ = Lib.compareBytes s.data.toList t.data.toList) := Lib.hid (by simp [vc])
      have HS := fun W => Tryd.strings_Compare s t W
      have HSS := Lib.hid HS
      clear HS
      go_enter Tryd.func24, Tryd.ntmps24
      go_wp2_with (go_at_call 44; (with_reducible refine (HSS.out _).mono ?_); rintro e w' ⟨rfl, rfl⟩)
      go_ret
      exact ⟨by rw [hc.out]; rfl, hB⟩
    · have hc : Hid (vc ⟨k, n, s⟩ ⟨k, m, t⟩ = Lib.compareInt n m) := Lib.hid (by simp [vc, h2])
      have b2 : (k == 2) = false := beq_eq_false_iff_ne.2 h2
      have HS := fun W => Tryd.cmp_Compare_int n m W
      have HSS := Lib.hid HS
      clear HS
      go_enter Tryd.func24, Tryd.ntmps24
      go_wp2_with (go_at_call 43; (with_reducible refine (HSS.out _).mono ?_); rintro e w' ⟨rfl, rfl⟩)
      go_ret
      exact ⟨by rw [hc.out]; rfl, hB⟩
  · have hc : Hid (vc ⟨k, n, s⟩ ⟨l, m, t⟩ = Lib.compareInt k l) := Lib.hid (by simp [vc, h1])
    have b1 : (k == l) = false := beq_eq_false_iff_ne.2 h1
    have b1' : (k != l) = true := by simp [bne, b1]
    have HS := fun W => Tryd.cmp_Compare_int k l W
    have HSS := Lib.hid HS
    clear HS
    go_enter Tryd.func24, Tryd.ntmps24
    go_wp2_with (go_at_call 43; (with_reducible refine (HSS.out _).mono ?_); rintro e w' ⟨rfl, rfl⟩)
    go_ret
    exact ⟨by rw [hc.out]; rfl, hB⟩

set_option maxRecDepth 100000 in
theorem vsame_any (a b : VVal) (w : World) :
    Calls Tryd.prog 21 #[.agg a.cells, .agg b.cells] w fun e w' => e = .returned (.bool (vc a b == 0)) ∧ Below w.heap.size w w' := by
  have h0 := fun W => vcmp_any a b W
  obtain ⟨x, hx⟩ : ∃ x, x = vc a b := ⟨_, rfl⟩
  rw [← hx] at h0 ⊢
  obtain ⟨k, n, s⟩ := a
  obtain ⟨l, m, t⟩ := b
  simp only [VVal.cells] at h0 ⊢
  have H0 := Lib.hid h0
  clear h0 hx
  have hB : Below w.heap.size w ((w.alloc (.cells #[.int .i64 k, .int .i64 n, .string s] 23)).alloc (.cells #[.int .i64 l, .int .i64 m, .string t] 23)) := ((Below.refl _ _).alloc (Nat.le_refl _) _).alloc (by simp) _
  go_enter Tryd.func21, Tryd.ntmps21
  go_wp2_with (go_at_call 24; (with_reducible refine (H0.out _).mono ?_); rintro e w' ⟨rfl, hb⟩)
  go_ret
  exact ⟨rfl, hB.trans (hb.mono hB.size)⟩

/-- With nothing that its kind doesn't use. -/
def plainV (v : VVal) : VVal := if v.kind = 2 then ⟨2, 0, v.s⟩ else ⟨v.kind, v.n, ⟨#[]⟩⟩

theorem res18 {w : World} {b : Nat} {v0 v1 v2 : Value} (h : w.heap[b]? = some (.cells #[v0, v1, v2] 23 (0, 0))) (tmps : Array Value) (h2 : tmps.getD 2 undef = .pointer (some ⟨b, 0, none⟩)) :
    (results Tryd.f18 tmps).run Tryd.prog w = .ok (.agg #[v0, v1, v2]) w := by
  have e0 : w.cell? ⟨b, 0, none⟩ = some v0 := cell_of_row w b 0 _ _ _ h
  have e1 : w.cell? ⟨b, 1, none⟩ = some v1 := cell_of_row w b 1 _ _ _ h
  have e2 : w.cell? ⟨b, 2, none⟩ = some v2 := cell_of_row w b 2 _ _ _ h
  have h2' := h2
  simp only [Array.getD_eq_getD_getElem?] at h2'
  simp [results, Tryd.results18, go_sem, h2', e0, e1, e2]

set_option maxRecDepth 100000 in
theorem plain_any (v : VVal) (w : World) :
    Calls Tryd.prog 18 #[.agg v.cells] w fun e w' => e = .returned (.agg (plainV v).cells) ∧ Below w.heap.size w w' := by
  obtain ⟨k, n, s⟩ := v
  simp only [VVal.cells]
  have HG : ∀ (x0 x1 x2 : Value), ((w.alloc (.cells #[.int .i64 k, .int .i64 n, .string s] 23)).alloc (.cells #[x0, x1, x2] 23)).heap[w.heap.size + 1]? = some (.cells #[x0, x1, x2] 23 (0, 0)) := by
    intro x0 x1 x2
    have := heap_alloc_new (w.alloc (.cells #[.int .i64 k, .int .i64 n, .string s] 23)) (.cells #[x0, x1, x2] 23)
    simpa using this
  have HGG := Lib.hid HG
  clear HG
  by_cases h2 : k = 2
  · subst h2
    have hp : Hid (plainV ⟨2, n, s⟩ = ⟨2, 0, s⟩) := Lib.hid (by simp [plainV])
    rw [hp.out]
    go_enter Tryd.func18, Tryd.ntmps18
    go_wp2
    refine bodyPost_ret (res18 (HGG.out _ _ _) _ rfl) rfl ⟨rfl, ((Below.refl _ _).alloc (Nat.le_refl _) _).alloc (by simp) _⟩
  · have hp : Hid (plainV ⟨k, n, s⟩ = ⟨k, n, ⟨#[]⟩⟩) := Lib.hid (by simp [plainV, h2])
    rw [hp.out]
    have b2 : (k == 2) = false := beq_eq_false_iff_ne.2 h2
    go_enter Tryd.func18, Tryd.ntmps18
    go_wp2
    refine bodyPost_ret (res18 (HGG.out _ _ _) _ rfl) rfl ⟨rfl, ((Below.refl _ _).alloc (Nat.le_refl _) _).alloc (by simp) _⟩
end Go.Proofs.YtinhmchekdolmaaDoor
