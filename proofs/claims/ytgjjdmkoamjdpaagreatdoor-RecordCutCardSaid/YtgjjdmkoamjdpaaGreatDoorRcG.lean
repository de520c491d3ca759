/- The law's awake. -/
import Derived.Test.YtgjjdmkoamjdpaaGreatDoorRcF
namespace Go.Proofs.YtgjjdmkoamjdpaaGreatDoor
open Go.RowKit Go.Maps

def ch0 : ChV := ⟨1, 1, 0, ⟨#[]⟩, 0, ⟨#[]⟩, ⟨0, 0, ⟨#[]⟩⟩⟩
theorem ch0_enc : encCode [ch0] = 0 ∧ (encByt [ch0]).length = 21 ∧ (encByt [ch0]).take 3 = [1, 1, 18] := by decide +kernel
theorem ch0_fits : ch0.fits := ⟨by decide, by decide, by decide, by decide, by decide⟩
set_option maxRecDepth 100000 in
set_option maxHeartbeats 2000000 in
theorem awake15_any (w : World) (hT : Tabs w) : Calls Tryz.prog 7 #[] w fun e w' => e = .returned (.bool true) ∧ Below w.heap.size w w' := by
  have h1 := fun W => enc_drop ⟨#[]⟩ ⟨#[]⟩ ⟨#[102]⟩ 0 none none 0 0 0 0 none 0 0 W (by decide +kernel)
  have h2 : ∀ W, Below w.heap.size w W → Calls Tryz.prog 10 #[.agg #[.int .i64 1, .slice (some ⟨W.heap.size, 0, none⟩) 1 1, .string ⟨#[]⟩, .int .i64 0, .slice none 0 0, .slice none 0 0, .string ⟨#[]⟩, .string ⟨#[]⟩]] (W.alloc (.cells #[.int .i64 1, .int .i64 1, .int .i64 0, .string ⟨#[]⟩, .int .i64 0, .string ⟨#[]⟩, .int .i64 0, .int .i64 0, .string ⟨#[]⟩] 53)) fun e w' => ∃ A c, e = .returned (.tuple #[.slice A 21 c, .int .i64 0]) ∧ Rd w' w'.heap.size A (u8s (encByt [ch0])) ∧ 21 ≤ c ∧ Below w.heap.size w w' ∧ Below W.heap.size W w' := fun W hW => by
    have hb : Below W.heap.size W (W.alloc (.cells ch0.cells 53)) := (Below.refl _ _).alloc (Nat.le_refl _) _
    have hc : Chs (W.alloc (.cells ch0.cells 53)) (some ⟨W.heap.size, 0, none⟩) 1 [ch0] := ⟨by rw [alloc1_size]; exact Rd.new W ch0.cells 53 (0, 0), by simp, fun x hx => by rw [List.mem_singleton.1 hx]; exact ch0_fits⟩
    refine (enc_commit ⟨#[]⟩ ⟨#[]⟩ ⟨#[]⟩ 0 none none 0 0 0 0 _ 1 [ch0] _ hc (hT.below (hW.trans (lower' hb hW.size)))).mono ?_
    rintro e w' ⟨v', rfl, ho, hb2⟩
    obtain ⟨A, c, rfl, hcap, _, hr, _⟩ := ho.shape
    rw [ch0_enc.1, ch0_enc.2.1]
    rw [ch0_enc.2.1] at hcap
    exact ⟨A, c, rfl, hr, hcap, (hW.trans (lower' hb hW.size)).trans (lower' hb2 (Nat.le_trans hW.size hb.size)), hb.trans (lower' hb2 hb.size)⟩
  have H1 := Lib.hid h1
  have H2 := Lib.hid h2
  clear h1 h2 hT
  go_enter Tryz.func7, Tryz.ntmps7
  go_upto_region 2 with (go_at_call 10; (with_reducible refine (H1.out _).mono ?_); rintro e w1 ⟨v1, rfl, o1, b1⟩)
  obtain ⟨A1, c1, rfl, hcap1, _, r1, _⟩ := o1.shape
  have HR1 := Lib.hid r1
  have HB1 := Lib.hid b1
  clear o1 b1 r1 H1
  go_upto_region 3 with (go_at_call 10; (with_reducible refine (H2.out _ HB1.out).mono ?_); rintro e w2 ⟨A2, c2, rfl, r2, hcap2, b2, b12⟩; have HR2 := Lib.hid (And.intro r2 (And.intro b2 b12)); clear r2 b2 b12)
  have s1 := strAt (n := 2) (c := c1) (l := [3, 102]) ((HR1.out.below HR2.out.2.2 (Nat.le_refl _)).more HR2.out.2.2.size) rfl
  have s2 : (convert 32 9 (.slice A2 3 c2)).run Tryz.prog w2 = .ok (.string ⟨#[1, 1, 18]⟩) w2 := by
    have h := strAt (w := w2) (A := A2) (n := 3) (c := c2) (l := (encByt [ch0]).take 3) (by rw [u8s_take]; exact HR2.out.1.take 3) (by rw [ch0_enc.2.2]; rfl)
    rw [ch0_enc.2.2] at h
    exact h
  have hA2 : ∃ p, A2 = some p := by
    rcases A2 with _ | p
    · have := HR2.out.1 (by intro e; have h := congrArg List.length e; rw [u8s_length, ch0_enc.2.1] at h; simp at h)
      obtain ⟨b, o, e, _⟩ := this
      cases e
    · exact ⟨p, rfl⟩
  obtain ⟨p2, rfl⟩ := hA2
  clear H2
  go_wp2_with (fail)
  go_ret
  exact ⟨rfl, HR2.out.2.1⟩
end Go.Proofs.YtgjjdmkoamjdpaaGreatDoor
