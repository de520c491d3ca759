/- The rings that are told already, a ring that grows, who is told: three rows of the call's own, apart. -/
import Derived.Test.YtgjjdmkoamjdpaaSpGE
import Derived.Test.YtgjjdmkoamjdpaaSpR0
import Derived.Test.YtgjjdmkoamjdpaaSpLD
namespace Go.Proofs.Ytgjjdmkoamjdpaa
open Go.RowKit Go.Maps Go.Sort

structure RgAt (lo lo3 : Nat) (w4 wz : World) (v : Value) (us : List TV) (D R : TV) : Prop where
  d : OwnI wz lo D
  r : OwnI wz lo3 R
  rd : ∀ a, R.A = some a → a.block ∉ D.val.ownBlock.toList
  o : RowM wz lo v us
  u : ∀ t ∈ us, OwnI wz lo t ∧ ∀ a, t.A = some a → a.block < lo3 ∧ a.block ∉ D.val.ownBlock.toList
  le : lo ≤ lo3
  b : Below lo w4 wz
structure RtAt13 (lo : Nat) (w4 wz : World) (v : Value) (us : List TV) (D : TV) : Prop where
  d : OwnI wz lo D
  o : RowM wz lo v us
  u : ∀ t ∈ us, OwnI wz lo t ∧ ∀ a, t.A = some a → a.block ∉ D.val.ownBlock.toList
  b : Below lo w4 wz
theorem RgAt.below {lo lo3 : Nat} {w4 wz w' : World} {v : Value} {us : List TV} {D R : TV} (h : RgAt lo lo3 w4 wz v us D R) (hb : Below wz.heap.size wz w') (hz : lo ≤ wz.heap.size) : RgAt lo lo3 w4 w' v us D R :=
  ⟨h.d.below hb, h.r.below hb, h.rd, h.o.below hb, fun t ht => ⟨(h.u t ht).1.below hb, (h.u t ht).2⟩, h.le, h.b.trans (lower' hb hz)⟩
theorem RtAt13.below {lo : Nat} {w4 wz w' : World} {v : Value} {us : List TV} {D : TV} (h : RtAt13 lo w4 wz v us D) (hb : Below wz.heap.size wz w') (hz : lo ≤ wz.heap.size) : RtAt13 lo w4 w' v us D :=
  ⟨h.d.below hb, h.o.below hb, fun t ht => ⟨(h.u t ht).1.below hb, (h.u t ht).2⟩, h.b.trans (lower' hb hz)⟩
theorem RtAt13.ring {lo : Nat} {w4 wz : World} {v : Value} {us : List TV} {D : TV} (h : RtAt13 lo w4 wz v us D) (hz : lo ≤ wz.heap.size) : RgAt lo wz.heap.size w4 wz v us D ⟨none, [], 0⟩ :=
  ⟨h.d, World.ownsRow_nil _ _ _ _, (fun _ e => nomatch e), h.o, fun t ht => ⟨(h.u t ht).1, fun a ha => ⟨((h.u t ht).1.lo a ha).2, (h.u t ht).2 a ha⟩⟩, hz, h.b⟩
theorem blk_none {t : TV} {n : Nat} (h : t.val.ownBlock = some n) {b : Nat} (hb : b ∈ t.val.ownBlock.toList) : b = n := by rw [h] at hb; simpa using hb
theorem RgAt.push {lo lo3 : Nat} {w4 wz : World} {v : Value} {us : List TV} {D R : TV} (h : RgAt lo lo3 w4 wz v us D R) (x : Int) (hr : R.l.length ≤ 5000) (hd : D.l.length ≤ 5000) (hz : lo3 ≤ wz.heap.size) :
    ∃ R' w1, (Builtin.append_ #[25, 25] 25 #[.slice R.A R.l.length R.c, .slice (some ⟨wz.heap.size, 0, none⟩) 1 1]).run Try.prog (wz.alloc (.cells #[.int .i64 x] 3)) = .ok (.slice R'.A R'.l.length R'.c) w1 ∧ R'.l = R.l ++ [x] ∧ Below lo wz w1 ∧
      ∃ D' w2, (Builtin.append_ #[25, 25] 25 #[.slice D.A D.l.length D.c, .slice (some ⟨w1.heap.size, 0, none⟩) 1 1]).run Try.prog (w1.alloc (.cells #[.int .i64 x] 3)) = .ok (.slice D'.A D'.l.length D'.c) w2 ∧ D'.l = D.l ++ [x] ∧ RgAt lo lo3 w4 w2 v us D' R' ∧ w1.heap.size ≤ w2.heap.size := by
  obtain ⟨R', w1, h1, h2, h3, h4, h5, h6⟩ := run_appN wz lo3 R [x] h.r hz (by simp; omega)
  have ha : Below wz.heap.size wz (wz.alloc (.cells (intsV [x]).toArray 3)) := (Below.refl _ _).alloc (Nat.le_refl _) _
  have f1 : Fr wz w1 R.val.ownBlock.toList := (Fr.of_below ha _).trans h4
  have d1 : OwnI w1 lo D := rowFrS h.d f1 fun s hs hm => by
    obtain ⟨a, ha, e⟩ := (blk_at R s).1 hm
    exact h.rd a ha (e ▸ hs)
  have o1 : RowM w1 lo v us := rowFrS h.o f1 fun s hs hm => own_apart h.r h.o (by decide) s hm hs
  have u1 : ∀ t ∈ us, OwnI w1 lo t := fun t ht => (h.u t ht).1.fr f1 fun a ha hm => by
    obtain ⟨a', ha', e⟩ := (blk_at R _).1 hm
    have g1 := (h.r.lo a' ha').1
    have g2 := ((h.u t ht).2 a ha).1
    omega
  have b1 : Below lo wz w1 := lower' h6 h.le
  have hdl : ∀ s ∈ D.val.ownBlock.toList, s < wz.heap.size := fun s hs => by
    obtain ⟨a, ha, e⟩ := (blk_at D s).1 hs
    have := (h.d.lo a ha).2
    omega
  obtain ⟨D', w2, g1, g2, g3, g4, g5, g6⟩ := run_appN w1 lo D [x] d1 (Nat.le_trans (Nat.le_trans h.le hz) b1.size) (by simp; omega)
  have ha2 : Below w1.heap.size w1 (w1.alloc (.cells (intsV [x]).toArray 3)) := (Below.refl _ _).alloc (Nat.le_refl _) _
  have f2 : Fr w1 w2 D.val.ownBlock.toList := (Fr.of_below ha2 _).trans g4
  have rd1 : ∀ a, R'.A = some a → a.block ∉ D.val.ownBlock.toList := fun a ha hm => by
    have hb := (blk_at R' _).2 ⟨a, ha, rfl⟩
    rcases h5 with e | e
    · rw [e] at hb
      obtain ⟨a', ha', e'⟩ := (blk_at R _).1 hb
      exact h.rd a' ha' (e' ▸ hm)
    · have := blk_none e hb
      have := hdl _ hm
      omega
  refine ⟨R', w1, h1, h2, b1, D', w2, g1, g2, ⟨g3, h3.fr f2 rd1, fun a ha hm => ?_, rowFrS o1 f2 fun s hs hm => own_apart d1 o1 (by decide) s hm hs, fun t ht => ⟨(u1 t ht).fr f2 fun a ha => ((h.u t ht).2 a ha).2, fun a ha => ⟨((h.u t ht).2 a ha).1, fun hm => ?_⟩⟩, h.le, h.b.trans (b1.trans g6)⟩, g6.size⟩
  · rcases g5 with e | e
    · rw [e] at hm; exact rd1 a ha hm
    · have := blk_none e hm
      have := (h3.lo a ha).2
      omega
  · rcases g5 with e | e
    · rw [e] at hm; exact ((h.u t ht).2 a ha).2 hm
    · have := blk_none e hm
      have := ((h.u t ht).1.lo a ha).2
      have := b1.size
      omega
/-- A ring is told. -/
theorem RgAt.told {lo lo3 : Nat} {w4 wz : World} {v : Value} {us : List TV} {D R : TV} (h : RgAt lo lo3 w4 wz v us D R) (hl : us.length ≤ 5000) (hz : lo ≤ wz.heap.size) :
    ∃ A5 c5 w5, (Builtin.append_ #[38, 38] 38 #[v, .slice (some ⟨wz.heap.size, 0, none⟩) 1 1]).run Try.prog (wz.alloc (.cells #[.slice R.A R.l.length R.c] 25)) = .ok (.slice A5 (us.length + 1) c5) w5 ∧ RtAt13 lo w4 w5 (.slice A5 (us.length + 1) c5) (us ++ [R]) D := by
  obtain ⟨A5, c5, w5, h1, h2, h3, h4⟩ := h.o.push R hl hz
  have hk : ∀ (b : Nat) (t : TV), OwnI wz b t → OwnI w5 b t := fun b t ht => rowFrS ht h4 fun s hs hm => own_apart ht h.o (by decide) s hs hm
  refine ⟨A5, c5, w5, h1, ⟨hk _ _ h.d, h2, fun t ht => ?_, h.b.trans h3⟩⟩
  rcases List.mem_append.1 ht with h5 | h5
  · exact ⟨hk _ _ (h.u t h5).1, fun a ha => ((h.u t h5).2 a ha).2⟩
  · rw [List.mem_singleton.1 h5]
    exact ⟨own_mono (hk _ _ h.r) h.le, h.rd⟩
end Go.Proofs.Ytgjjdmkoamjdpaa
