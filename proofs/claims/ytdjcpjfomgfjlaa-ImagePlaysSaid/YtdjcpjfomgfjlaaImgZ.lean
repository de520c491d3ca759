/- What ImagePlays goes from call to call with: a disk, an image on it, and beside it the document's disk. -/
import Derived.Test.YtdjcpjfomgfjlaaImgY
import Derived.Test.YtdjcpjfomgfjlaaImgL
namespace Go.Proofs.Ytdjcpjfomgfjlaa
open Go.RowKit Go.Maps

theorem BoxD.rload {W0 wr : World} {bx p bs bw N T : Nat} {M : DM} (h : BoxD W0 wr bx p bs bw N T M M) {A1 A2 A3 : Option Addr} {n1 n2 n3 c1 c2 c3 : Nat} {s l : Int} (hv : RefV wr [bx, p, bs, bw] (refOf M) (.agg #[.slice A1 n1 c1, .slice A2 n2 c2, .slice A3 n3 c3, .int .i64 s, .int .i64 l])) {first count : Nat} (hfit : first + 2 * count ≤ N) (hN : N ≤ 4096) (hc2 : 2 ≤ count) :
    Calls Try.prog 34 #[.agg #[.slice A1 n1 c1, .slice A2 n2 c2, .slice A3 n3 c3, .int .i64 s, .int .i64 l], .int .i64 (first : Int), .int .i64 (count : Int)] wr fun e w' => e = .returned (loadV (imgOf M.get first count)) ∧ Below wr.heap.size wr w' := by
  obtain ⟨B1, B2, B3, d1, d2, d3, he, h1, h2, h3⟩ := hv
  have hn : n2 = N ∧ A2 = B2 ∧ c2 = d2 := by
    have he' := he
    simp only [Value.agg.injEq] at he'
    have h2 := congrArg (fun a : Array Value => a[1]?) he'
    simp at h2
    exact ⟨h2.2.1.trans ((refOf_len M).trans h.sizeM), h2.1, h2.2.2⟩
  obtain ⟨rfl, rfl, rfl⟩ := hn
  have hM := h.sizeM
  exact rload_any M.get n2 first count _ _ s l A2 c2 wr.heap.size wr (by rw [← hM]; exact h2.1) (Nat.le_refl _) (fun i hi => (h.disk.full i (by omega)).2) hfit hN hc2
/-- A new disk, and the document's in a new block. -/
theorem BoxD.new {W0 w1 w2 w3 : World} {m : Nat} (h1 : 1 ≤ m) (h2 : m ≤ 40) (hz : W0.heap.size ≤ w1.heap.size) (hb2 : Below W0.heap.size W0 w2) (hD : DiskM w2 (w1.heap.size + 2) w1.heap.size (w1.heap.size + 1) (DM.new m) 0) (hb3 : Below w2.heap.size w2 w3) {A1 A2 A3 : Option Addr} {n1 n2 n3 c1 c2 c3 : Nat} {s l : Int}
    (hR : RefV w3 [w1.heap.size + 2, w1.heap.size, w1.heap.size + 1] (RD.new m) (.agg #[.slice A1 n1 c1, .slice A2 n2 c2, .slice A3 n3 c3, .int .i64 s, .int .i64 l])) :
    BoxD W0 (w3.alloc (.cells #[.slice A1 n1 c1, .slice A2 n2 c2, .slice A3 n3 c3, .int .i64 s, .int .i64 l] 33)) w3.heap.size (w1.heap.size + 2) w1.heap.size (w1.heap.size + 1) m 0 (DM.new m) (DM.new m) := by
  have ha : Below w3.heap.size w3 (w3.alloc (.cells #[.slice A1 n1 c1, .slice A2 n2 c2, .slice A3 n3 c3, .int .i64 s, .int .i64 l] 33)) := (Below.refl _ _).alloc (Nat.le_refl _) _
  have hl := hD.lt
  have z3 := hb3.size
  rw [← refOf_new] at hR
  have hR2 := (((hR.ext (Y := [w3.heap.size]) h1 (by simp)).sub (Y := [w3.heap.size, w1.heap.size + 2, w1.heap.size, w1.heap.size + 1]) (by simp)).below ha)
  have ok : (DM.new m).Ok 0 := ⟨by show m ≤ _; omega, by show 0 ≤ _; omega, by show 0 ≤ _; omega, by omega⟩
  exact ⟨⟨_, _, _, _, _, _, _, _, _, _, _, heap_alloc_new w3 _, hR2⟩, (hD.kept hb3).kept ha, ok, ok, rfl, rfl, Nat.le_refl _, Nat.le_refl _, h1, by omega, by have := hb2.size; omega, hb2.trans ((lower' hb3 hb2.size).trans (lower' ha (by have := hb2.size; omega)))⟩


section
variable {W0 wr w' : World} {bx p bs bw q N T first count : Nat} {M R : DM}
/-- The disk has gone on, the document's not yet. -/
theorem BoxD.turned (h : BoxD W0 wr bx p bs bw N T M M) {M' : DM} {T' : Nat} (hD : DiskM w' p bs bw M' T') (hf : Fr wr w' [p, bs, bw]) (hT : T ≤ T') (hT' : T' ≤ 1000000000) (hs : M'.size = M.size) (hst : M'.steps ≤ T') (hl : M'.left ≤ 9223372036854775807) : BoxD W0 w' bx p bs bw N T' M' M := by
  obtain ⟨A1, A2, A3, n1, n2, n3, c1, c2, c3, s, l, hg, hv⟩ := h.box
  have ho := h.off
  have h1 := h.okM
  have h2 := h.stepsM
  exact ⟨⟨A1, A2, A3, n1, n2, n3, c1, c2, c3, s, l, (hf.block bx (heap_lt hg) (by simp; omega)).trans hg, hv.fr hf (by simp)⟩, hD, ⟨by rw [hs]; exact h1.size, by omega, hl, hT'⟩, ⟨h1.size, h1.steps, h1.left, hT'⟩, hs.trans h.sizeM, h.sizeR, hst, by omega, h.pos, h.off, h.low,
    h.below.trans (hf.below h.below.size (by have := h.low; simp; omega))⟩
/-- Behind a crash: new blocks. -/
theorem BoxD.crashed (h : BoxD W0 wr bx p bs bw N T M M) {p' bs' bw' : Nat} (h1 : wr.heap.size ≤ p') (h2 : wr.heap.size ≤ bs') (h3 : wr.heap.size ≤ bw') (keep : List Bool) (torn cut : Int) (hD : DiskM w' p' bs' bw' (M.crashed keep torn cut) T) (hb : Below wr.heap.size wr w') : BoxD W0 w' bx p' bs' bw' N T (M.crashed keep torn cut) M := by
  obtain ⟨A1, A2, A3, n1, n2, n3, c1, c2, c3, s, l, hg, hv⟩ := h.box
  have hlt := heap_lt hg
  have hz := h.below.size
  have hpos : 0 < M.size := by rw [h.sizeM]; exact h.pos
  have hv2 := (hv.ext (Y := [p', bs', bw']) hpos (by simp; omega)).sub (Y := [bx, p', bs', bw']) (by simp)
  exact ⟨⟨A1, A2, A3, n1, n2, n3, c1, c2, c3, s, l, (hb.block bx hlt).trans hg, hv2.below hb⟩, hD, ⟨h.okM.size, Nat.zero_le _, Nat.zero_le _, h.okM.T⟩, h.okR, h.sizeM, h.sizeR, Nat.zero_le _, h.stepsR, h.pos, ⟨by omega, by omega, by omega⟩, ⟨by omega, by omega, by omega, h.low.2.2.2⟩, h.below.trans (lower' hb hz)⟩
/-- The document's calls, of the disk in the box. -/
theorem BoxD.rarm (_h : BoxD W0 wr bx p bs bw N T M R) {v : Value} (hv : RefV wr [bx, p, bs, bw] (refOf R) v) (n : Int) :
    Calls Try.prog 16 #[v, .int .i64 n] wr fun e w' => ∃ B1 B2 B3 m1 m2 m3 d1 d2 d3 s l, e = .returned (.tuple #[.agg #[.slice B1 m1 d1, .slice B2 m2 d2, .slice B3 m3 d3, .int .i64 s, .int .i64 l], .int .i64 (R.armE n)]) ∧ RefV w' [bx, p, bs, bw] (refOf (R.armM n)) (.agg #[.slice B1 m1 d1, .slice B2 m2 d2, .slice B3 m3 d3, .int .i64 s, .int .i64 l]) ∧ Below wr.heap.size wr w' := by
  refine (rarm_any wr [bx, p, bs, bw] (refOf R) v hv n).mono ?_
  rintro e w' ⟨v', rfl, hR, hb⟩
  rw [(refOf_arm R n).1]
  rw [(refOf_arm R n).2] at hR
  have hR' := hR
  obtain ⟨A1, A2, A3, c1, c2, c3, rfl, _, _, _⟩ := hR'
  exact ⟨_, _, _, _, _, _, _, _, _, _, _, rfl, hR, hb⟩
theorem BoxD.rsave (h : BoxD W0 wr bx p bs bw N T M R) {v : Value} (hv : RefV wr [bx, p, bs, bw] (refOf R) v) (hful : R.full) (hst : R.steps + 5000 ≤ 1000000000) (hfit : first + 2 * count ≤ N) (hc2 : 2 ≤ count) (s : Int) (d : List UInt8) :
    Calls Try.prog 32 #[v, .int .i64 (first : Int), .int .i64 (count : Int), .int .i64 s, .string ⟨d.toArray⟩] wr fun e w' => ∃ B1 B2 B3 m1 m2 m3 d1 d2 d3 s' l, e = .returned (.tuple #[.agg #[.slice B1 m1 d1, .slice B2 m2 d2, .slice B3 m3 d3, .int .i64 s', .int .i64 l], .int .i64 (saveR R first count s d).1]) ∧ RefV w' [bx, p, bs, bw] (refOf (saveR R first count s d).2) (.agg #[.slice B1 m1 d1, .slice B2 m2 d2, .slice B3 m3 d3, .int .i64 s', .int .i64 l]) ∧ Below wr.heap.size wr w' := by
  have hl := h.disk.lt
  have hx := h.lt
  refine (rsave_any wr [bx, p, bs, bw] R T v hv h.okR hst (by simp; omega) hful first count (by rw [h.sizeR]; exact hfit) hc2 s d).mono ?_
  rintro e w' ⟨v', rfl, hR, hb⟩
  have hR' := hR
  obtain ⟨A1, A2, A3, c1, c2, c3, rfl, _, _, _⟩ := hR'
  exact ⟨_, _, _, _, _, _, _, _, _, _, _, rfl, hR, hb⟩
theorem BoxD.rcrash (h : BoxD W0 wr bx p bs bw N T M R) {v : Value} (hv : RefV wr [bx, p, bs, bw] (refOf R) v) (hful : R.full) (A : Option Addr) (keep : List Bool) (c : Nat) (hr : Rd wr wr.heap.size A (keep.map Value.bool)) (torn cut : Int) :
    Calls Try.prog 21 #[v, .slice A keep.length c, .int .i64 torn, .int .i64 cut] wr fun e w' => ∃ B1 B2 B3 m1 m2 m3 d1 d2 d3 s l, e = .returned (.agg #[.slice B1 m1 d1, .slice B2 m2 d2, .slice B3 m3 d3, .int .i64 s, .int .i64 l]) ∧ RefV w' [bx, p, bs, bw] (refOf (R.crashed keep torn cut)) (.agg #[.slice B1 m1 d1, .slice B2 m2 d2, .slice B3 m3 d3, .int .i64 s, .int .i64 l]) ∧ Below wr.heap.size wr w' := by
  have hl := h.disk.lt
  have hx := h.lt
  refine (rcrash_any wr [bx, p, bs, bw] (refOf R) v hv (refOf_ok h.okR) (by simp; omega) (refOf_full hful).1 (refOf_full hful).2 A keep c hr torn cut).mono ?_
  rintro e w' ⟨v', rfl, hR, hb⟩
  rw [refOf_crashed] at hR
  have hR' := hR
  obtain ⟨A1, A2, A3, c1, c2, c3, rfl, _, _, _⟩ := hR'
  exact ⟨_, _, _, _, _, _, _, _, _, _, _, rfl, hR, hb⟩
theorem arm_facts (M : DM) (n : Int) (hn : n ≤ 9223372036854775807) (hl : M.left ≤ 9223372036854775807) : (M.armM n).size = M.size ∧ (M.armM n).steps = M.steps ∧ (M.armM n).left ≤ 9223372036854775807 := by
  unfold DM.armM
  split
  · exact ⟨rfl, rfl, hl⟩
  · split
    · exact ⟨rfl, rfl, hl⟩
    · exact ⟨rfl, rfl, by show n.toNat ≤ _; omega⟩
/-- All that lasts from call to call. -/
structure St (W0 wr : World) (bx p bs bw q N T first count : Nat) (M R : DM) : Prop where
  box : BoxD W0 wr bx p bs bw N T M R
  img : ImgD wr q p bs bw T first count M
  qb : q ≠ bx
  ql : W0.heap.size ≤ q
theorem St.kept (h : St W0 wr bx p bs bw q N T first count M R) (hb : Below wr.heap.size wr w') : St W0 w' bx p bs bw q N T first count M R := ⟨h.box.kept hb, h.img.below hb, h.qb, h.ql⟩
theorem St.turned (h : St W0 wr bx p bs bw q N T first count M M) {M' : DM} {T' : Nat} (hD : DiskM w' p bs bw M' T') (hf : Fr wr w' [p, bs, bw]) (hT : T ≤ T') (hT' : T' ≤ 1000000000) (hs : M'.size = M.size) (hst : M'.steps ≤ T') (hl : M'.left ≤ 9223372036854775807) : St W0 w' bx p bs bw q N T' first count M' M :=
  ⟨h.box.turned hD hf hT hT' hs hst hl, h.img.fr hf (by have := h.img.ap; simp; omega) hD hs, h.qb, h.ql⟩
theorem St.put (h : St W0 wr bx p bs bw q N T first count M R) (hb : Below wr.heap.size wr w') {B1 B2 B3 : Option Addr} {m1 m2 m3 d1 d2 d3 : Nat} {s l : Int} (hR : RefV w' [bx, p, bs, bw] (refOf M) (.agg #[.slice B1 m1 d1, .slice B2 m2 d2, .slice B3 m3 d3, .int .i64 s, .int .i64 l])) :
    St W0 (((((w'.setCell ⟨bx, 0, none⟩ (.slice B1 m1 d1)).setCell ⟨bx, 1, none⟩ (.slice B2 m2 d2)).setCell ⟨bx, 2, none⟩ (.slice B3 m3 d3)).setCell ⟨bx, 3, none⟩ (.int .i64 s)).setCell ⟨bx, 4, none⟩ (.int .i64 l)) bx p bs bw q N T first count M M := by
  have hf : Fr w' (((((w'.setCell ⟨bx, 0, none⟩ (.slice B1 m1 d1)).setCell ⟨bx, 1, none⟩ (.slice B2 m2 d2)).setCell ⟨bx, 2, none⟩ (.slice B3 m3 d3)).setCell ⟨bx, 3, none⟩ (.int .i64 s)).setCell ⟨bx, 4, none⟩ (.int .i64 l)) [bx] := (((((Fr.refl _ _).setCell (by simp) _).setCell (by simp) _).setCell (by simp) _).setCell (by simp) _).setCell (by simp) _
  have hB := h.box.put hb hR
  exact ⟨hB, (h.img.below hb).fr hf (by have := h.qb; simp; omega) hB.disk rfl, h.qb, h.ql⟩
end
end Go.Proofs.Ytdjcpjfomgfjlaa
