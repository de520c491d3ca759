/- Joined: RefE RefF. -/
import Derived.Test.YtajakmfloeefpaaRefD
import Derived.Test.YtajakmfloeefpaaJnC
/- The document's disk: Unsure; whether two lists of numbers are the same. -/
namespace Go.Proofs.Ytajakmfloeefpaa
open Go.RowKit Go.Maps

/-- Those of the first k that are fresh. -/
def upto (F : List Bool) (k : Nat) : List Nat := (List.range k).filter fun i => F.getD i false
theorem upto_succ (F : List Bool) (k : Nat) : upto F (k + 1) = upto F k ++ if F.getD k false then [k] else [] := by
  unfold upto
  rw [List.range_succ, List.filter_append]
  congr 1
  by_cases h : F.getD k false = true
  · rw [if_pos h, List.filter_cons, if_pos h]; rfl
  · rw [if_neg h, List.filter_cons, if_neg h]; rfl
theorem upto_len (F : List Bool) (k : Nat) : (upto F k).length ≤ k := by
  unfold upto
  refine Nat.le_trans (List.length_filter_le _ _) (by simp)

set_option maxRecDepth 100000 in
set_option maxHeartbeats 2000000 in
theorem runsure_any (w : World) (X : List Nat) (R : RD) (v : Value) (h : RefV w X R v) (hn : R.fresh.length ≤ 4096) :
    Calls Try.prog 50 #[v] w fun e w' => ∃ v', e = .returned v' ∧ w'.ownsRow w.heap.size 3 1 v' (upto R.fresh R.fresh.length).length (ints (upto R.fresh R.fresh.length)) ∧ Below w.heap.size w w' := by
  obtain ⟨A1, A2, A3, c1, c2, c3, rfl, h1, h2, h3⟩ := h
  obtain ⟨i0, hi, hz0, hz1, hz2⟩ := info_parts infoInt
  have hb0 : Below w.heap.size w (w.alloc (.cells #[.slice A1 R.sure.length c1, .slice A2 R.now.length c2, .slice A3 R.fresh.length c3, .int .i64 R.steps, .int .i64 R.left] 33)) := (Below.refl _ _).alloc (Nat.le_refl _) _
  have g0 := heap_alloc_new w (.cells #[.slice A1 R.sure.length c1, .slice A2 R.now.length c2, .slice A3 R.fresh.length c3, .int .i64 R.steps, .int .i64 R.left] 33)
  have s0 := alloc1_size w (.cells #[.slice A1 R.sure.length c1, .slice A2 R.now.length c2, .slice A3 R.fresh.length c3, .int .i64 R.steps, .int .i64 R.left] 33)
  have HZ := Lib.hid (And.intro hb0 (And.intro g0 (And.intro s0 (And.intro (h3.below hb0) hn))))
  clear h1 h2 h3 hb0 g0 s0 hn
  go_enter Try.func50, Try.ntmps50
  go_wp2_with go_in
  generalize w.alloc (.cells #[.slice A1 R.sure.length c1, .slice A2 R.now.length c2, .slice A3 R.fresh.length c3, .int .i64 R.steps, .int .i64 R.left] 33) = W at HZ ⊢
  go_loopw [3, 4, 8] (fun o _ i wr => ∃ k : Nat, k ≤ R.fresh.length ∧ i = .int .i64 (k : Int) ∧ wr.ownsRow W.heap.size 3 1 o (upto R.fresh k).length (ints (upto R.fresh k)) ∧ Below W.heap.size W wr)
    (fun _ _ i _ => R.fresh.length - (intOf i).toNat)
  case atStart => exact ⟨0, by omega, rfl, by have := World.ownsRow_nil W W.heap.size 3 1; simpa [upto, ints] using this, Below.refl _ _⟩
  case round =>
    obtain ⟨k, hk, rfl, ho, hb⟩ := hrel
    by_cases hkl : k < R.fresh.length
    · have hkI : (k : Int) < (R.fresh.length : Int) := by omega
      have hkb : (k : Int) < 4096 := by have := HZ.out.2.2.2.2; omega
      have hblk := (hb.block w.heap.size (by rw [HZ.out.2.2.1]; omega)).trans HZ.out.2.1
      have b2 := cell_of_row wr w.heap.size 2 _ _ _ hblk
      obtain ⟨fb, fo, rfl, hfb, hfc⟩ := ((HZ.out.2.2.2.1.below hb).1).get (k := k) (by simpa using hkl)
      have hf : wr.cell? ⟨fb, fo + k, none⟩ = some (.bool R.fresh[k]) := by
        rw [hfc]; simp [bools]
      have hlen := upto_len R.fresh k
      have hup := upto_succ R.fresh k
      have hgd : R.fresh.getD k false = R.fresh[k] := by simp [List.getD, hkl]
      rw [hgd] at hup
      obtain ⟨b, hbe⟩ : ∃ b, b = R.fresh[k] := ⟨_, rfl⟩
      rw [← hbe] at hf hup
      have HX := Lib.hid (And.intro ho (And.intro hb (And.intro hkl hup)))
      obtain ⟨Ao, co, rfl, _, _, _⟩ := own_shape ho
      clear hblk hfc hfb ho hb hup hgd hbe
      cases b with
      | true =>
        have hup := HX.out.2.2.2
        rw [if_pos rfl] at hup
        have HU := Lib.hid hup
        have HN := Lib.hid HZ.out.2.2.2.2
        have HS := Lib.hid HX.out.2.1.size
        have HO := Lib.hid hlen
        clear hup hlen
        go_wp2_with (first
          | (at_builtin; refine wpList_appR _ rfl (.tmp 16) (.tmp 18) _ rfl W.heap.size 3 i0 _ 1 8 Try.underlying70 hi hz0 hz1 hz2 rfl (by omega) (.slice Ao (upto R.fresh k).length co) (upto R.fresh k).length (ints (upto R.fresh k)) rfl (World.ownsRow.alloc HX.out.1 _) (wr.heap.size + 1) (some ⟨wr.heap.size, 0, none⟩) 1 1 [.int .i64 (k : Int)] rfl rfl (Rd.new wr #[.int .i64 (k : Int)] 3 (0, 0)) (by simp [Value.oneCell']) (by have := HO.out; have := HN.out; omega) (by omega) (by have := HS.out; simp; omega) ?_; intro v2 w2 hown2 hg2 hat2)
          | go_in)
        rw [ints_snoc, ← HU.out] at hown2
        have hl : (upto R.fresh k).length + 1 = (upto R.fresh (k + 1)).length := by rw [HU.out]; simp
        rw [hl] at hown2
        refine ⟨⟨k + 1, HX.out.2.2.1, by simp, hown2, ?_⟩, by simp [intOf]; have := HX.out.2.2.1; omega⟩
        exact (HX.out.2.1.alloc HX.out.2.1.size _).trans (grown_below' hg2 (fun j hj => (World.ownsRow.lt HX.out.1 j hj).1) (by have := HS.out; simp; omega))
      | false =>
        have hup := HX.out.2.2.2
        rw [if_neg (by simp), List.append_nil] at hup
        have HU := Lib.hid hup
        clear hup hlen
        go_wp2_with go_in
        refine ⟨⟨k + 1, HX.out.2.2.1, by simp, ?_, HX.out.2.1⟩, by simp [intOf]; have := HX.out.2.2.1; omega⟩
        rw [HU.out]
        exact HX.out.1
    · obtain rfl : k = R.fresh.length := by omega
      have HX := Lib.hid (And.intro ho hb)
      clear ho hb
      go_wp2_with go_in
      go_ret
      exact ⟨_, rfl, own_mono HX.out.1 (by rw [HZ.out.2.2.1]; omega), HZ.out.1.trans (lower' HX.out.2 (by rw [HZ.out.2.2.1]; omega))⟩
end Go.Proofs.Ytajakmfloeefpaa
/- Lists of numbers that are the same. -/
namespace Go.Proofs.Ytajakmfloeefpaa
open Go.RowKit Go.Maps

set_option maxRecDepth 100000 in
set_option maxHeartbeats 2000000 in
theorem ints_same (w : World) (A B : Option Addr) (L : List Nat) (c d b1 b2 : Nat) (h1 : Rd w b1 A (ints L)) (h2 : Rd w b2 B (ints L)) (hb1 : b1 ≤ w.heap.size) (hb2 : b2 ≤ w.heap.size) (hl : L.length ≤ 4096) :
    Calls Try.prog 49 #[.slice A L.length c, .slice B L.length d] w fun e w' => e = .returned (.bool true) ∧ Below w.heap.size w w' := by
  have HH := Lib.hid (And.intro h1 (And.intro h2 (And.intro hb1 (And.intro hb2 hl))))
  clear h1 h2 hb1 hb2 hl
  go_enter Try.func49, Try.ntmps49
  go_wp2_with go_in
  go_loopw [5, 13] (fun _ i wr => ∃ k : Nat, k ≤ L.length ∧ i = .int .i64 (k : Int) ∧ Below w.heap.size w wr)
    (fun _ i _ => L.length - (intOf i).toNat)
  case atStart => exact ⟨0, by omega, rfl, Below.refl _ _⟩
  case round =>
    obtain ⟨k, hk, rfl, hb⟩ := hrel
    by_cases hkl : k < L.length
    · have hkI : (k : Int) < (L.length : Int) := by omega
      have hkb : (k : Int) < 4096 := by have := HH.out.2.2.2.2; omega
      obtain ⟨p1, o1, rfl, hp1, hc1⟩ := HH.out.1.get (k := k) (by simpa using hkl)
      obtain ⟨p2, o2, rfl, hp2, hc2⟩ := HH.out.2.1.get (k := k) (by simpa using hkl)
      have e1 : wr.cell? ⟨p1, o1 + k, none⟩ = some (.int .i64 (L[k] : Int)) := by
        rw [← ints_get L k hkl, ← hc1]; exact hb.cell (p := ⟨p1, o1 + k, none⟩) (by have := HH.out.2.2.1; show p1 < _; omega)
      have e2 : wr.cell? ⟨p2, o2 + k, none⟩ = some (.int .i64 (L[k] : Int)) := by
        rw [← ints_get L k hkl, ← hc2]; exact hb.cell (p := ⟨p2, o2 + k, none⟩) (by have := HH.out.2.2.2.1; show p2 < _; omega)
      obtain ⟨x, hx⟩ : ∃ x, x = L[k] := ⟨_, rfl⟩
      rw [← hx] at e1 e2
      have HB := Lib.hid (And.intro hb hkl)
      clear hb hkl hc1 hc2 hp1 hp2 hx
      go_upto_region 6 with go_in
      go_quiet (fail)
      go_wp2_with go_in
      exact ⟨⟨k + 1, HB.out.2, by simp, Below.drewN' HB.out.1 _⟩, by simp [intOf]; have := HB.out.2; omega⟩
    · obtain rfl : k = L.length := by omega
      have HB := Lib.hid hb
      clear hb
      go_wp2_with go_in
      go_ret
      exact ⟨rfl, HB.out⟩
end Go.Proofs.Ytajakmfloeefpaa
