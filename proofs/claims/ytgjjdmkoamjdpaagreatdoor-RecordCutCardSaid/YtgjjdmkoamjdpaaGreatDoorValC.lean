/- ValC, what this seat can fill of it. -/
import Derived.Test.YtgjjdmkoamjdpaaGreatDoorProg
import Derived.Test.YtgjjdmkoamjdpaaGreatDoorValB
import Derived.WalkKit
import Derived.WalkSpells
import Derived.WalkLawsBesides
import Derived.Lib.AppendStr
import Derived.Deep.QuietTactic
import Derived.BigQuiet
import Derived.KernelRfl
import Derived.Lib.Hide
namespace Go.Proofs.YtgjjdmkoamjdpaaGreatDoor
/- val.Encode. -/
open Go.RowKit

theorem strCells_eq (s : ByteArray) : Lib.strCells s = u8s s.data.toList := rfl
theorem OwnB.litN {base : Nat} {e : TypeId} (w : World) (l : List UInt8) (hb : base ≤ w.heap.size) (hl : l.length ≤ 1000) : OwnB (w.alloc (.cells (u8s l).toArray e)) base e (.slice (some ⟨w.heap.size, 0, .none⟩) l.length l.length) l := by
  have := World.ownsRow_lit (e := e) (size := 1) w (u8s l).toArray l.length hb (by simp [maxLen]; omega) (by simp [u8s])
  simpa [OwnB] using this

/-- A good value's bytes. -/
def encV (v : VVal) : List UInt8 := if v.kind = 1 then 1 :: digs (foldN v.n) else if v.kind = 3 then [3, UInt8.ofNat v.n.toNat] else 2 :: UInt8.ofNat v.s.size :: v.s.data.toList
def encR (v : VVal) : List UInt8 := if ckN v = 0 then encV v else []

theorem ckN_zero {v : VVal} (h : ckN v = 0) : v.kind = 1 ∨ (v.kind = 3 ∧ (v.n = 0 ∨ v.n = 1)) ∨ (v.kind = 2 ∧ v.s.size ≤ 64 ∧ Lib.validD v.s.data.toList = true) := by
  unfold ckN ctN at h
  split at h
  · exact .inl (by assumption)
  · split at h
    · split at h
      · exact .inr (.inl ⟨by assumption, by assumption⟩)
      · cases h
    · split at h
      · split at h
        · cases h
        · split at h
          · exact .inr (.inr ⟨by assumption, by omega, by assumption⟩)
          · cases h
      · cases h

set_option maxRecDepth 100000 in
set_option maxHeartbeats 2000000 in
theorem encode_any (v : VVal) (w : World) (hf : v.fits) (hT : Tabs w) :
    Calls Tryz.prog 71 #[.agg v.cells] w fun e w' => ∃ v', e = .returned (.tuple #[v', .int .i64 (ckN v)]) ∧ OwnB w' w.heap.size 5 v' (encR v) ∧ Below w.heap.size w w' := by
  obtain ⟨i0, hi, hz0, hz1, hz2⟩ := info_parts infoU8
  have hB : Below w.heap.size w (w.alloc (.cells v.cells 51)) := (Below.refl _ _).alloc (Nat.le_refl _) _
  have hck := check_any v (w.alloc (.cells v.cells 51)) hf (hT.alloc _)
  have hcz := ckN_zero (v := v)
  have henc : encR v = if ckN v = 0 then encV v else [] := rfl
  obtain ⟨x, hx⟩ : ∃ x, x = ckN v := ⟨_, rfl⟩
  rw [← hx] at hck hcz henc ⊢
  clear hx hT
  obtain ⟨k, n, s⟩ := v
  obtain ⟨f0, f1, f2⟩ := hf
  simp only at f0 f1 f2
  simp only [VVal.cells] at hck hB ⊢
  have hblk : (w.alloc (.cells #[.int .i64 k, .int .i64 n, .string s] 51)).heap[w.heap.size]? = some (.cells #[.int .i64 k, .int .i64 n, .string s] 51 (0, 0)) := heap_alloc_new w _
  have hsz : w.heap.size < (w.alloc (.cells #[.int .i64 k, .int .i64 n, .string s] 51)).heap.size := by simp
  have HCK := Lib.hid hck
  have HBL := Lib.hid hblk
  have HSZ := Lib.hid hsz
  have HB := Lib.hid hB
  clear hck hblk hsz hB
  by_cases hx0 : x = 0
  · subst hx0
    have henc' : encR ⟨k, n, s⟩ = encV ⟨k, n, s⟩ := by rw [henc, if_pos rfl]
    rw [henc']
    have HCZ := Lib.hid (hcz rfl)
    clear henc henc' hcz
    go_enter Tryz.func71, Tryz.ntmps71
    go_wp2_with fail
    refine HCK.out.mono ?_
    rintro e w1 ⟨rfl, hb1⟩
    have e0 : w1.cell? ⟨w.heap.size, 0, none⟩ = some (.int .i64 k) := (hb1.cell (p := ⟨w.heap.size, 0, none⟩) HSZ.out).trans (cell_of_row _ _ 0 _ _ _ HBL.out)
    have e1 : w1.cell? ⟨w.heap.size, 1, none⟩ = some (.int .i64 n) := (hb1.cell (p := ⟨w.heap.size, 1, none⟩) HSZ.out).trans (cell_of_row _ _ 1 _ _ _ HBL.out)
    have e2 : w1.cell? ⟨w.heap.size, 2, none⟩ = some (.string s) := (hb1.cell (p := ⟨w.heap.size, 2, none⟩) HSZ.out).trans (cell_of_row _ _ 2 _ _ _ HBL.out)
    have hB1 : Below w.heap.size w w1 := HB.out.trans (hb1.mono (Nat.le_of_lt HSZ.out))
    have hs1 := hB1.size
    have hsx : w.heap.size < w1.heap.size := Nat.lt_of_lt_of_le HSZ.out hb1.size
    obtain ⟨g, hg⟩ : ∃ g, g = w.heap.size := ⟨_, rfl⟩
    rw [← hg] at e0 e1 e2 hs1 hsx ⊢
    have HG := Lib.hid hg
    clear hg hb1
    rcases HCZ.out with h1 | ⟨h3, hn⟩ | ⟨h2, hsl, -⟩
    · replace h1 : k = 1 := h1
      subst h1
      have HE : Hid (encV ⟨1, n, s⟩ = 1 :: digs (foldN n)) := Lib.hid (if_pos rfl)
      have hfl := foldN_lt n f1 f2
      have hfo := fun W => fold_any n W f1 f2
      obtain ⟨F, hF⟩ : ∃ F, F = foldN n := ⟨_, rfl⟩
      rw [← hF] at HE hfl hfo
      have HFO := Lib.hid hfo
      clear hF hfo HCZ
      have hown : OwnB (w1.alloc (.cells #[.int .u8 1] 5)) g 5 (.slice (some ⟨w1.heap.size, 0, none⟩) 1 1) [1] := OwnB.litN w1 [1] (by omega) (by simp)
      go_wp2_with (first
        | (go_at_call 88; (with_reducible refine (HFO.out _).mono ?_); rintro e w' ⟨rfl, rfl⟩)
        | (go_at_call 87; (with_reducible refine (appendDigits_any g _ [1] F _ hown (by simp; omega) (by simp) hfl).mono ?_); rintro e w' ⟨v', rfl, hown', hb'⟩))
      go_ret2
      refine ⟨_, rfl, ?_, ?_⟩
      · rw [HE.out, ← HG.out]; exact hown'
      · rw [← HG.out]; rw [← HG.out] at hB1; exact (hB1.alloc hs1 _).trans hb'
    · replace h3 : k = 3 := h3
      subst h3
      have hnb : n = 0 ∨ n = 1 := hn
      obtain ⟨m, hm, hm1⟩ : ∃ m : Nat, n = (m : Int) ∧ m ≤ 1 := ⟨n.toNat, by omega, by omega⟩
      subst hm
      have HE : Hid (encV ⟨3, (m : Int), s⟩ = [3] ++ [UInt8.ofNat m]) := Lib.hid (by unfold encV; simp)
      have hmb : (UInt8.ofNat m).toNat = m := by rw [UInt8.toNat_ofNat']; omega
      have hown : OwnB (w1.alloc (.cells #[.int .u8 3] 5)) g 5 (.slice (some ⟨w1.heap.size, 0, none⟩) 1 1) [3] := OwnB.litN w1 [3] (by omega) (by simp)
      have hrd : Rd ((w1.alloc (.cells #[.int .u8 3] 5)).alloc (.cells #[.int .u8 (m : Int)] 5)) (w1.heap.size + 1 + 1) (some ⟨w1.heap.size + 1, 0, none⟩) (u8s [UInt8.ofNat m]) := by
        have e : u8s [UInt8.ofNat m] = [.int .u8 (m : Int)] := by simp only [u8s, List.map_cons, List.map_nil, hmb]
        rw [e]
        have := Rd.new (w1.alloc (.cells #[.int .u8 3] 5)) #[.int .u8 (m : Int)] 5 (0, 0)
        simpa using this
      clear hmb HCZ hn hnb
      go_wp2_with (at_builtin; refine wpList_appB _ rfl (.tmp 26) (.tmp 30) _ rfl g 5 i0 _ Tryz.underlying32 hi hz0 hz1 hz2 rfl _ [3] rfl (hown.alloc _) (w1.heap.size + 1 + 1) (some ⟨w1.heap.size + 1, 0, none⟩) 1 1 [UInt8.ofNat m] rfl rfl hrd (by simp) (by simp; omega) ?_; intro v2 w2 hown2 hg2 hat2)
      go_ret2
      refine ⟨_, rfl, ?_, ?_⟩
      · rw [HE.out, ← HG.out]; exact hown2
      · rw [← HG.out]; rw [← HG.out] at hB1; exact ((hB1.alloc hs1 _).alloc (by simp; omega) _).grown hg2 (by simp; omega) (fun k hk => (World.ownsRow.lt hown k hk).1)
    · replace h2 : k = 2 := h2
      replace hsl : s.size ≤ 64 := hsl
      subst h2
      have HE : Hid (encV ⟨2, n, s⟩ = [2] ++ [UInt8.ofNat s.size] ++ s.data.toList) := Lib.hid (by unfold encV; simp)
      have hmb : (UInt8.ofNat s.size).toNat = s.size := by rw [UInt8.toNat_ofNat']; omega
      have hown : OwnB (w1.alloc (.cells #[.int .u8 2] 5)) g 5 (.slice (some ⟨w1.heap.size, 0, none⟩) 1 1) [2] := OwnB.litN w1 [2] (by omega) (by simp)
      have hrd : Rd ((w1.alloc (.cells #[.int .u8 2] 5)).alloc (.cells #[.int .u8 (s.size : Int)] 5)) (w1.heap.size + 1 + 1) (some ⟨w1.heap.size + 1, 0, none⟩) (u8s [UInt8.ofNat s.size]) := by
        have e : u8s [UInt8.ofNat s.size] = [.int .u8 (s.size : Int)] := by simp only [u8s, List.map_cons, List.map_nil, hmb]
        rw [e]
        have := Rd.new (w1.alloc (.cells #[.int .u8 2] 5)) #[.int .u8 (s.size : Int)] 5 (0, 0)
        simpa using this
      have hs255 : (s.size : Int) ≤ 64 := by omega
      have hg1 : g < (w1.alloc (.cells #[.int .u8 2] 5)).heap.size := by simp; omega
      have hgx : ∀ (W' : World), ((w1.alloc (.cells #[.int .u8 2] 5)).alloc (.cells #[.int .u8 (s.size : Int)] 5)).grownBy W' (some w1.heap.size) → W'.cell? ⟨g, 2, none⟩ = some (.string s) := fun W' h => (h.cell (a := ⟨g, 2, none⟩) (v := .string s) (by rw [World.cell?_alloc_lt _ _ _ hg1, World.cell?_alloc_lt _ _ _ hsx]; exact e2) (by intro e; injection e with e; have e' : g = w1.heap.size := e; omega))
      have HGX := Lib.hid hgx
      clear hmb HCZ hgx
      go_wp2_with (first
        | (at_builtin; refine wpList_appB _ rfl (.tmp 32) (.tmp 37) _ rfl g 5 i0 _ Tryz.underlying32 hi hz0 hz1 hz2 rfl _ [2] rfl (hown.alloc _) (w1.heap.size + 1 + 1) (some ⟨w1.heap.size + 1, 0, none⟩) 1 1 [UInt8.ofNat s.size] rfl rfl hrd (by simp) (by simp; omega) ?_; intro v2 w2 hown2 hg2 hat2; have e3 := HGX.out w2 hg2; have hb2 : Below g w1 w2 := (((Below.refl _ _).alloc (by omega) _).alloc (by simp; omega) _).grown hg2 (by simp; omega) (fun k hk => (World.ownsRow.lt hown k hk).1); clear hg2 hat2)
        | (at_builtin; refine Lib.wpList_append_own_string _ rfl (.tmp 39) (.tmp 41) _ _ rfl g 5 i0 Tryz.underlying32 Tryz.underlying9 hi hz0 hz1 hz2 v2 2 (u8s ([2] ++ [UInt8.ofNat s.size])) rfl hown2 s rfl (by simp [maxLen]; omega) (by omega) (by have := hb2.size; omega) ?_; intro v3 w3 hown3 hg3 hat3))
      go_ret2
      refine ⟨_, rfl, ?_, ?_⟩
      · rw [HE.out, ← HG.out]
        unfold OwnB
        rw [u8s_append, ← strCells_eq, List.length_append]
        simpa using hown3
      · rw [← HG.out]; rw [← HG.out] at hB1
        exact (hB1.trans hb2).grown hg3 (by have := hb2.size; omega) (fun k hk => (World.ownsRow.lt hown2 k hk).1)
  · have hx1 : ((x : Int) != 0) = true := by simpa using hx0
    have henc' : encR ⟨k, n, s⟩ = [] := by rw [henc, if_neg hx0]
    rw [henc']
    clear henc henc' hcz hx0
    go_enter Tryz.func71, Tryz.ntmps71
    go_wp2_with fail
    refine HCK.out.mono ?_
    rintro e w1 ⟨rfl, hb1⟩
    go_wp2
    go_ret2
    exact ⟨_, rfl, OwnB.nil _ _ _, HB.out.trans (hb1.mono HB.out.size)⟩
end Go.Proofs.YtgjjdmkoamjdpaaGreatDoor
