/- The law's awake. -/
import Derived.Test.YtnjljalihjkmcaaDskN
namespace Go.Proofs.Ytnjljalihjkmcaa
open Go.RowKit Go.Maps

/-- Bytes of one byte that was just laid. -/
theorem bytes_one (x : UInt8) (w : World) :
    Calls Try.prog 22 #[.slice (some ⟨w.heap.size, 0, none⟩) 1 1] (w.alloc (.cells #[.int .u8 (x.toNat : Int)] 5)) fun e w' => ∃ g, e = .returned (.slice (some ⟨g, 0, none⟩) 64 64) ∧ w.heap.size < g ∧ g < w'.heap.size ∧ Rd w' w'.heap.size (some ⟨g, 0, none⟩) (u8s (bytesL [x])) ∧ Below w.heap.size w w' := by
  have hs : (w.alloc (.cells #[.int .u8 (x.toNat : Int)] 5)).heap.size = w.heap.size + 1 := by simp
  have hr : Rd (w.alloc (.cells #[.int .u8 (x.toNat : Int)] 5)) (w.heap.size + 1) (some ⟨w.heap.size, 0, none⟩) (u8s [x]) := Rd.new w #[.int .u8 (x.toNat : Int)] 5 (0, 0)
  refine (bytes_any (some ⟨w.heap.size, 0, none⟩) [x] 1 _ _ hr (by omega) (by simp)).mono ?_
  rintro e w' ⟨rfl, hg, hb⟩
  rw [hs] at hg hb
  have hlt := (Array.getElem?_eq_some_iff.1 hg).1
  refine ⟨_, by rw [hs], by omega, hlt, fun _ => ⟨_, 0, rfl, hlt, fun j u hu => ?_⟩, ((Below.refl _ w).alloc (Nat.le_refl _) _).trans ⟨hb.os, hb.tape, hb.output, hb.size, fun k hk => hb.block k (by omega)⟩⟩
  rw [cell_of_row _ _ _ _ _ _ hg]
  simpa using hu
theorem DiskM.alloc {w : World} {p bs bw T : Nat} {M : DM} (h : DiskM w p bs bw M T) (o : Obj) : DiskM (w.alloc o) p bs bw M T := h.kept ((Below.refl _ w).alloc (Nat.le_refl _) o)

theorem writeC {w : World} {p bs bw T : Nat} {M : DM} (h : DiskM w p bs bw M T) (hk : M.Ok T) (i : Int) (g : Nat) (l : List UInt8) (hl : l.length = 64) (B : Nat) (hr : Rd w B (some ⟨g, 0, none⟩) (u8s l)) (hp : g ≠ p) :
    Calls Try.prog 21 #[.pointer (some ⟨p, 0, none⟩), .int .i64 i, .slice (some ⟨g, 0, none⟩) 64 64] w fun e w' => e = .returned (.int .i64 (M.writeE i l)) ∧ DiskM w' p bs bw (M.writeM i l) (T + 1) ∧ Fr w w' [p, bw] := by
  have := writeM h hk i (some ⟨g, 0, none⟩) l 64 B hr (fun a ha => by cases ha; exact hp)
  rw [hl] at this
  exact this
theorem readC {w : World} {p bs bw T : Nat} {M : DM} (h : DiskM w p bs bw M T) (hz : M.size ≤ 4096) {i : Nat} (hi : i < M.size) :
    Calls Try.prog 40 #[.pointer (some ⟨p, 0, none⟩), .int .i64 (i : Int)] w fun e w' => ∃ g, e = .returned (.tuple #[.slice (some ⟨g, 0, none⟩) 64 64, .int .i64 0]) ∧ w.heap.size ≤ g ∧ g < w'.heap.size ∧ Rd w' w'.heap.size (some ⟨g, 0, none⟩) (u8s (M.get i)) ∧ (M.get i).length = 64 ∧ Below w.heap.size w w' := by
  refine (readM h hz hi).mono ?_
  rintro e w' ⟨rfl, rfl, hl⟩
  have hs : (w.alloc (.cells (u8s (M.get i)).toArray 109)).heap.size = w.heap.size + 1 := by simp
  refine ⟨_, rfl, Nat.le_refl _, by omega, ?_, hl, (Below.refl _ w).alloc (Nat.le_refl _) _⟩
  rw [hs]
  exact Rd.new w (u8s (M.get i)).toArray 109 (0, 0)
theorem crash_two {w : World} {p bs bw T : Nat} {M : DM} (h : DiskM w p bs bw M T) (hT : T ≤ 1000000000) :
    Calls Try.prog 24 #[.pointer (some ⟨p, 0, none⟩), .slice (some ⟨w.heap.size, 0, none⟩) 2 2, .int .i64 0, .int .i64 2] (w.alloc (.cells #[.bool false, .bool true] 4)) fun e w' => ∃ p' bs' bw', e = .returned (.pointer (some ⟨p', 0, none⟩)) ∧ w.heap.size ≤ p' ∧ DiskM w' p' bs' bw' (M.crashed [false, true] 0 2) T ∧ Below w.heap.size w w' := by
  have hs : (w.alloc (.cells #[.bool false, .bool true] 4)).heap.size = w.heap.size + 1 := by simp
  refine (crashM (h.alloc _) hT (some ⟨w.heap.size, 0, none⟩) 2 [false, true] 0 2 ?_).mono ?_
  · rw [hs]; exact Rd.new w #[.bool false, .bool true] 4 (0, 0)
  · rintro e w' ⟨p', bs', bw', rfl, b1, _, _, hD, hb⟩
    rw [hs] at b1 hb
    exact ⟨p', bs', bw', rfl, by omega, hD, ((Below.refl _ w).alloc (Nat.le_refl _) _).trans ⟨hb.os, hb.tape, hb.output, hb.size, fun k hk => hb.block k (by omega)⟩⟩
theorem rd_cell {w : World} {B g : Nat} {l : List UInt8} (h : Rd w B (some ⟨g, 0, none⟩) (u8s l)) {k : Nat} {x : UInt8} (hx : l[k]? = some x) : w.cell? ⟨g, k, none⟩ = some (.int .u8 (x.toNat : Int)) := by
  have hk := (List.getElem?_eq_some_iff.1 hx).1
  obtain ⟨b, o, e, _, hc⟩ := h.get (k := k) (by rw [u8s_len]; exact hk)
  cases e
  rw [Nat.zero_add] at hc
  rw [hc, u8s_get l k hk]
  rw [List.getElem?_eq_getElem hk] at hx
  injection hx with hx
  rw [hx]
end Go.Proofs.Ytnjljalihjkmcaa
