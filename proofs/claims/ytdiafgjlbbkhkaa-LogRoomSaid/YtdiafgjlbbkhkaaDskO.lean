/- The law's awake. -/
import Derived.Test.YtdiafgjlbbkhkaaDskN
namespace Go.Proofs.Ytdiafgjlbbkhkaa
open Go.RowKit Go.Maps

/-- Bytes of one byte that was just laid. -/
theorem bytes_one (x : UInt8) (w : World) :
    Calls Try.prog 24 #[.slice (some ⟨w.heap.size, 0, none⟩) 1 1] (w.alloc (.cells #[.int .u8 (x.toNat : Int)] 5)) fun e w' => ∃ g, e = .returned (.slice (some ⟨g, 0, none⟩) 64 64) ∧ w.heap.size < g ∧ g < w'.heap.size ∧ Rd w' w'.heap.size (some ⟨g, 0, none⟩) (u8s (bytesL [x])) ∧ Below w.heap.size w w' := by
  have hs : (w.alloc (.cells #[.int .u8 (x.toNat : Int)] 5)).heap.size = w.heap.size + 1 := by simp
  have hr : Rd (w.alloc (.cells #[.int .u8 (x.toNat : Int)] 5)) (w.heap.size + 1) (some ⟨w.heap.size, 0, none⟩) (u8s [x]) := Rd.new w #[.int .u8 (x.toNat : Int)] 5 (0, 0)
  refine (bytes_any (some ⟨w.heap.size, 0, none⟩) [x] 1 _ _ hr (by omega) (by simp)).mono ?_
  rintro e w' ⟨rfl, hg, hb⟩
  rw [hs] at hg hb
  have hlt := (Array.getElem?_eq_some_iff.1 hg).1
  refine ⟨_, by rw [hs], by omega, hlt, fun _ => ⟨_, 0, rfl, hlt, fun j u hu => ?_⟩, ((Below.refl _ w).alloc (Nat.le_refl _) _).trans ⟨hb.os, hb.tape, hb.output, hb.size, fun k hk => hb.block k (by omega)⟩⟩
  rw [cell_of_row _ _ _ _ _ _ hg]
  simpa using hu
theorem DiskM.alloc {w : World} {p bs bw T : Nat} {M : DM} (h : DiskM w p bs bw M T) (o : Obj) : DiskM (w.alloc o) p bs bw M T := h.kept ((Below.refl _ w).alloc (Nat.le_refl _) o)

theorem writeC {w : World} {p bs bw T : Nat} {M : DM} (h : DiskM w p bs bw M T) (hk : M.Ok T) (i : Int) (g : Nat) (l : List UInt8) (hl : l.length = 64) (B : Nat) (hr : Rd w B (some ⟨g, 0, none⟩) (u8s l)) (hp : g ≠ p) :
    Calls Try.prog 23 #[.pointer (some ⟨p, 0, none⟩), .int .i64 i, .slice (some ⟨g, 0, none⟩) 64 64] w fun e w' => e = .returned (.int .i64 (M.writeE i l)) ∧ DiskM w' p bs bw (M.writeM i l) (T + 1) ∧ Fr w w' [p, bw] := by
  have := writeM h hk i (some ⟨g, 0, none⟩) l 64 B hr (fun a ha => by cases ha; exact hp)
  rw [hl] at this
  exact this
theorem readC {w : World} {p bs bw T : Nat} {M : DM} (h : DiskM w p bs bw M T) (hz : M.size ≤ 4096) {i : Nat} (hi : i < M.size) :
    Calls Try.prog 25 #[.pointer (some ⟨p, 0, none⟩), .int .i64 (i : Int)] w fun e w' => ∃ g, e = .returned (.tuple #[.slice (some ⟨g, 0, none⟩) 64 64, .int .i64 0]) ∧ w.heap.size ≤ g ∧ g < w'.heap.size ∧ Rd w' w'.heap.size (some ⟨g, 0, none⟩) (u8s (M.get i)) ∧ (M.get i).length = 64 ∧ Below w.heap.size w w' := by
  refine (readM h hz hi).mono ?_
  rintro e w' ⟨rfl, rfl, hl⟩
  have hs : (w.alloc (.cells (u8s (M.get i)).toArray 111)).heap.size = w.heap.size + 1 := by simp
  refine ⟨_, rfl, Nat.le_refl _, by omega, ?_, hl, (Below.refl _ w).alloc (Nat.le_refl _) _⟩
  rw [hs]
  exact Rd.new w (u8s (M.get i)).toArray 111 (0, 0)
theorem crash_two {w : World} {p bs bw T : Nat} {M : DM} (h : DiskM w p bs bw M T) (hT : T ≤ 1000000000) :
    Calls Try.prog 21 #[.pointer (some ⟨p, 0, none⟩), .slice (some ⟨w.heap.size, 0, none⟩) 2 2, .int .i64 0, .int .i64 2] (w.alloc (.cells #[.bool false, .bool true] 4)) fun e w' => ∃ p' bs' bw', e = .returned (.pointer (some ⟨p', 0, none⟩)) ∧ w.heap.size ≤ p' ∧ DiskM w' p' bs' bw' (M.crashed [false, true] 0 2) T ∧ Below w.heap.size w w' := by
  have hs : (w.alloc (.cells #[.bool false, .bool true] 4)).heap.size = w.heap.size + 1 := by simp
  refine (crashM (h.alloc _) hT (some ⟨w.heap.size, 0, none⟩) 2 [false, true] 0 2 ?_).mono ?_
  · rw [hs]; exact Rd.new w #[.bool false, .bool true] 4 (0, 0)
  · rintro e w' ⟨p', bs', bw', rfl, b1, _, _, hD, hb⟩
    rw [hs] at b1 hb
    exact ⟨p', bs', bw', rfl, by omega, hD, ((Below.refl _ w).alloc (Nat.le_refl _) _).trans ⟨hb.os, hb.tape, hb.output, hb.size, fun k hk => hb.block k (by omega)⟩⟩
theorem rd_cell {w : World} {B g : Nat} {l : List UInt8} (h : Rd w B (some ⟨g, 0, none⟩) (u8s l)) {k : Nat} {x : UInt8} (hx : l[k]? = some x) : w.cell? ⟨g, k, none⟩ = some (.int .u8 (x.toNat : Int)) := by
  have hk := (List.getElem?_eq_some_iff.1 hx).1
  obtain ⟨b, o, e, _, hc⟩ := h.get (k := k) (by rw [u8s_len]; exact hk)
  cases e
  rw [Nat.zero_add] at hc
  rw [hc, u8s_get l k hk]
  rw [List.getElem?_eq_getElem hk] at hx
  injection hx with hx
  rw [hx]
def aw0 : DM := DM.new 2
def aw1 : DM := aw0.writeM 1 (bytesL [1])
def aw2 : DM := aw1.writeM 0 (bytesL [1])
def aw3 : DM := aw2.crashed [false, true] 0 2
theorem aw_facts : aw0.writeE 1 (bytesL [1]) = 0 ∧ aw1.writeE 0 (bytesL [1]) = 0 ∧ aw3.size = 2 ∧ aw1.steps = 1 ∧ aw1.left = 0 ∧ aw1.size = 2 := by decide +kernel
theorem aw_bytes : (aw3.get 0)[1]? = some 1 ∧ (aw3.get 0)[2]? = some 0 ∧ (aw3.get 1)[63]? = some 1 := by decide +kernel

set_option maxRecDepth 100000 in
set_option maxHeartbeats 2000000 in
theorem awake_any (w : World) : Calls Try.prog 16 #[] w fun e w' => e = .returned (.bool true) ∧ Below w.heap.size w w' := by
  have H1 := Lib.hid (newM 2 w (by omega) (by omega))
  go_enter Try.func16, Try.ntmps16
  have tok1 : True := trivial
  have tok2 : True := trivial
  have tok3 : True := trivial
  go_wp2_with (first
    | (go_at_call 17; (refine H1.out.mono ?_); rintro e w1 ⟨rfl, hD, hF⟩)
    | (go_at_call 24; have _t := tok1; (refine (bytes_one 1 w1).mono ?_); rintro e w2 ⟨g, rfl, hg1, hg2, hr, hb⟩; clear _t)
    | (go_at_call 23; have _t := tok1; (refine (writeC (M := aw0) (hD.kept hb) ⟨by decide, by decide, by decide, by omega⟩ 1 g (bytesL [1]) (bytesL_len _) _ hr (by have := hD.lt; omega)).mono ?_); rintro e w3 ⟨he, hD3, hF3⟩; rw [aw_facts.1] at he; subst he; clear tok1 _t)
    | (go_at_call 24; have _t := tok2; (refine (bytes_one 1 w3).mono ?_); rintro e w4 ⟨g', rfl, hg3, hg4, hr', hb'⟩; clear _t)
    | (go_at_call 23; have _t := tok2; (refine (writeC (M := aw1) (hD3.kept hb') ⟨by decide +kernel, by decide +kernel, by decide +kernel, by omega⟩ 0 g' (bytesL [1]) (bytesL_len _) _ hr' (by have := hD3.lt; omega)).mono ?_); rintro e w5 ⟨he, hD5, hF5⟩; rw [aw_facts.2.1] at he; subst he; clear tok2 _t)
    | (go_at_call 21; (refine (crash_two (M := aw2) hD5 (by omega)).mono ?_); rintro e w6 ⟨p', bs', bw', rfl, hp', hD6, hb6⟩)
    | (go_at_call 25; have _t := tok3; (refine (readC (M := aw3) (i := 0) hD6 (by decide +kernel) (by decide +kernel)).mono ?_); rintro e w7 ⟨gA, rfl, hA1, hA2, hrA, _, hb7⟩; clear tok3 _t)
    | (go_at_call 25; (refine (readC (M := aw3) (i := 1) (hD6.kept hb7) (by decide +kernel) (by decide +kernel)).mono ?_); rintro e w8 ⟨gB, rfl, hB1, hB2, hrB, _, hb8⟩; have c1 : w8.cell? ⟨gA, 1, none⟩ = some (.int .u8 1) := rd_cell (hrA.below hb8 (Nat.le_refl _)) aw_bytes.1; have c2 : w8.cell? ⟨gA, 2, none⟩ = some (.int .u8 0) := rd_cell (hrA.below hb8 (Nat.le_refl _)) aw_bytes.2.1; have c3 : w8.cell? ⟨gB, 63, none⟩ = some (.int .u8 1) := rd_cell hrB aw_bytes.2.2)
    | go_in)
  go_ret
  refine ⟨rfl, ?_⟩
  have l1 := hD.lt
  have f1 := hF.below (B := w.heap.size) (Nat.le_refl _) (by simp)
  have z1 := f1.size
  have z2 := hb.size
  have f3 := hF3.below (B := w.heap.size) (by omega) (by simp)
  have z3 := hF3.size
  have z4 := hb'.size
  have f5 := hF5.below (B := w.heap.size) (by omega) (by simp)
  have z5 := hF5.size
  have z6 := hb6.size
  have z7 := hb7.size
  have lower : ∀ {B : Nat} {a b : World}, Below B a b → w.heap.size ≤ B → Below w.heap.size a b := fun h hB => ⟨h.os, h.tape, h.output, h.size, fun k hk => h.block k (by omega)⟩
  exact f1.trans ((lower hb (by omega)).trans (f3.trans ((lower hb' (by omega)).trans (f5.trans ((lower hb6 (by omega)).trans ((lower hb7 (by omega)).trans (lower hb8 (by omega))))))))
end Go.Proofs.Ytdiafgjlbbkhkaa
