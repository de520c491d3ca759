/- Joined: LogI LogJ LogK LogL LogM LogN. -/
import Derived.Test.YtajakmfloeefpaaJnE
import Derived.Laws.CopyOwn
import Derived.Deep.RegionLaw
/- dirty, wipe. -/
namespace Go.Proofs.Ytajakmfloeefpaa
open Go.RowKit Go.Maps

theorem equal_b (A1 A2 : Option Addr) (l1 l2 : List UInt8) (n1 n2 c1 c2 B1 B2 : Nat) (b : Bool) (w : World) (h1 : Rd w B1 A1 (u8s l1)) (h2 : Rd w B2 A2 (u8s l2)) (hn1 : n1 = l1.length) (hn2 : n2 = l2.length) (hb : Hid ((l1 == l2) = b)) :
    Calls Try.prog 56 #[.slice A1 n1 c1, .slice A2 n2 c2] w fun e w' => e = .returned (.bool b) ∧ w = w' := by
  have := equal_any A1 A2 l1 l2 n1 n2 c1 c2 B1 B2 w h1 h2 hn1 hn2
  rw [hb.out] at this
  exact this
theorem rd_zero (W : World) : Rd (W.alloc (.cells (u8s zero64).toArray 5)) (W.heap.size + 1) (some ⟨W.heap.size, 0, none⟩) (u8s zero64) := Rd.new W (u8s zero64).toArray 5 (0, 0)
/-- The sectors from one on, up to another, that aren't zeros. -/
def dirtyL (g : Nat → List UInt8) (a k : Nat) : List Nat := ((List.range k).map fun i => a + i).filter fun i => !(g i == zero64)
theorem dirtyL_succ (g : Nat → List UInt8) (a k : Nat) : dirtyL g a (k + 1) = dirtyL g a k ++ if (g (a + k) == zero64) = true then [] else [a + k] := by
  unfold dirtyL
  rw [List.range_succ, List.map_append, List.filter_append]
  congr 1
  by_cases h : (g (a + k) == zero64) = true
  · simp [h]
  · simp [h]
theorem dirtyL_len (g : Nat → List UInt8) (a k : Nat) : (dirtyL g a k).length ≤ k := by
  unfold dirtyL
  refine Nat.le_trans (List.length_filter_le _ _) (by simp)
theorem dirtyL_mem {g : Nat → List UInt8} {a k i : Nat} (h : i ∈ dirtyL g a k) : a ≤ i ∧ i < a + k := by
  unfold dirtyL at h
  obtain ⟨h1, _⟩ := List.mem_filter.1 h
  obtain ⟨j, hj, rfl⟩ := List.mem_map.1 h1
  have := List.mem_range.1 hj
  omega
theorem dirtyL_not {g : Nat → List UInt8} {a k i : Nat} (h1 : a ≤ i) (h2 : i < a + k) (h : i ∉ dirtyL g a k) : g i = zero64 := by
  have : (g i == zero64) = true := by
    cases hb : (g i == zero64) with
    | true => rfl
    | false =>
      exfalso; apply h
      unfold dirtyL
      refine List.mem_filter.2 ⟨List.mem_map.2 ⟨i - a, List.mem_range.2 (by omega), by omega⟩, by simp [hb]⟩
  exact beq_iff_eq.1 this
def LG.dirty (L : LG) (M : DM) : List Nat := dirtyL M.get L.endd (L.behind - L.endd)

set_option maxRecDepth 100000 in
set_option maxHeartbeats 4000000 in
theorem dirty_any {w : World} {base q p bs bw T : Nat} {L : LG} {v : Value} {M : DM} (h : LogAt w base q p L v) (hD : DiskM w p bs bw M T) (hz : M.size ≤ 4096) (hbm : L.behind ≤ M.size) :
    Calls Try.prog 30 #[.pointer (some ⟨q, 0, none⟩)] w fun e w' => ∃ v', e = .returned v' ∧ w'.ownsRow w.heap.size 3 1 v' (L.dirty M).length (ints (L.dirty M)) ∧ Below w.heap.size w w' := by
  obtain ⟨i0, hi, hz0, hz1, hz2⟩ := info_parts infoInt
  have hblk := h.blk
  unfold LG.cells at hblk
  have a3 := cell_of_row w q 3 _ _ _ hblk
  obtain ⟨K, hK⟩ : ∃ K, K = L.behind - L.endd := ⟨_, rfl⟩
  have hend := h.ok.endd
  have HH := Lib.hid (And.intro h (And.intro hD (And.intro hz (And.intro hbm (And.intro hK hend)))))
  clear h hblk hD hz hbm hK hend
  go_enter Try.func30, Try.ntmps30
  go_wp2_with go_in
  go_loopw [3, 4] (fun u i wr => ∃ k : Nat, k ≤ K ∧ i = .int .i64 ((L.endd : Int) + (k : Int)) ∧ wr.ownsRow w.heap.size 3 1 u (dirtyL M.get L.endd k).length (ints (dirtyL M.get L.endd k)) ∧ Below w.heap.size w wr)
    (fun _ i _ => K - (intOf i - (L.endd : Int)).toNat)
  case atStart => exact ⟨0, by omega, by simp, by have := World.ownsRow_nil w w.heap.size 3 1; simpa [ints, dirtyL] using this, Below.refl _ _⟩
  case round =>
    obtain ⟨k, hk, rfl, ho, hb⟩ := hrel
    have hblk := (HH.out.1.kept hb).blk
    unfold LG.cells at hblk
    have a2 := cell_of_row wr q 2 _ _ _ hblk
    have hbe : (L.behind : Int) ≤ 4096 := by have := HH.out.2.2.1; have := HH.out.2.2.2.1; omega
    by_cases hkl : k < K
    · have hkI : (L.endd : Int) + (k : Int) < (L.behind : Int) := by have := HH.out.2.2.2.2.1; omega
      have hsc := fun (W : World) (hW : Below wr.heap.size wr W) => sector_any ((HH.out.1.kept hb).kept hW) ((HH.out.2.1.kept hb).kept hW) HH.out.2.2.1 (i := L.endd + k) (by have := HH.out.2.2.2.1; have := HH.out.2.2.2.2.1; omega)
      have hcast : (((L.endd + k : Nat)) : Int) = (L.endd : Int) + (k : Int) := by omega
      rw [hcast] at hsc
      have hsn := dirtyL_succ M.get L.endd k
      have hlen := dirtyL_len M.get L.endd k
      obtain ⟨l, hl⟩ : ∃ l, l = M.get (L.endd + k) := ⟨_, rfl⟩
      rw [← hl] at hsc hsn
      have hKb : K ≤ 4096 := by have := HH.out.2.2.1; have := HH.out.2.2.2.1; have := HH.out.2.2.2.2.1; omega
      have HSC := Lib.hid hsc
      have HX := Lib.hid (And.intro ho (And.intro hb (And.intro hkl (And.intro hsn (And.intro hlen (And.intro hKb hcast))))))
      obtain ⟨Ao, co, rfl, _, _, _⟩ := own_shape ho
      have HSZ := Lib.hid hb.size
      have HMK := Lib.hid (fun W => make64 W)
      clear hsc hcast hblk ho hb hkl hsn hl hlen hKb
      go_upto_region 5 with go_in
      obtain ⟨b, hbb⟩ : ∃ b, (l == zero64) = b := ⟨_, rfl⟩
      have HBB := Lib.hid hbb
      clear hbb
      have k1 : Below wr.heap.size wr wr.drew := (Below.refl _ wr).drew
      have k2 : Below wr.heap.size wr (wr.alloc (.cells (u8s zero64).toArray 5)).drew := ((Below.refl _ wr).alloc (Nat.le_refl _) _).drew
      have KK := Lib.hid (And.intro k1 k2)
      have hmk := HMK.out wr.drew
      clear k1 k2
      cases b with
      | true =>
        go_region_with (first
          | (go_at_call 53; (with_reducible refine (HSC.out wr.drew KK.out.1).mono ?_); rintro e w2 ⟨g2, rfl, hg1, hg2, hr2, hl2, hb2⟩; have hmk2 := HMK.out w2; have hra := hr2.alloc (Nat.le_refl _) (.cells (u8s zero64).toArray 5); have hrz := rd_zero w2; have hC2 : Below wr.heap.size wr (w2.alloc (.cells (u8s zero64).toArray 5)) := (KK.out.1.trans hb2).alloc hb2.size _)
          | (go_at_call 53; (with_reducible refine (HSC.out _ KK.out.2).mono ?_); rintro e w2 ⟨g2, rfl, hg1, hg2, hra, hl2, hb2⟩; have hrz := ((rd_zero wr).drew).below hb2 (by show wr.heap.size + 1 ≤ (wr.alloc _).heap.size; simp); have hC2 : Below wr.heap.size wr w2 := KK.out.2.trans (lower' hb2 (by show wr.heap.size ≤ (wr.alloc _).heap.size; simp)))
          | (go_at_call 56; (refine (equal_b _ _ l zero64 64 64 64 64 _ _ true _ hra hrz hl2.symm rfl HBB).mono ?_); rintro e w3 ⟨rfl, rfl⟩))
        all_goals
          have HC2 := Lib.hid hC2
          clear hra hrz hb2 hC2
          go_wp2_with go_in
          refine ⟨⟨k + 1, HX.out.2.2.1, by simp; omega, ?_, HX.out.2.1.trans (lower' HC2.out HSZ.out)⟩, by simp [intOf]; have := HX.out.2.2.1; omega⟩
          rw [HX.out.2.2.2.1, if_pos HBB.out, List.append_nil]
          exact own_below HX.out.1 HC2.out (Nat.le_refl _)
      | false =>
        go_region_with (first
          | (go_at_call 53; (with_reducible refine (HSC.out wr.drew KK.out.1).mono ?_); rintro e w2 ⟨g2, rfl, hg1, hg2, hr2, hl2, hb2⟩; have hmk2 := HMK.out w2; have hra := hr2.alloc (Nat.le_refl _) (.cells (u8s zero64).toArray 5); have hrz := rd_zero w2; have hC2 : Below wr.heap.size wr (w2.alloc (.cells (u8s zero64).toArray 5)) := (KK.out.1.trans hb2).alloc hb2.size _)
          | (go_at_call 53; (with_reducible refine (HSC.out _ KK.out.2).mono ?_); rintro e w2 ⟨g2, rfl, hg1, hg2, hra, hl2, hb2⟩; have hrz := ((rd_zero wr).drew).below hb2 (by show wr.heap.size + 1 ≤ (wr.alloc _).heap.size; simp); have hC2 : Below wr.heap.size wr w2 := KK.out.2.trans (lower' hb2 (by show wr.heap.size ≤ (wr.alloc _).heap.size; simp)))
          | (go_at_call 56; (refine (equal_b _ _ l zero64 64 64 64 64 _ _ false _ hra hrz hl2.symm rfl HBB).mono ?_); rintro e w3 ⟨rfl, rfl⟩))
        all_goals
          clear hra hrz hb2
          first
            | (have hq : Below wr.heap.size wr (w2.alloc (.cells (u8s zero64).toArray 5)) := hC2; clear hq; generalize w2.alloc (.cells (u8s zero64).toArray 5) = W2 at hC2 ⊢)
            | generalize w2 = W2 at hC2 ⊢
          have hoW := own_below HX.out.1 hC2 (Nat.le_refl _)
          have HC2 := Lib.hid (And.intro hC2 hoW)
          have HSN := Lib.hid (show dirtyL M.get L.endd (k + 1) = dirtyL M.get L.endd k ++ [L.endd + k] by rw [HX.out.2.2.2.1, if_neg (by rw [HBB.out]; simp)])
          clear hC2 hoW
          go_wp2_with (first
            | (at_builtin; refine wpList_appR _ rfl (.tmp 23) (.tmp 25) _ rfl w.heap.size 3 i0 _ 1 8 Try.underlying70 hi hz0 hz1 hz2 rfl (by omega) (.slice Ao (dirtyL M.get L.endd k).length co) (dirtyL M.get L.endd k).length (ints (dirtyL M.get L.endd k)) rfl (World.ownsRow.alloc HC2.out.2 _) (W2.heap.size + 1) (some ⟨W2.heap.size, 0, none⟩) 1 1 [.int .i64 ((L.endd : Int) + (k : Int))] rfl rfl (Rd.new W2 #[.int .i64 ((L.endd : Int) + (k : Int))] 3 (0, 0)) (by simp [Value.oneCell']) (by have := HX.out.2.2.2.2.1; have := HX.out.2.2.2.2.2.1; have := HX.out.2.2.1; omega) (by omega) (by have := HSZ.out; have := HC2.out.1.size; simp; omega) ?_; intro v2 w5 hown2 hg2 hat2)
            | go_in)
          rw [← HX.out.2.2.2.2.2.2, ints_snoc, ← HSN.out] at hown2
          have hl : (dirtyL M.get L.endd k).length + 1 = (dirtyL M.get L.endd (k + 1)).length := by rw [HSN.out]; simp
          rw [hl] at hown2
          have hb5 : Below w.heap.size w w5 := ((HX.out.2.1.trans (lower' HC2.out.1 HSZ.out)).alloc (by have := HSZ.out; have := HC2.out.1.size; omega) _).trans (grown_below' hg2 (fun j hj => (World.ownsRow.lt HC2.out.2 j hj).1) (by have := HSZ.out; have := HC2.out.1.size; simp; omega))
          exact ⟨⟨k + 1, HX.out.2.2.1, by simp; omega, hown2, hb5⟩, by simp [intOf]; have := HX.out.2.2.1; omega⟩
    · obtain rfl : k = K := by omega
      have hkI : ¬ ((L.endd : Int) + (k : Int) < (L.behind : Int)) := by have := HH.out.2.2.2.2; omega
      have HX := Lib.hid (And.intro ho hb)
      clear ho hb hblk
      go_wp2_with go_in
      go_ret
      refine ⟨_, rfl, ?_, HX.out.2⟩
      unfold LG.dirty
      rw [← HH.out.2.2.2.2.1]
      exact HX.out.1
end Go.Proofs.Ytajakmfloeefpaa
/- wipe; steps of a disk in memory. -/
namespace Go.Proofs.Ytajakmfloeefpaa
open Go.RowKit Go.Maps

/-- Room for n steps more. -/
structure Fit (M : DM) (T n : Nat) : Prop where
  size : M.size ≤ 4096
  steps : M.steps + n ≤ 1000000000
  left : M.left ≤ 9223372036854775807
  T : T + n ≤ 1000000000
theorem Fit.ok {M : DM} {T n : Nat} (h : Fit M T n) : M.Ok T := ⟨h.size, by have := h.steps; omega, h.left, by have := h.T; omega⟩
theorem Fit.less {M : DM} {T n m : Nat} (h : Fit M T n) (hm : m ≤ n) : Fit M T m := ⟨h.size, by have := h.steps; omega, h.left, by have := h.T; omega⟩
theorem Fit.step {M : DM} {T n : Nat} (h : Fit M T (n + 1)) (o : DOp) : Fit (doneOp M o) (T + 1) n := by
  obtain ⟨h1, h2, h3, h4⟩ := doneOp_size M o
  refine ⟨by rw [h1]; exact h.size, by rw [h2]; have := h.steps; omega, ?_, by have := h.T; omega⟩
  rw [h4]
  have := h.left
  split <;> omega
theorem write_eq {M : DM} {i : Nat} {l : List UInt8} (hi : i < M.size) (hl : l.length = 64) : M.writeE (i : Int) l = (if M.dead then 30 else 0) ∧ M.writeM (i : Int) l = if M.dead then M else M.written i l := by
  have hn : ¬ (¬ (0 ≤ (i : Int) ∧ (i : Int) < (M.size : Int)) ∨ l.length ≠ 64) := by rw [hl]; omega
  unfold DM.writeE DM.writeM
  rw [if_neg hn, if_neg hn]
  exact ⟨rfl, rfl⟩
theorem writeD {w : World} {p bs bw T : Nat} {M : DM} (h : DiskM w p bs bw M T) (hk : M.Ok T) (hd : M.dead = true) {i : Nat} (hi : i < M.size) (g : Nat) (l : List UInt8) (hl : l.length = 64) (B : Nat) (hr : Rd w B (some ⟨g, 0, none⟩) (u8s l)) (hp : g ≠ p) :
    Calls Try.prog 15 #[.pointer (some ⟨p, 0, none⟩), .int .i64 (i : Int), .slice (some ⟨g, 0, none⟩) 64 64] w fun e w' => e = .returned (.int .i64 30) ∧ DiskM w' p bs bw M (T + 1) ∧ Fr w w' [p, bw] := by
  have := writeC h hk (i : Int) g l hl B hr hp
  rw [(write_eq hi hl).1, (write_eq hi hl).2, if_pos hd, if_pos hd] at this
  exact this
theorem writeL {w : World} {p bs bw T : Nat} {M : DM} (h : DiskM w p bs bw M T) (hk : M.Ok T) (hd : M.dead = false) {i : Nat} (hi : i < M.size) (g : Nat) (l : List UInt8) (hl : l.length = 64) (B : Nat) (hr : Rd w B (some ⟨g, 0, none⟩) (u8s l)) (hp : g ≠ p) :
    Calls Try.prog 15 #[.pointer (some ⟨p, 0, none⟩), .int .i64 (i : Int), .slice (some ⟨g, 0, none⟩) 64 64] w fun e w' => e = .returned (.int .i64 0) ∧ DiskM w' p bs bw (doneOp M (some (i, l))) (T + 1) ∧ Fr w w' [p, bw] := by
  have := writeC h hk (i : Int) g l hl B hr hp
  rw [(write_eq hi hl).1, (write_eq hi hl).2, if_neg (by simp [hd]), if_neg (by simp [hd])] at this
  exact this
/-- What steps leave, in memory. -/
def Ran (w w' : World) (p bs bw T : Nat) (M : DM) (ops : List DOp) (e : Ending) : Prop :=
  e = .returned (.int .i64 (runOps ops M).1) ∧ DiskM w' p bs bw (runOps ops M).2 (T + ops.length) ∧ Fr w w' [p, bs, bw]
theorem flushR {w : World} {p bs bw T : Nat} {M : DM} (h : DiskM w p bs bw M T) (hk : M.Ok T) :
    Calls Try.prog 57 #[.pointer (some ⟨p, 0, none⟩)] w fun e w' => Ran w w' p bs bw T M [none] e := by
  refine (flushM h hk).mono ?_
  rintro e w' ⟨rfl, h1, h2⟩
  have e1 : runOps [none] M = (M.flushE, M.flushM) := by
    unfold runOps DM.flushE DM.flushM
    cases hd : M.dead with
    | true => rfl
    | false => rfl
  refine ⟨by rw [e1], by rw [e1]; exact h1.mono (Nat.le_add_right _ _), h2⟩
theorem Ran.step {w w0 w' : World} {p bs bw T : Nat} {M : DM} {o : DOp} {ops : List DOp} {e : Ending} (hf : Fr w w0 [p, bs, bw]) (hd : M.dead = false) (h : Ran w0 w' p bs bw (T + 1) (doneOp M o) ops e) : Ran w w' p bs bw T M (o :: ops) e := by
  have e1 : runOps (o :: ops) M = runOps ops (doneOp M o) := by simp only [runOps]; rw [if_neg (by simp [hd])]
  exact ⟨by rw [e1]; exact h.1, by rw [e1]; have := h.2.1; rw [List.length_cons]; rw [show T + 1 + ops.length = T + (ops.length + 1) by omega] at this; exact this, hf.trans h.2.2⟩
theorem Ran.dead {w w' : World} {p bs bw T T' : Nat} {M : DM} {o : DOp} {ops : List DOp} {e : Ending} (hd : M.dead = true) (he : e = .returned (.int .i64 30)) (hD : DiskM w' p bs bw M T') (hT : T' ≤ T + 1) (hf : Fr w w' [p, bs, bw]) : Ran w w' p bs bw T M (o :: ops) e := by
  have e1 : runOps (o :: ops) M = (30, M) := by simp only [runOps]; rw [if_pos hd]
  exact ⟨by rw [e1]; exact he, by rw [e1]; exact hD.mono (by rw [List.length_cons]; omega), hf⟩

theorem make64D (w : World) : (Instr.makeSlice 45 (.int .i64 64) (.int .i64 64)).run Try.prog w = .ok (.slice (some ⟨w.heap.size, 0, none⟩) 64 64) (w.alloc (.cells (u8s zero64).toArray 5)) := make64 w
set_option maxRecDepth 100000 in
set_option maxHeartbeats 4000000 in
theorem wipe_any {w : World} {base q p bs bw T : Nat} {L : LG} {v : Value} {M : DM} (h : LogAt w base q p L v) (hD : DiskM w p bs bw M T) (A : Option Addr) (S : List Nat) (c B : Nat) (hr : Rd w B A (ints S)) (hB : ∀ a, A = some a → a.block ≠ p ∧ a.block ≠ bs ∧ a.block ≠ bw) (hq : q ≠ p ∧ q ≠ bs ∧ q ≠ bw) (hS : ∀ i ∈ S, i < M.size) (hl : S.length ≤ 4096) (hfit : Fit M T (S.length + 1)) :
    Calls Try.prog 31 #[.pointer (some ⟨q, 0, none⟩), .slice A S.length c] w fun e w' => Ran w w' p bs bw T M (wipeOps S) e := by
  have hblk := h.blk
  unfold LG.cells at hblk
  have HH := Lib.hid (And.intro hblk (And.intro hq (And.intro hS (And.intro hl hfit))))
  have HR := Lib.hid (And.intro hr hB)
  have HD := Lib.hid (And.intro hD hD.lt)
  have hlI : (S.length : Int) ≤ 4096 := by omega
  have hqs := (Array.getElem?_eq_some_iff.1 hblk).1
  have HQ := Lib.hid hqs
  clear h hblk hq hS hl hfit hr hB hD hqs
  go_enter Try.func31, Try.ntmps31
  go_wp2_with go_in
  go_loopw [6, 7, 10] (fun _ _ i wr => ∃ (k : Nat) (M' : DM), k ≤ S.length ∧ i = .int .i64 (k : Int) ∧ DiskM wr p bs bw M' (T + k) ∧ Fr w wr [p, bs, bw] ∧ M'.size = M.size ∧ Fit M' (T + k) (S.length - k + 1) ∧ ∀ w' e, Ran wr w' p bs bw (T + k) M' (zeroOps (S.drop k) ++ [none]) e → Ran w w' p bs bw T M (wipeOps S) e)
    (fun _ _ i _ => S.length - (intOf i).toNat)
  case atStart => exact ⟨0, M, by omega, rfl, HD.out.1, Fr.refl _ _, rfl, by simpa using HH.out.2.2.2.2, fun w' e h => by simpa [wipeOps] using h⟩
  case round =>
    obtain ⟨k, M', hk, rfl, hD, hf, hs, hfit, hran⟩ := hrel
    have hblk := (hf.block q HQ.out (by have := HH.out.2.1; simp; omega)).trans HH.out.1
    have a0 := cell_of_row wr q 0 _ _ _ hblk
    by_cases hkl : k < S.length
    · have hkI : (k : Int) < (S.length : Int) := by omega
      obtain ⟨x, hx⟩ : ∃ x, x = S[k] := ⟨_, rfl⟩
      have hxs : x < M'.size := by rw [hs, hx]; exact HH.out.2.2.1 _ (List.getElem_mem hkl)
      have hdrop : S.drop k = x :: S.drop (k + 1) := by rw [hx]; exact List.drop_eq_getElem_cons hkl
      obtain ⟨ab, ao, rfl, hab, hcc⟩ := HR.out.1 (by intro e; have := ints_len S; rw [e] at this; simp at this; omega)
      have hAB := HR.out.2 _ rfl
      have p0 : wr.cell? ⟨ab, ao + k, none⟩ = some (.int .i64 (x : Int)) := by
        have hc := hcc k _ (by rw [List.getElem?_eq_getElem (by rw [ints_len]; exact hkl), ints_get S k hkl])
        have hbl : ab < w.heap.size := World.block_lt_of_cell? w _ hc
        rw [hx]
        exact (World.cell?_of_block (hf.block ab hbl (by simp; exact hAB))).trans hc
      rw [hdrop] at hran
      have HX := Lib.hid (And.intro hD (And.intro hf (And.intro hs (And.intro hfit (And.intro hkl hran)))))
      have hlt := hD.lt
      have HLT := Lib.hid hlt
      have hw1 := writeL (w := (wr.alloc (.cells (u8s zero64).toArray 5)).drew) (hD.alloc (.cells (u8s zero64).toArray 5)) hfit.ok
      have hw2 := writeD (w := (wr.alloc (.cells (u8s zero64).toArray 5)).drew) (hD.alloc (.cells (u8s zero64).toArray 5)) hfit.ok
      have hne : wr.heap.size ≠ p := by omega
      have hb1 : Fr wr (wr.alloc (.cells (u8s zero64).toArray 5)).drew [p, bs, bw] := ((Fr.refl _ _).alloc _).drew
      have HMK := Lib.hid (fun W => make64 W)
      cases hd : M'.dead with
      | true =>
        have hcall := hw2 hd hxs wr.heap.size zero64 zero64_len _ (rd_zero wr).drew hne
        have HC := Lib.hid hcall
        have HDD := Lib.hid (And.intro hd hb1)
        have hmk := HMK.out wr.drew
        have c0 : (wr.alloc (.cells (u8s zero64).toArray 5)).cell? ⟨q, 0, none⟩ = some (.pointer (some ⟨p, 0, none⟩)) := cell_of_row (wr.alloc _) q 0 _ _ _ ((Below.heap_alloc _ _ _ (by have := HQ.out; have := hf.size; omega)).trans hblk)
        clear hw1 hw2 hd hcall hb1 hD hf hs hfit hran hdrop hx hcc hxs hblk hkl hlt hne hAB
        go_upto_region 4 with go_in
        go_region_with (first
          | (go_at_call 15; (with_reducible refine HC.out.mono ?_); rintro e w2 ⟨rfl, hD2, hF2⟩))
        all_goals
          have hfin : Fr wr w2 [p, bs, bw] := HDD.out.2.trans (hF2.mono (by simp))
          have HF := Lib.hid (And.intro hD2 hfin)
          clear hD2 hF2 hfin
          go_wp2_with go_in
          go_ret
          exact HX.out.2.2.2.2.2 _ _ (Ran.dead (o := some (x, zero64)) HDD.out.1 rfl HF.out.1 (Nat.le_refl _) HF.out.2)
      | false =>
        have hcall := hw1 hd hxs wr.heap.size zero64 zero64_len _ (rd_zero wr).drew hne
        have HC := Lib.hid hcall
        have HDD := Lib.hid (And.intro hd hb1)
        have hmk := HMK.out wr.drew
        have c0 : (wr.alloc (.cells (u8s zero64).toArray 5)).cell? ⟨q, 0, none⟩ = some (.pointer (some ⟨p, 0, none⟩)) := cell_of_row (wr.alloc _) q 0 _ _ _ ((Below.heap_alloc _ _ _ (by have := HQ.out; have := hf.size; omega)).trans hblk)
        clear hw1 hw2 hd hcall hb1 hD hf hs hfit hran hdrop hx hcc hxs hblk hkl hlt hne hAB
        go_upto_region 4 with go_in
        go_region_with (first
          | (go_at_call 15; (with_reducible refine HC.out.mono ?_); rintro e w2 ⟨rfl, hD2, hF2⟩))
        all_goals
          have hfin : Fr wr w2 [p, bs, bw] := HDD.out.2.trans (hF2.mono (by simp))
          have HF := Lib.hid (And.intro hD2 hfin)
          clear hD2 hF2 hfin
          go_wp2_with go_in
          have hx := HX.out
          refine ⟨⟨k + 1, doneOp M' (some (x, zero64)), hx.2.2.2.2.1, by simp, ?_, hx.2.1.trans HF.out.2, (doneOp_size _ _).1.trans hx.2.2.1, ?_, fun w' e h => hx.2.2.2.2.2 w' e (Ran.step (o := some (x, zero64)) HF.out.2 HDD.out.1 ?_)⟩, by simp [intOf]; have := hx.2.2.2.2.1; omega⟩
          · exact HF.out.1
          · have h2 := hx.2.2.2.1
            rw [show S.length - k + 1 = (S.length - (k + 1) + 1) + 1 by have := hx.2.2.2.2.1; omega] at h2
            exact h2.step _
          · exact h
    · obtain rfl : k = S.length := by omega
      have hfl := flushR hD hfit.ok
      rw [List.drop_length] at hran
      have HX := Lib.hid (And.intro hf hran)
      have HC := Lib.hid hfl
      clear hfl hD hf hs hfit hran hblk hkl
      go_wp2_with (first
        | (go_at_call 57; (with_reducible refine HC.out.mono ?_); rintro e w2 ⟨rfl, hD2, hF2⟩; have HF := Lib.hid (And.intro hD2 hF2); clear hD2 hF2)
        | go_in)
      go_ret
      exact HX.out.2 _ _ ⟨rfl, HF.out.1, HF.out.2⟩
end Go.Proofs.Ytajakmfloeefpaa
/- write: a record's sectors. -/
namespace Go.Proofs.Ytajakmfloeefpaa
open Go.RowKit Go.Maps

theorem wrs_cons (a : Nat) (b : List UInt8) (bs : List (List UInt8)) : wrs a (b :: bs) = some (a, b) :: wrs (a + 1) bs := by
  apply List.ext_getElem
  · simp [wrs]
  · intro i h1 h2
    cases i with
    | zero => simp [wrs]
    | succ i => simp [wrs]; omega
theorem flushD {w : World} {p bs bw T : Nat} {M : DM} (h : DiskM w p bs bw M T) (hk : M.Ok T) (hd : M.dead = true) :
    Calls Try.prog 57 #[.pointer (some ⟨p, 0, none⟩)] w fun e w' => e = .returned (.int .i64 30) ∧ DiskM w' p bs bw M (T + 1) ∧ Fr w w' [p, bs, bw] := by
  refine (flushM h hk).mono ?_
  unfold DM.flushE DM.flushM
  rw [if_pos hd, if_pos hd]
  rintro e w' ⟨rfl, h1, h2⟩
  exact ⟨rfl, h1.mono (Nat.le_succ _), h2⟩
theorem flushL {w : World} {p bs bw T : Nat} {M : DM} (h : DiskM w p bs bw M T) (hk : M.Ok T) (hd : M.dead = false) :
    Calls Try.prog 57 #[.pointer (some ⟨p, 0, none⟩)] w fun e w' => e = .returned (.int .i64 0) ∧ DiskM w' p bs bw (doneOp M none) (T + 1) ∧ Fr w w' [p, bs, bw] := by
  refine (flushM h hk).mono ?_
  unfold DM.flushE DM.flushM
  rw [if_neg (by simp [hd]), if_neg (by simp [hd])]
  rintro e w' ⟨rfl, h1, h2⟩
  exact ⟨rfl, h1.mono (Nat.le_succ _), h2⟩
/-- The k-th sector of data. -/
def chunk (d : List UInt8) (k : Nat) : List UInt8 := ((d.drop (k * 64)).take 64) ++ List.replicate (64 - ((d.drop (k * 64)).take 64).length) 0
theorem chunk_len64 (d : List UInt8) (k : Nat) : (chunk d k).length = 64 := by
  unfold chunk
  simp only [List.length_append, List.length_replicate, List.length_take, List.length_drop]
  omega
theorem chunks_drop (d : List UInt8) (k : Nat) (h : k < secs d.length) : (chunks d).drop k = chunk d k :: (chunks d).drop (k + 1) := by
  have hk : k < (chunks d).length := by rw [chunks_len]; exact h
  rw [List.drop_eq_getElem_cons hk]
  congr 1
  simp [chunks, chunk]
theorem splice_chunk (d : List UInt8) (k : Nat) : splice (u8s zero64) 0 (u8s ((d.drop (k * 64)).take 64)) = u8s (chunk d k) := by
  unfold splice chunk
  rw [u8s_append]
  simp only [List.take_zero, List.nil_append, Nat.zero_add, u8s_len]
  congr 1
  unfold u8s zero64
  rw [List.map_replicate, List.map_replicate, List.drop_replicate]

set_option maxRecDepth 100000 in
set_option maxHeartbeats 4000000 in
theorem write_rec {w : World} {base q p bs bw T : Nat} {L : LG} {v : Value} {M : DM} (h : LogAt w base q p L v) (hD : DiskM w p bs bw M T) (A : Option Addr) (d : List UInt8) (c B : Nat) (hr : Rd w B A (u8s d)) (hB : d ≠ [] → ∀ a, A = some a → a.block ≠ p ∧ a.block ≠ bs ∧ a.block ≠ bw) (hc : d.length ≤ c) (hcm : c ≤ 9223372036854775807) (hq : q ≠ p ∧ q ≠ bs ∧ q ≠ bw) (hl : d.length ≤ 4000) (hfitS : L.endd + secs d.length < M.size) (hnx : L.next ≤ 4611686018427387904) (hfit : Fit M T (secs d.length + 3)) :
    Calls Try.prog 35 #[.pointer (some ⟨q, 0, none⟩), .slice A d.length c] w fun e w' => Ran w w' p bs bw T M (appOps L.first L.recs L.next d) e := by
  have hblk := h.blk
  unfold LG.cells at hblk
  have hsec := secs_any d.length w (by omega)
  have hss : secs d.length ≤ 63 := by unfold secs; omega
  have HS := Lib.hid hsec
  have HH := Lib.hid (And.intro hblk (And.intro hq (And.intro hfitS (And.intro hss hfit))))
  have HR := Lib.hid (And.intro hr hB)
  have HD := Lib.hid (And.intro hD hD.lt)
  have hlI : (d.length : Int) ≤ 4000 := by omega
  have hsI : (secs d.length : Int) ≤ 63 := by omega
  have hqs := (Array.getElem?_eq_some_iff.1 hblk).1
  have HQ := Lib.hid hqs
  have HN := Lib.hid (And.intro hnx (And.intro hl (And.intro hc hcm)))
  have hend : (L.endd : Int) ≤ 4096 := by have := hfit.size; omega
  clear h hblk hq hl hfit hr hB hD hqs hsec hss hfitS hnx hc hcm
  go_enter Try.func35, Try.ntmps35
  go_upto_region 2 with (first
    | (go_at_call 54; (with_reducible refine HS.out.mono ?_); rintro e w1 ⟨rfl, rfl⟩)
    | go_in)
  go_wp2_with go_in
  go_loopw [5, 6, 7, 13] (fun _ _ _ i wr => ∃ (k : Nat) (M' : DM), k ≤ secs d.length ∧ i = .int .i64 (k : Int) ∧ DiskM wr p bs bw M' (T + k) ∧ Fr w wr [p, bs, bw] ∧ M'.size = M.size ∧ Fit M' (T + k) (secs d.length - k + 3) ∧ ∀ w' e, Ran wr w' p bs bw (T + k) M' (wrs (L.endd + 1 + k) ((chunks d).drop k) ++ (none :: some (L.endd, headL L.next d.length) :: none :: [])) e → Ran w w' p bs bw T M (appOps L.first L.recs L.next d) e)
    (fun _ _ _ i _ => secs d.length - (intOf i).toNat)
  case atStart => exact ⟨0, M, by omega, rfl, HD.out.1, Fr.refl _ _, rfl, by simpa using HH.out.2.2.2.2, fun w' e h => by simpa [appOps, LG.endd] using h⟩
  case round =>
    obtain ⟨k, M', hk, rfl, hD, hf, hs, hfit, hran⟩ := hrel
    have hblk := (hf.block q HQ.out (by have := HH.out.2.1; simp; omega)).trans HH.out.1
    by_cases hkl : k < secs d.length
    · have hkI : (k : Int) < (secs d.length : Int) := by omega
      have hk64 : k * 64 < d.length := by unfold secs at hkl; omega
      have hk64I : (k : Int) * 64 < (d.length : Int) := by omega
      have hk64c : (k : Int) * 64 ≤ (c : Int) := by have := HN.out.2.2.1; omega
      have hcne : ¬ c = k * 64 := by have := HN.out.2.2.1; omega
      obtain ⟨ab, ao, rfl, hab, hcc⟩ := HR.out.1 (by intro e; have := u8s_len d; rw [e] at this; simp at this; omega)
      have hAB := HR.out.2 (by rintro rfl; simp at hk64) _ rfl
      have hx : L.endd + 1 + k < M'.size := by rw [hs]; have := HH.out.2.2.1; omega
      have hdrop := chunks_drop d k hkl
      rw [hdrop, wrs_cons] at hran
      have hsrc : ∀ j u, (u8s ((d.drop (k * 64)).take 64))[j]? = some u → wr.cell? ⟨ab, ao + k * 64 + j, none⟩ = some u := fun j u hu => by
        have hu2 : (u8s d)[k * 64 + j]? = some u := by
          rw [u8s_take, u8s_drop, List.getElem?_take] at hu
          split at hu
          · rw [List.getElem?_drop] at hu; exact hu
          · cases hu
        have hc := hcc (k * 64 + j) _ hu2
        have hbl : ab < w.heap.size := World.block_lt_of_cell? w _ hc
        rw [← Nat.add_assoc] at hc
        exact (World.cell?_of_block (hf.block ab hbl (by simp; exact hAB))).trans hc
      have HSRC := Lib.hid hsrc
      have HX := Lib.hid (And.intro hD (And.intro hf (And.intro hs (And.intro hfit (And.intro hkl (And.intro hran (And.intro hblk hx)))))))
      have HLT := Lib.hid hD.lt
      have HMK := Lib.hid (fun W => make64 W)
      have hmk := HMK.out wr
      clear hD hf hs hfit hran hdrop hcc hblk hkl hAB hx hsrc hk64
      go_upto_region 5 with go_in
      have HG := Lib.hid (And.intro (heap_alloc_new wr (.cells (u8s zero64).toArray 5)) ((Below.refl _ wr).alloc (Nat.le_refl _) (.cells (u8s zero64).toArray 5)))
      clear hmk
      have hcl : (u8s ((d.drop (k * 64)).take 64)).length = min (d.length - k * 64) 64 := by rw [u8s_len, List.length_take, List.length_drop]; omega
      have HCL := Lib.hid hcl
      have hks : ((k : Int) * 64).toNat = k * 64 := by omega
      clear hcl
      go_upto_region 6 with (first
        | (refine wpList_copy_splice rfl (.tmp 17) (.tmp 21) _ _ rfl 5 Try.underlying45 (by kernel_rfl) (some ⟨wr.heap.size, 0, none⟩) (some ⟨ab, ao + k * 64, none⟩) 64 64 (d.length - k * 64) (c - k * 64) rfl rfl wr.heap.size 0 (u8s zero64) _ HG.out.1 (u8s ((d.drop (k * 64)).take 64)) (HCL.out) (fun _ => ⟨rfl, _, rfl, fun j u hu => by rw [plainAdd]; exact (HG.out.2.cell (p := ⟨ab, ao + k * 64 + j, none⟩) (World.block_lt_of_cell? wr _ (HSRC.out j u hu))).trans (HSRC.out j u hu)⟩) (by rw [HCL.out, u8s_len, zero64_len]; omega) (u8s_one _) wr.heap.size wr HG.out.2 (Nat.le_refl _) ?_; intro w3 hg3 hb3)
        | go_in)
      have hg4 := hg3.out
      rw [splice_chunk] at hg4
      have hrc : Rd w3 w3.heap.size (some ⟨wr.heap.size, 0, none⟩) (u8s (chunk d k)) := fun _ => ⟨_, 0, rfl, heap_lt hg4, fun j u hu => by
        rw [cell_of_row _ _ _ _ _ _ hg4]
        simpa using hu⟩
      have hblk3 := (hb3.block q (heap_lt HX.out.2.2.2.2.2.2.1)).trans HX.out.2.2.2.2.2.2.1
      have c0 : w3.cell? ⟨q, 0, none⟩ = some (.pointer (some ⟨p, 0, none⟩)) := cell_of_row w3 q 0 _ _ _ hblk3
      have c3 : w3.cell? ⟨q, 3, none⟩ = some (.int .i64 (L.endd : Int)) := cell_of_row w3 q 3 _ _ _ hblk3
      have hne : wr.heap.size ≠ p := by have := HLT.out; omega
      have hcast : (((L.endd + 1 + k : Nat)) : Int) = (L.endd : Int) + 1 + (k : Int) := by omega
      have hw1 := fun hd => writeL (w := w3.drew) (HX.out.1.kept hb3).drew HX.out.2.2.2.1.ok hd HX.out.2.2.2.2.2.2.2 wr.heap.size (chunk d k) (chunk_len64 d k) _ hrc.drew hne
      have hw2 := fun hd => writeD (w := w3.drew) (HX.out.1.kept hb3).drew HX.out.2.2.2.1.ok hd HX.out.2.2.2.2.2.2.2 wr.heap.size (chunk d k) (chunk_len64 d k) _ hrc.drew hne
      rw [hcast] at hw1 hw2
      have hF3 : Fr wr w3.drew [p, bs, bw] := (Fr.of_below hb3 _).drew
      have s1 : IntKind.i64.wrap ((L.endd : Int) + 1) = (L.endd : Int) + 1 := IntWalk.i64_in _ (by omega)
      have s2 : IntKind.i64.wrap ((L.endd : Int) + 1 + (k : Int)) = (L.endd : Int) + 1 + (k : Int) := IntWalk.i64_in _ (by omega)
      clear hg3 hg4 hb3 hrc hblk3 hne hcast HSRC HG HCL
      cases hd : M'.dead with
      | true =>
        have HC := Lib.hid (hw2 hd)
        have HDD := Lib.hid (And.intro hd hF3)
        clear hw1 hw2 hd hF3
        go_region_with (first
          | (go_at_call 15; (with_reducible refine HC.out.mono ?_); rintro e w4 ⟨rfl, hD2, hF2⟩))
        all_goals
          have HF := Lib.hid (And.intro hD2 (HDD.out.2.trans (hF2.mono (by simp))))
          clear hD2 hF2 s1 s2
          go_wp2_with go_in
          go_ret
          exact HX.out.2.2.2.2.2.1 _ _ (Ran.dead (o := some (L.endd + 1 + k, chunk d k)) HDD.out.1 rfl HF.out.1 (Nat.le_refl _) HF.out.2)
      | false =>
        have HC := Lib.hid (hw1 hd)
        have HDD := Lib.hid (And.intro hd hF3)
        clear hw1 hw2 hd hF3
        go_region_with (first
          | (go_at_call 15; (with_reducible refine HC.out.mono ?_); rintro e w4 ⟨rfl, hD2, hF2⟩))
        all_goals
          have HF := Lib.hid (And.intro hD2 (HDD.out.2.trans (hF2.mono (by simp))))
          clear hD2 hF2 s1 s2
          go_wp2_with go_in
          have hx := HX.out
          refine ⟨⟨k + 1, doneOp M' (some (L.endd + 1 + k, chunk d k)), hx.2.2.2.2.1, by simp, HF.out.1, hx.2.1.trans HF.out.2, (doneOp_size _ _).1.trans hx.2.2.1, ?_, fun w' e h => hx.2.2.2.2.2.1 w' e (Ran.step (o := some (L.endd + 1 + k, chunk d k)) HF.out.2 HDD.out.1 h)⟩, by simp [intOf]; have := hx.2.2.2.2.1; omega⟩
          have h2 := hx.2.2.2.1
          rw [show secs d.length - k + 3 = (secs d.length - (k + 1) + 3) + 1 by have := hx.2.2.2.2.1; omega] at h2
          exact h2.step _
    · obtain rfl : k = secs d.length := by omega
      have e0 : (chunks d).drop (secs d.length) = [] := List.drop_of_length_le (by rw [chunks_len]; exact Nat.le_refl _)
      rw [e0, wrs_nil, List.nil_append] at hran
      rw [show secs d.length - secs d.length + 3 = 2 + 1 by omega] at hfit
      have HX := Lib.hid (And.intro hD (And.intro hf (And.intro hs (And.intro hfit (And.intro hran hblk)))))
      have c0 : wr.cell? ⟨q, 0, none⟩ = some (.pointer (some ⟨p, 0, none⟩)) := cell_of_row wr q 0 _ _ _ hblk
      have hfd := fun hd => flushD hD hfit.ok hd
      have hfl := fun hd => flushL hD hfit.ok hd
      clear hD hf hs hfit hran hblk hkl e0
      cases hd : M'.dead with
      | true =>
        have HC := Lib.hid (hfd hd)
        have HDD := Lib.hid hd
        clear hfd hfl hd
        go_wp2_with (first
          | (go_at_call 57; (with_reducible refine HC.out.mono ?_); rintro e w2 ⟨rfl, hD2, hF2⟩; have HF := Lib.hid (And.intro hD2 hF2); clear hD2 hF2)
          | go_in)
        go_ret
        exact HX.out.2.2.2.2.1 _ _ (Ran.dead (o := none) HDD.out rfl HF.out.1 (Nat.le_refl _) HF.out.2)
      | false =>
        have HC := Lib.hid (hfl hd)
        have HDD := Lib.hid hd
        clear hfd hfl hd
        go_upto_region 13 with (first
          | (go_at_call 57; (with_reducible refine HC.out.mono ?_); rintro e w2 ⟨rfl, hD2, hF2⟩)
          | go_in)
        have hblk2 := (hF2.block q (heap_lt HX.out.2.2.2.2.2) (by have := HH.out.2.1; simp; omega)).trans HX.out.2.2.2.2.2
        have y0 : w2.cell? ⟨q, 0, none⟩ = some (.pointer (some ⟨p, 0, none⟩)) := cell_of_row w2 q 0 _ _ _ hblk2
        have y3 : w2.cell? ⟨q, 3, none⟩ = some (.int .i64 (L.endd : Int)) := cell_of_row w2 q 3 _ _ _ hblk2
        have y4 : w2.cell? ⟨q, 4, none⟩ = some (.int .i64 (L.next : Int)) := cell_of_row w2 q 4 _ _ _ hblk2
        have hsz : L.endd < (doneOp M' none).size := by rw [(doneOp_size _ _).1, HX.out.2.2.1]; have := HH.out.2.2.1; omega
        have hfit1 : Fit (doneOp M' none) (T + secs d.length + 1) 2 := HX.out.2.2.2.1.step none
        have hho := headOf_any L.next d.length w2.drew HN.out.1 (by have := HN.out.2.1; omega)
        have hw1 := fun hd (w3 : World) (hb : Below w2.heap.size w2.drew w3) (g : Nat) (hr : Rd w3 w3.heap.size (some ⟨g, 0, none⟩) (u8s (headL L.next d.length))) (hg : g ≠ p) => writeL (hD2.drew.kept hb) hfit1.ok hd hsz g (headL L.next d.length) (headL_len _ _) _ hr hg
        have hw2 := fun hd (w3 : World) (hb : Below w2.heap.size w2.drew w3) (g : Nat) (hr : Rd w3 w3.heap.size (some ⟨g, 0, none⟩) (u8s (headL L.next d.length))) (hg : g ≠ p) => writeD (hD2.drew.kept hb) hfit1.ok hd hsz g (headL L.next d.length) (headL_len _ _) _ hr hg
        have HHO := Lib.hid hho
        have HLT := Lib.hid hD2.lt
        have HY := Lib.hid (And.intro hF2 (And.intro hblk2 (And.intro hfit1 hsz)))
        clear hho hD2 hF2 hblk2 hfit1 hsz c0
        have hKS : ∀ w' : World, Fr w2 w' [p, bs, bw] → (w'.cell? ⟨q, 0, none⟩ = some (.pointer (some ⟨p, 0, none⟩)) ∧ w'.cell? ⟨q, 3, none⟩ = some (.int .i64 (L.endd : Int)) ∧ w'.cell? ⟨q, 4, none⟩ = some (.int .i64 (L.next : Int))) := fun w' hf =>
          have hg := (hf.block q (heap_lt HY.out.2.1) (by have := HH.out.2.1; simp; omega)).trans HY.out.2.1
          ⟨cell_of_row w' q 0 _ _ _ hg, cell_of_row w' q 3 _ _ _ hg, cell_of_row w' q 4 _ _ _ hg⟩
        have KS := Lib.hid hKS
        clear hKS
        cases hd : (doneOp M' none).dead with
        | true =>
          have HW := Lib.hid (hw2 hd)
          have HD1 := Lib.hid hd
          clear hw1 hw2 hd
          go_region_held3 (fun w' => w'.cell? ⟨q, 0, none⟩ = some (.pointer (some ⟨p, 0, none⟩)) ∧ w'.cell? ⟨q, 3, none⟩ = some (.int .i64 (L.endd : Int)) ∧ w'.cell? ⟨q, 4, none⟩ = some (.int .i64 (L.next : Int)))
            (first
              | exact KS.out w2.drew (Fr.refl w2 _).drew
              | exact hs4
              | exact hs3
              | assumption)
            (first
              | (go_at_call 59; (with_reducible refine HHO.out.mono ?_); rintro e w3 ⟨g3, rfl, hg1, hg2, hr3, hl3, hb3⟩; have hs3 := KS.out w3 ((Fr.refl w2 _).drew.trans (Fr.of_below hb3 _)))
              | (go_at_call 15; have hcall := HW.out w3 hb3 g3 hr3 (by have h := HLT.out; have h2 : w2.heap.size ≤ g3 := hg1; omega); (with_reducible refine hcall.mono ?_); clear hcall; rintro e w4 ⟨rfl, hD4, hF4⟩; have hs4 := KS.out w4 (((Fr.refl w2 _).drew.trans (Fr.of_below hb3 _)).trans (hF4.mono (by simp)))))
          all_goals
            have HF := Lib.hid (And.intro hD4 (((Fr.refl w2 [p, bs, bw]).drew.trans (Fr.of_below hb3 _)).trans (hF4.mono (by simp))))
            clear hD4 hF4 hb3 hr3 hg1 hg2 hl3 y0 y3 y4 KS
            go_wp2_with go_in
            go_ret
            exact HX.out.2.2.2.2.1 _ _ (Ran.step (o := none) HY.out.1 HDD.out (Ran.dead (o := some (L.endd, headL L.next d.length)) HD1.out rfl HF.out.1 (Nat.le_refl _) HF.out.2))
        | false =>
          have HW := Lib.hid (hw1 hd)
          have HD1 := Lib.hid hd
          clear hw1 hw2 hd
          go_region_held3 (fun w' => w'.cell? ⟨q, 0, none⟩ = some (.pointer (some ⟨p, 0, none⟩)) ∧ w'.cell? ⟨q, 3, none⟩ = some (.int .i64 (L.endd : Int)) ∧ w'.cell? ⟨q, 4, none⟩ = some (.int .i64 (L.next : Int)))
            (first
              | exact KS.out w2.drew (Fr.refl w2 _).drew
              | exact hs4
              | exact hs3
              | assumption)
            (first
              | (go_at_call 59; (with_reducible refine HHO.out.mono ?_); rintro e w3 ⟨g3, rfl, hg1, hg2, hr3, hl3, hb3⟩; have hs3 := KS.out w3 ((Fr.refl w2 _).drew.trans (Fr.of_below hb3 _)))
              | (go_at_call 15; have hcall := HW.out w3 hb3 g3 hr3 (by have h := HLT.out; have h2 : w2.heap.size ≤ g3 := hg1; omega); (with_reducible refine hcall.mono ?_); clear hcall; rintro e w4 ⟨rfl, hD4, hF4⟩; have hs4 := KS.out w4 (((Fr.refl w2 _).drew.trans (Fr.of_below hb3 _)).trans (hF4.mono (by simp)))))
          all_goals
            have hF5 : Fr w2 w4 [p, bs, bw] := ((Fr.refl w2 [p, bs, bw]).drew.trans (Fr.of_below hb3 _)).trans (hF4.mono (by simp))
            have hblk4 := (hF5.block q (heap_lt HY.out.2.1) (by have := HH.out.2.1; simp; omega)).trans HY.out.2.1
            have z0 : w4.cell? ⟨q, 0, none⟩ = some (.pointer (some ⟨p, 0, none⟩)) := cell_of_row w4 q 0 _ _ _ hblk4
            have hfl := flushR hD4 (HY.out.2.2.1.step (some (L.endd, headL L.next d.length))).ok
            have HC5 := Lib.hid hfl
            have HF := Lib.hid hF5
            clear hD4 hF4 hb3 hr3 hg1 hg2 hl3 y0 y3 y4 hF5 hblk4 hfl KS
            go_wp2_with (first
              | (go_at_call 57; (with_reducible refine HC5.out.mono ?_); rintro e w6 ⟨rfl, hD6, hF6⟩; have HF6 := Lib.hid (And.intro hD6 hF6); clear hD6 hF6)
              | go_in)
            go_ret
            exact HX.out.2.2.2.2.1 _ _ (Ran.step (o := none) HY.out.1 HDD.out (Ran.step (o := some (L.endd, headL L.next d.length)) HF.out HD1.out ⟨rfl, HF6.out.1, HF6.out.2⟩))
end Go.Proofs.Ytajakmfloeefpaa
/- add. -/
namespace Go.Proofs.Ytajakmfloeefpaa
open Go.RowKit Go.Maps

theorem infoPlace : (Try.prog.info? 106).map (fun i => (i.zero, i.size, i.bytes)) = some (some (.agg #[.int .i64 0, .int .i64 0]), 2, 16) := by kernel_rfl
def LG.add (L : LG) (s : Nat) (d : List UInt8) : LG := { L with recs := L.recs ++ [(s, d)], next := s + 1 }
theorem LG.add_endd (L : LG) (s : Nat) (d : List UInt8) : (L.add s d).endd = L.endd + 1 + secs d.length := by
  unfold LG.endd LG.add
  rw [endR_append]
  rfl
theorem plc_add (L : LG) (s : Nat) (d : List UInt8) : plc L.first (L.add s d).recs = plc L.first L.recs ++ [.int .i64 (L.endd : Int), .int .i64 (secs d.length : Int)] := by
  unfold LG.add
  rw [plc_append]
  rfl
theorem fr_grown {w w' : World} {r : Option Nat} (h : w.grownBy w' r) : Fr w w' r.toList :=
  ⟨h.os, h.tape, h.output, h.size, fun k hk hs => h.block k hk fun e => hs (by rw [← e]; simp)⟩
theorem add_fin {w W1 wa X2 : World} {base q p ga ca cp : Nat} {Ap : Option Addr} {L : LG} {s : Nat} {d : List UInt8} {o : Obj}
    (h : LogAt w base q p L (.slice Ap L.recs.length cp)) (hW1 : Below w.heap.size w W1) (hz : W1.heap.size = w.heap.size + 1)
    (hown : wa.ownsRow base 106 2 (.slice (some ⟨ga, 0, none⟩) (L.recs.length + 1) ca) (L.recs.length + 1) (plc L.first L.recs ++ [.int .i64 (L.endd : Int), .int .i64 (secs d.length : Int)]))
    (hga : ((W1.alloc o).drew).grownBy wa (Value.slice Ap L.recs.length cp).ownBlock)
    (hq : X2.heap[q]? = some (.cells #[.pointer (some ⟨p, 0, none⟩), .int .i64 (L.first : Int), .int .i64 (L.behind : Int), .int .i64 (L.endd : Int), .int .i64 (L.next : Int), .slice (some ⟨ga, 0, none⟩) (L.recs.length + 1) ca] 68 (0, 0)))
    (hf : Fr wa X2 [q]) (h1 : 1 ≤ s) (hs : s ≤ 4611686018427387904) (hfit : L.endd + 1 + secs d.length ≤ L.behind) (hbase : base ≤ w.heap.size) :
    Ending.returned (.tuple #[]) = .returned (.tuple #[]) ∧ ∃ v', LogAt ((X2.setCell ⟨q, 3, none⟩ (.int .i64 ((L.endd : Int) + (1 + (secs d.length : Int))))).setCell ⟨q, 4, none⟩ (.int .i64 ((s : Int) + 1))).drew base q p (L.add s d) v' ∧
      Fr w ((X2.setCell ⟨q, 3, none⟩ (.int .i64 ((L.endd : Int) + (1 + (secs d.length : Int))))).setCell ⟨q, 4, none⟩ (.int .i64 ((s : Int) + 1))).drew (q :: (Value.slice Ap L.recs.length cp).ownBlock.toList) ∧
      base ≤ ((X2.setCell ⟨q, 3, none⟩ (.int .i64 ((L.endd : Int) + (1 + (secs d.length : Int))))).setCell ⟨q, 4, none⟩ (.int .i64 ((s : Int) + 1))).drew.heap.size := by
  have hfF : Fr X2 ((X2.setCell ⟨q, 3, none⟩ (.int .i64 ((L.endd : Int) + (1 + (secs d.length : Int))))).setCell ⟨q, 4, none⟩ (.int .i64 ((s : Int) + 1))).drew [q] := (((Fr.refl _ _).setCell (by simp) _).setCell (by simp) _).drew
  have hq2 : ((X2.setCell ⟨q, 3, none⟩ (.int .i64 ((L.endd : Int) + (1 + (secs d.length : Int))))).setCell ⟨q, 4, none⟩ (.int .i64 ((s : Int) + 1))).drew.heap[q]? = some (.cells #[.pointer (some ⟨p, 0, none⟩), .int .i64 (L.first : Int), .int .i64 (L.behind : Int), .int .i64 ((L.endd : Int) + (1 + (secs d.length : Int))), .int .i64 ((s : Int) + 1), .slice (some ⟨ga, 0, none⟩) (L.recs.length + 1) ca] 68 (0, 0)) := by
    have h3 := heap_setCell_same X2 q 3 _ _ (.int .i64 ((L.endd : Int) + (1 + (secs d.length : Int)))) hq
    have h4 := heap_setCell_same _ q 4 _ _ (.int .i64 ((s : Int) + 1)) h3
    show ((X2.setCell ⟨q, 3, none⟩ (.int .i64 ((L.endd : Int) + (1 + (secs d.length : Int))))).setCell ⟨q, 4, none⟩ (.int .i64 ((s : Int) + 1))).heap[q]? = _
    simpa using h4
  generalize ((X2.setCell ⟨q, 3, none⟩ (.int .i64 ((L.endd : Int) + (1 + (secs d.length : Int))))).setCell ⟨q, 4, none⟩ (.int .i64 ((s : Int) + 1))).drew = F at hfF hq2 ⊢
  have hall : Fr w F (q :: (Value.slice Ap L.recs.length cp).ownBlock.toList) := by
    have a1 : Fr w W1 (q :: (Value.slice Ap L.recs.length cp).ownBlock.toList) := Fr.of_below hW1 _
    have a2 : Fr W1 (W1.alloc o).drew (q :: (Value.slice Ap L.recs.length cp).ownBlock.toList) := ((Fr.refl _ _).alloc _).drew
    have a3 : Fr ((W1.alloc o).drew) wa (q :: (Value.slice Ap L.recs.length cp).ownBlock.toList) := (fr_grown hga).mono (fun x hx => List.mem_cons_of_mem _ hx)
    exact (((a1.trans a2).trans a3).trans (hf.mono (by simp))).trans (hfF.mono (by simp))
  refine ⟨rfl, .slice (some ⟨ga, 0, none⟩) (L.recs.length + 1) ca, ⟨?_, ?_, h.lt, ?_⟩, hall, Nat.le_trans hbase hall.size⟩
  · rw [hq2]
    unfold LG.cells
    rw [L.add_endd s d]
    have e1 : (((L.endd + 1 + secs d.length : Nat)) : Int) = (L.endd : Int) + (1 + (secs d.length : Int)) := by omega
    rw [e1]
    rfl
  · have hpl : plc (L.add s d).first (L.add s d).recs = _ := plc_add L s d
    rw [hpl]
    have hl : (L.add s d).recs.length = L.recs.length + 1 := by simp [LG.add]
    rw [hl]
    exact rowFr (rowFr hown hf (by simp; exact h.lt)) hfF (by simp; exact h.lt)
  · exact ⟨h.ok.first, h.ok.behind, by rw [L.add_endd]; exact hfit, by show 1 ≤ s + 1; omega, by show s + 1 ≤ _; omega⟩
set_option maxRecDepth 100000 in
set_option maxHeartbeats 4000000 in
theorem add_any {w : World} {base q p : Nat} {L : LG} {v : Value} (h : LogAt w base q p L v) (hbase : base ≤ w.heap.size) (s : Nat) (d : List UInt8) (h1 : 1 ≤ s) (hs : s ≤ 4611686018427387904) (hd : d.length ≤ 4000) (hfit : L.endd + 1 + secs d.length ≤ L.behind) :
    Calls Try.prog 36 #[.pointer (some ⟨q, 0, none⟩), .int .i64 (s : Int), .int .i64 (d.length : Int)] w fun e w' => e = .returned (.tuple #[]) ∧ ∃ v', LogAt w' base q p (L.add s d) v' ∧ Fr w w' (q :: v.ownBlock.toList) ∧ base ≤ w'.heap.size := by
  obtain ⟨i0, hi, hz0, hz1', hz2⟩ := info_parts infoPlace
  have hblk := h.blk
  unfold LG.cells at hblk
  have hsec := fun W => secs_any d.length W (by omega)
  have hbe := h.ok.behind
  have hr := h.row
  have hqb := h.lt
  have hrl : L.recs.length ≤ 4096 := by have := endR_le L.first L.recs; have := h.ok.endd; unfold LG.endd at this; omega
  have HS := Lib.hid hsec
  have HH := Lib.hid (And.intro h (And.intro hblk (And.intro hr (And.intro hqb (And.intro hbase hrl)))))
  have HA := Lib.hid (And.intro h1 (And.intro hs (And.intro hd (And.intro hfit hbe))))
  have hqs := h.size
  have HQ := Lib.hid hqs
  have b3 := cell_of_row w q 3 _ _ _ hblk
  have hKS : ∀ w' : World, Below w.heap.size w w' → w'.cell? ⟨q, 3, none⟩ = some (.int .i64 (L.endd : Int)) := fun w' hb => cell_of_row w' q 3 _ _ _ ((hb.block q hqs).trans hblk)
  have KS := Lib.hid hKS
  have hsI : (s : Int) ≤ 4611686018427387904 := by omega
  clear h hblk hsec hr hqb hbase hrl hbe hfit hs h1 hd hqs hKS
  go_enter Try.func36, Try.ntmps36
  go_upto_region 0 with go_in
  go_region_held3 (fun w' => w'.cell? ⟨q, 3, none⟩ = some (.int .i64 (L.endd : Int)))
    (first
      | assumption
      | (refine KS.out _ ?_; repeat (first | exact Below.refl _ _ | refine Below.drew ?_ | refine Below.alloc ?_ (Nat.le_refl _) _ | refine Below.setCell ?_ (Nat.le_refl _) _)))
    ((go_at_call 54; (with_reducible refine (HS.out _).mono ?_); rintro e w1 ⟨rfl, rfl⟩))
  all_goals
    have hW1 : Below w.heap.size w (w.alloc (.cells #[.int .i64 (L.endd : Int), .int .i64 (secs d.length : Int)] 106)).drew := ((Below.refl _ _).alloc (Nat.le_refl _) _).drew
    have hg6 : (w.alloc (.cells #[.int .i64 (L.endd : Int), .int .i64 (secs d.length : Int)] 106)).drew.heap[w.heap.size]? = some (.cells #[.int .i64 (L.endd : Int), .int .i64 (secs d.length : Int)] 106 (0, 0)) := heap_alloc_new w _
    have hz1 : (w.alloc (.cells #[.int .i64 (L.endd : Int), .int .i64 (secs d.length : Int)] 106)).drew.heap.size = w.heap.size + 1 := alloc1_size w _
    have hrow : (w.alloc (.cells #[.int .i64 (L.endd : Int), .int .i64 (secs d.length : Int)] 106)).drew.ownsRow base 106 2 v L.recs.length (plc L.first L.recs) := World.ownsRow.alloc HH.out.2.2.1 _
    obtain ⟨b6, hb6⟩ : ∃ b6, b6 = w.heap.size := ⟨_, rfl⟩
    rw [← hb6] at hg6 ⊢
    generalize (w.alloc (.cells #[.int .i64 (L.endd : Int), .int .i64 (secs d.length : Int)] 106)).drew = W1 at hW1 hg6 hz1 hrow ⊢
    have HB6 := Lib.hid hb6
    have hblk1 := (hW1.block q HQ.out).trans HH.out.2.1
    obtain ⟨Ap, cp, rfl, _, _, _⟩ := own_shape hrow
    have hOa : ((W1.alloc (.cells #[.int .i64 (L.endd : Int), .int .i64 (secs d.length : Int)] 106)).drew).ownsRow base 106 2 (.slice Ap L.recs.length cp) L.recs.length (plc L.first L.recs) := World.ownsRow.alloc hrow _
    have hRN : Rd ((W1.alloc (.cells #[.int .i64 (L.endd : Int), .int .i64 (secs d.length : Int)] 106)).drew) (W1.heap.size + 1) (some ⟨W1.heap.size, 0, none⟩) [.int .i64 (L.endd : Int), .int .i64 (secs d.length : Int)] := (Rd.new W1 #[.int .i64 (L.endd : Int), .int .i64 (secs d.length : Int)] 106 (0, 0)).drew
    obtain ⟨va, wa, hruna, howna, hga, haa⟩ := run_appR (P := Try.prog) ((W1.alloc (.cells #[.int .i64 (L.endd : Int), .int .i64 (secs d.length : Int)] 106)).drew) base 66 66 106 i0 _ 2 16 Try.underlying66 hi hz0 hz1' hz2 rfl (by omega) (.slice Ap L.recs.length cp) L.recs.length (plc L.first L.recs) hOa (W1.heap.size + 1) (some ⟨W1.heap.size, 0, none⟩) 1 1 [.int .i64 (L.endd : Int), .int .i64 (secs d.length : Int)] rfl hRN (by simp [Value.oneCell']) (by have := HH.out.2.2.2.2.2; omega) (by omega) (by have := HH.out.2.2.2.2.1; have := hW1.size; show base ≤ (W1.alloc _).heap.size; simp; omega)
    obtain ⟨ga, ca, rfl, _, _, _, _⟩ := own_form howna (by omega)
    have hqW : q < W1.heap.size := by have := HQ.out; omega
    have hblka : wa.heap[q]? = some (.cells #[.pointer (some ⟨p, 0, none⟩), .int .i64 (L.first : Int), .int .i64 (L.behind : Int), .int .i64 (L.endd : Int), .int .i64 (L.next : Int), .slice Ap L.recs.length cp] 68 (0, 0)) :=
      (hga.block q (by show q < (W1.alloc _).heap.size; simp; omega) (fun e => by have := (World.ownsRow.lt hrow q e.symm).1; have := HH.out.2.2.2.1; omega)).trans ((Below.heap_alloc W1 _ _ hqW).trans hblk1)
    have hg6a : wa.heap[b6]? = some (.cells #[.int .i64 (L.endd : Int), .int .i64 (secs d.length : Int)] 106 (0, 0)) :=
      (hga.block b6 (by have := heap_lt hg6; show b6 < (W1.alloc _).heap.size; simp; omega) (fun e => by have h1 := (World.ownsRow.lt HH.out.2.2.1 b6 e.symm).2; have := HB6.out; omega)).trans ((Below.heap_alloc W1 _ _ (heap_lt hg6)).trans hg6)
    have k5 : W1.cell? ⟨q, 5, none⟩ = some (.slice Ap L.recs.length cp) := cell_of_row W1 q 5 _ _ _ hblk1
    have m0 : W1.cell? ⟨b6, 0, none⟩ = some (.int .i64 (L.endd : Int)) := cell_of_row W1 b6 0 _ _ _ hg6
    have m1 : W1.cell? ⟨b6, 1, none⟩ = some (.int .i64 (secs d.length : Int)) := cell_of_row W1 b6 1 _ _ _ hg6
    have k5' : (W1.alloc (.cells #[.int .i64 (L.endd : Int), .int .i64 (secs d.length : Int)] 106)).cell? ⟨q, 5, none⟩ = some (.slice Ap L.recs.length cp) := cell_of_row (W1.alloc _) q 5 _ _ _ ((Below.heap_alloc W1 _ _ hqW).trans hblk1)
    have e5 : wa.cell? ⟨q, 5, none⟩ = some (.slice Ap L.recs.length cp) := cell_of_row wa q 5 _ _ _ hblka
    have f5 := frozen_of_row wa q 5 _ _ hblka
    have HWA := Lib.hid (And.intro howna (And.intro hga (And.intro haa (And.intro hblka (And.intro hg6a (And.intro hrow (And.intro hW1 hz1)))))))
    clear howna hga haa hblka hg6a hOa hRN hrow hW1 hg6 hblk1 hz1 hb6 hqW b3
    go_upto_region 1 with go_in
    go_region_law (first
      | (refine step_appK _ (by rfl) (.tmp 18) (.tmp 20) 66 rfl rfl _ _ _ _ rfl rfl hruna ?_))
    all_goals
      have hx := HWA.out
      have hq2 : (wa.setCell ⟨q, 5, none⟩ (.slice (some ⟨ga, 0, none⟩) (L.recs.length + 1) ca)).heap[q]? = some (.cells #[.pointer (some ⟨p, 0, none⟩), .int .i64 (L.first : Int), .int .i64 (L.behind : Int), .int .i64 (L.endd : Int), .int .i64 (L.next : Int), .slice (some ⟨ga, 0, none⟩) (L.recs.length + 1) ca] 68 (0, 0)) := by
        have := heap_setCell_same wa q 5 _ _ (.slice (some ⟨ga, 0, none⟩) (L.recs.length + 1) ca) hx.2.2.2.1
        simpa using this
      have hf2 : Fr wa (wa.setCell ⟨q, 5, none⟩ (.slice (some ⟨ga, 0, none⟩) (L.recs.length + 1) ca)) [q] := (Fr.refl _ _).setCell (by simp) _
      have hne : b6 ≠ q := by have := HB6.out; have := HQ.out; omega
      have hg62 := (hf2.block b6 (heap_lt hx.2.2.2.2.1) (by simpa using hne)).trans hx.2.2.2.2.1
      generalize wa.setCell ⟨q, 5, none⟩ (.slice (some ⟨ga, 0, none⟩) (L.recs.length + 1) ca) = X2 at hq2 hf2 hg62 ⊢
      have n3 := cell_of_row X2 q 3 _ _ _ hq2
      have nf3 := frozen_of_row X2 q 3 _ _ hq2
      have n4 := cell_of_row X2 q 4 _ _ _ hq2
      have nf4 := frozen_of_row X2 q 4 _ _ hq2
      have l1 : X2.cell? ⟨b6, 1, none⟩ = some (.int .i64 (secs d.length : Int)) := cell_of_row X2 b6 1 _ _ _ hg62
      have hsum : (secs d.length : Int) ≤ 63 := by have := HA.out.2.2.1; unfold secs; omega
      have hend : (L.endd : Int) ≤ 4096 := by have := HA.out.2.2.2.1; have := HA.out.2.2.2.2; omega
      have s1 : IntKind.i64.wrap (1 + (secs d.length : Int)) = 1 + (secs d.length : Int) := IntWalk.i64_in _ (by omega)
      have s2 : IntKind.i64.wrap ((L.endd : Int) + (1 + (secs d.length : Int))) = (L.endd : Int) + (1 + (secs d.length : Int)) := IntWalk.i64_in _ (by omega)
      have HY := Lib.hid (And.intro hq2 (And.intro hf2 hne))
      clear hx hq2 hf2 hne hg62 k5 m0 m1 k5' e5 f5 hruna
      go_upto_region 2 with go_in
      go_region
      all_goals
        go_wp2_with go_in
        go_end0
        exact add_fin (q := q) HH.out.1 HWA.out.2.2.2.2.2.2.1 HWA.out.2.2.2.2.2.2.2 HWA.out.1 HWA.out.2.1 HY.out.1 HY.out.2.1 HA.out.1 HA.out.2.1 HA.out.2.2.2.1 HH.out.2.2.2.2.1
end Go.Proofs.Ytajakmfloeefpaa
/- Append. -/
namespace Go.Proofs.Ytajakmfloeefpaa
open Go.RowKit Go.Maps

/-- A log and its disk lie apart. -/
structure Aparts (base q p bs bw : Nat) : Prop where
  lp : p < base
  ls : bs < base
  lw : bw < base
  qp : q ≠ p
  qs : q ≠ bs
  qw : q ≠ bw
theorem Aparts.fr {w w' : World} {base q p bs bw : Nat} {L : LG} {v : Value} (ha : Aparts base q p bs bw) (h : LogAt w base q p L v) (hf : Fr w w' [p, bs, bw]) : LogAt w' base q p L v :=
  h.fr hf (fun s hs => by
    simp at hs
    have := ha.lp; have := ha.ls; have := ha.lw; have := ha.qp; have := ha.qs; have := ha.qw
    omega)
/-- What an Append does. -/
def appR (L : LG) (M : DM) (d : List UInt8) : Int × DM × LG :=
  if 4000 < d.length then (3, M, L)
  else if L.room < (d.length : Int) then (5, M, L)
  else if (runOps (appOps L.first L.recs L.next d) M).1 = 0 then (0, (runOps (appOps L.first L.recs L.next d) M).2, L.add L.next d)
  else (30, (runOps (appOps L.first L.recs L.next d) M).2, L)
theorem room_fits {L : LG} {d : List UInt8} (hk : L.Ok) (h : ¬ L.room < (d.length : Int)) : L.endd + secs d.length < L.behind ∧ L.next ≤ 4611686018427387904 := by
  unfold LG.room at h
  split at h
  · omega
  · rename_i hx
    have := hk.endd
    unfold secs
    omega
/-- A log and its disk, in memory. -/
structure LogD (w : World) (base q p bs bw T : Nat) (L : LG) (v : Value) (M : DM) : Prop where
  log : LogAt w base q p L v
  disk : DiskM w p bs bw M T
  ap : Aparts base q p bs bw
  low : base ≤ w.heap.size
  fits : L.behind ≤ M.size
  size : M.size ≤ 4096
/-- What a call on a log leaves. -/
def Logged (w w' : World) (base q p bs bw T : Nat) (v : Value) (M' : DM) (L' : LG) : Prop :=
  ∃ v', LogD w' base q p bs bw T L' v' M' ∧ Fr w w' ([p, bs, bw, q] ++ v.ownBlock.toList)
set_option maxRecDepth 100000 in
set_option maxHeartbeats 2000000 in
theorem append_any {w : World} {base q p bs bw T : Nat} {L : LG} {v : Value} {M : DM} (h : LogD w base q p bs bw T L v M) (A : Option Addr) (d : List UInt8) (c B : Nat) (hr : Rd w B A (u8s d)) (hBs : B ≤ w.heap.size) (hB : d ≠ [] → ∀ a, A = some a → a.block ≠ p ∧ a.block ≠ bs ∧ a.block ≠ bw) (hc : d.length ≤ c) (hcm : c ≤ 9223372036854775807) (hfit : Fit M T 70) :
    Calls Try.prog 9 #[.pointer (some ⟨q, 0, none⟩), .slice A d.length c] w fun e w' => e = .returned (.int .i64 (appR L M d).1) ∧ Logged w w' base q p bs bw (T + 70) v (appR L M d).2.1 (appR L M d).2.2 := by
  have hroom := room_any h.log
  have hsame : ∀ w', Below w.heap.size w w' → Logged w w' base q p bs bw (T + 70) v M L := fun w' hb =>
    ⟨v, ⟨h.log.kept hb, (h.disk.kept hb).mono (by omega), h.ap, Nat.le_trans h.low hb.size, h.fits, h.size⟩, Fr.of_below hb _⟩
  have hdl : (d.length : Int) ≤ 9223372036854775807 := by omega
  have HSM := Lib.hid hsame
  have HRM := Lib.hid hroom
  have HH := Lib.hid (And.intro h (And.intro hr (And.intro hB (And.intro hc (And.intro hcm hfit)))))
  have HBS := Lib.hid hBs
  clear h hr hBs hB hc hcm hfit hroom hsame
  by_cases h1 : 4000 < d.length
  · have e : appR L M d = (3, M, L) := if_pos h1
    rw [e]
    have h1I : (4000 : Int) < (d.length : Int) := by omega
    clear e h1
    go_enter Try.func9, Try.ntmps9
    go_wp2_with go_in
    go_ret
    exact ⟨rfl, HSM.out w (Below.refl _ _)⟩
  · have h1I : (d.length : Int) ≤ 4000 := by omega
    by_cases h2 : L.room < (d.length : Int)
    · have e : appR L M d = (5, M, L) := by unfold appR; rw [if_neg h1, if_pos h2]
      rw [e]
      have h2' : L.room < (d.length : Int) := h2
      clear e h1
      go_enter Try.func9, Try.ntmps9
      go_wp2_with (first
        | (go_at_call 23; (with_reducible refine HRM.out.mono ?_); rintro e w2 ⟨rfl, hb2⟩; have HB2 := Lib.hid hb2; clear hb2)
        | go_in)
      go_ret
      exact ⟨rfl, HSM.out _ HB2.out⟩
    · obtain ⟨f1, f2⟩ := room_fits HH.out.1.log.ok h2
      have hwr := fun (w2 : World) (hb : Below w.heap.size w w2) => write_rec (HH.out.1.log.kept hb) (HH.out.1.disk.kept hb) A d c B (HH.out.2.1.below hb HBS.out) HH.out.2.2.1 HH.out.2.2.2.1 HH.out.2.2.2.2.1 ⟨HH.out.1.ap.qp, HH.out.1.ap.qs, HH.out.1.ap.qw⟩ (by omega) (by have := HH.out.1.fits; omega) f2 (HH.out.2.2.2.2.2.less (by unfold secs; omega))
      have hlenR : T + (appOps L.first L.recs L.next d).length ≤ T + 70 := by rw [appOps_len]; unfold secs; omega
      have h2' : (d.length : Int) ≤ L.room := by omega
      obtain ⟨_, _, _, hcode⟩ := runOps_facts (appOps L.first L.recs L.next d) M
      have hszR := (runOps_facts (appOps L.first L.recs L.next d) M).1
      have hlog : ∀ w2 w3 : World, Below w.heap.size w w2 → Fr w2 w3 [p, bs, bw] → DiskM w3 p bs bw (runOps (appOps L.first L.recs L.next d) M).2 (T + (appOps L.first L.recs L.next d).length) → LogD w3 base q p bs bw (T + 70) L v (runOps (appOps L.first L.recs L.next d) M).2 ∧ Fr w w3 ([p, bs, bw, q] ++ v.ownBlock.toList) := fun w2 w3 hb hf hD =>
        ⟨⟨HH.out.1.ap.fr (HH.out.1.log.kept hb) hf, hD.mono hlenR, HH.out.1.ap, Nat.le_trans HH.out.1.low (Nat.le_trans hb.size hf.size), by rw [hszR]; exact HH.out.1.fits, by rw [hszR]; exact HH.out.1.size⟩, (Fr.of_below hb _).trans (hf.mono (by simp))⟩
      have HLG := Lib.hid hlog
      have hpos := HH.out.1.log.ok.pos
      rcases hcode with hcode | hcode
      · have e : appR L M d = (0, (runOps (appOps L.first L.recs L.next d) M).2, L.add L.next d) := by unfold appR; rw [if_neg h1, if_neg h2, if_pos hcode]
        rw [e]
        unfold Ran at hwr
        rw [hcode] at hwr
        have HW := Lib.hid hwr
        have HF := Lib.hid (And.intro f1 (And.intro f2 (And.intro hpos h1)))
        clear hwr hlenR hlog hcode e f1 f2 hszR h1 h2 hpos
        go_enter Try.func9, Try.ntmps9
        go_upto_region 8 with (first
          | (go_at_call 23; (with_reducible refine HRM.out.mono ?_); rintro e w2 ⟨rfl, hb2⟩)
          | (go_at_call 35; (with_reducible refine (HW.out w2 hb2).mono ?_); rintro e w3 ⟨rfl, hD3, hF3⟩)
          | go_in)
        have hL3 := HLG.out w2 w3 hb2 hF3 hD3
        have hblk := hL3.1.log.blk
        unfold LG.cells at hblk
        have c4 : w3.cell? ⟨q, 4, none⟩ = some (.int .i64 (L.next : Int)) := cell_of_row w3 q 4 _ _ _ hblk
        have hadd := add_any hL3.1.log hL3.1.low L.next d HF.out.2.2.1 HF.out.2.1 (by have := HF.out.2.2.2; omega) (by have := HF.out.1; omega)
        have HA := Lib.hid hadd
        have HL3 := Lib.hid hL3
        clear hb2 hF3 hD3 hL3 hblk hadd
        go_wp2_with (first
          | (go_at_call 36; (with_reducible refine HA.out.mono ?_); rintro e w4 ⟨rfl, v', hl4, hf4, hb4⟩; have HL4 := Lib.hid (And.intro hl4 (And.intro hf4 hb4)); clear hl4 hf4 hb4)
          | go_in)
        go_ret
        have hap := HL3.out.1.ap
        have hns : ∀ z, z < base → z ≠ q → z ∉ q :: v.ownBlock.toList := fun z hz hzq hm => by
          rcases List.mem_cons.1 hm with h | h
          · exact hzq h
          · have := World.ownsRow.lt HL3.out.1.log.row z (by simpa using h); omega
        refine ⟨rfl, v', ⟨HL4.out.1, HL3.out.1.disk.fr HL4.out.2.1 (hns _ hap.lp (fun h => hap.qp h.symm)) (hns _ hap.ls (fun h => hap.qs h.symm)) (hns _ hap.lw (fun h => hap.qw h.symm)), hap, HL4.out.2.2, HL3.out.1.fits, HL3.out.1.size⟩, HL3.out.2.trans (HL4.out.2.1.mono (fun x hx => ?_))⟩
        rcases List.mem_cons.1 hx with h | h
        · simp [h]
        · exact List.mem_append_right _ h
      · have e : appR L M d = (30, (runOps (appOps L.first L.recs L.next d) M).2, L) := by unfold appR; rw [if_neg h1, if_neg h2, if_neg (by rw [hcode]; omega)]
        rw [e]
        unfold Ran at hwr
        rw [hcode] at hwr
        have HW := Lib.hid hwr
        clear hwr hlenR hlog hcode e f1 f2 hszR h1 h2 hpos
        go_enter Try.func9, Try.ntmps9
        go_wp2_with (first
          | (go_at_call 23; (with_reducible refine HRM.out.mono ?_); rintro e w2 ⟨rfl, hb2⟩)
          | (go_at_call 35; (with_reducible refine (HW.out w2 hb2).mono ?_); rintro e w3 ⟨rfl, hD3, hF3⟩; have HL3 := Lib.hid (HLG.out w2 w3 hb2 hF3 hD3); clear hD3 hF3)
          | go_in)
        go_ret
        exact ⟨rfl, v, HL3.out.1, HL3.out.2⟩
end Go.Proofs.Ytajakmfloeefpaa
/- Records in memory; readAll. -/
namespace Go.Proofs.Ytajakmfloeefpaa
open Go.RowKit Go.Maps

theorem infoRec : (Try.prog.info? 93).map (fun i => (i.zero, i.size, i.bytes)) = some (some (.agg #[.int .i64 0, .slice none 0 0]), 2, 32) := by kernel_rfl
theorem noBytes_log {w : World} {base q p : Nat} {L : LG} {v : Value} (h : LogAt w base q p L v) : NoBytes w q := by
  intro cs fr hg
  rw [h.blk] at hg
  cases hg
/-- A record in memory. -/
structure RecR where
  s : Nat
  A : Option Addr
  d : List UInt8
  c : Nat
def RecR.cells (r : RecR) : List Value := [.int .i64 (r.s : Int), .slice r.A r.d.length r.c]
def recC (R : List RecR) : List Value := R.flatMap RecR.cells
theorem recC_len (R : List RecR) : (recC R).length = R.length * 2 := by
  induction R with
  | nil => rfl
  | cons a R ih => simp only [recC, List.flatMap_cons, List.length_append] at ih ⊢; rw [ih]; simp [RecR.cells]; omega
/-- Records that lie in a row of the call's own. -/
structure RecsAt (w : World) (lo : Nat) (u : Value) (rs : List Rec) : Prop where
  ex : ∃ R : List RecR, R.map (fun r => (r.s, r.d)) = rs ∧ w.ownsRow lo 93 2 u R.length (recC R) ∧ ∀ r ∈ R, DataAt w r.A r.d
theorem RecsAt.fr {w w' : World} {lo : Nat} {u : Value} {rs : List Rec} {S : List Nat} (h : RecsAt w lo u rs) (hf : Fr w w' S) (hS : ∀ s ∈ S, NoBytes w s) (hu : ∀ s ∈ u.ownBlock.toList, s ∉ S) : RecsAt w' lo u rs := by
  obtain ⟨R, h1, h2, h3⟩ := h.ex
  exact ⟨R, h1, rowFrS h2 hf hu, fun r hr => (h3 r hr).fr hf hS⟩
theorem RecsAt.below {w w' : World} {lo : Nat} {u : Value} {rs : List Rec} (h : RecsAt w lo u rs) (hb : Below w.heap.size w w') : RecsAt w' lo u rs := h.fr (Fr.of_below hb []) (by simp) (by simp)
def LG.of (first behind : Nat) (rs : List Rec) : LG := ⟨first, behind, rs, (nextR none rs).getD 1⟩
theorem nextR_snoc (rs : List Rec) (s : Nat) (d : List UInt8) : nextR none (rs ++ [(s, d)]) = some (s + 1) := by rw [nextR_append]; rfl
theorem of_add (first behind : Nat) (rs : List Rec) (s : Nat) (d : List UInt8) : (LG.of first behind rs).add s d = LG.of first behind (rs ++ [(s, d)]) := by
  unfold LG.of LG.add
  rw [nextR_snoc]
  rfl
theorem nextR_some {rs : List Rec} (h : rs ≠ []) : nextR none rs = some ((LG.of 0 0 rs).next) := by
  have : ∀ (rs : List Rec) (nx : Option Nat), rs ≠ [] → ∃ x, nextR nx rs = some x := by
    intro rs
    induction rs with
    | nil => intro nx h; exact absurd rfl h
    | cons y r ih =>
      obtain ⟨s, d⟩ := y
      intro nx _
      by_cases hr : r = []
      · subst hr; exact ⟨s + 1, rfl⟩
      · exact ih (some (s + 1)) hr
  obtain ⟨x, hx⟩ := this rs none h
  unfold LG.of
  rw [hx]
  rfl
end Go.Proofs.Ytajakmfloeefpaa
