/- A Save that runs to its end, plainly. -/
import Derived.Test.YtnjljalihjkmcaaImgL
namespace Go.Proofs.Ytnjljalihjkmcaa

theorem calm_fun {M : DM} (h : Calm M) : M.get = M.sure := funext (calm_get h)
theorem done_save (M : DM) (o s : Nat) (d : List UInt8) : doneOps (saveOps o s d) M = ((sv2 M o d).written o (headI s d.length)).flushed := by
  unfold saveOps
  rw [doneOps, doneOps, doneOps_append]
  rfl
/-- What a Save to its end leaves. -/
structure SaveOk (M M' : DM) (first count s : Nat) (d : List UInt8) : Prop where
  calm : Calm M'
  armed : M'.armed = false
  size : M'.size = M.size
  img : imgOf M'.get first count = some (s, d)
  steps : M'.steps ≤ M.steps + 5000
  left : M'.left ≤ M.left
  same : ∀ i, ¬ (areaO M.get first count ≤ i ∧ i < areaO M.get first count + count) → M'.get i = M.get i
  turnC : areaC M'.get first count = areaO M.get first count
  turnO : areaO M'.get first count = areaC M.get first count
theorem done_armed (o : List DOp) (M : DM) : (doneOps o M).armed = M.armed := by
  induction o generalizing M with
  | nil => rfl
  | cons x r ih => exact (ih _).trans (doneOp_size M x).2.2.1
theorem save_run {M : DM} {first count s : Nat} {d : List UInt8} (hc : Calm M) (ha : M.armed = false) (h2 : 2 ≤ count) (hc2 : count ≤ 2048) (hs1 : 1 ≤ s) (hs2 : s ≤ 4611686018427387904) (hd : d.length ≤ roomI count) (hlt : seqI (imgOf M.get first count) < s) :
    (saveR M first count (s : Int) d).1 = 0 ∧ SaveOk M (saveR M first count (s : Int) d).2 first count s d := by
  have hgs := calm_fun hc
  have hR : saveR M first count (s : Int) d = (0, doneOps (saveOps (areaO M.get first count) s d) M) := by
    unfold saveR
    rw [if_neg (by omega), if_neg (by omega), if_neg (by omega), Int.toNat_natCast, runOps_alive ha]
  obtain ⟨f1, f2, f3⟩ := saveR_facts M first count (s : Int) d h2 hc2
  rw [hR] at f1 f2 f3 ⊢
  refine ⟨rfl, ?_⟩
  obtain ⟨o, ho⟩ : ∃ o, o = areaO M.get first count := ⟨_, rfl⟩
  rw [← ho] at f1 f2 f3 ⊢
  have hcalm : Calm (doneOps (saveOps o s d) M) := by rw [done_save]; exact fun i => rfl
  have hn : secs d.length < count := secs_room hd h2
  obtain ⟨e1, e2, e3⟩ := sv1_facts hc o
  obtain ⟨k1, k2, k3⟩ := sv2_facts hc o d
  have hget : ∀ i, (doneOps (saveOps o s d) M).get i = if i = o then headI s d.length else (sv2 M o d).sure i := by
    intro i
    rw [calm_get hcalm, done_save]
    show ((if i = o then some (headI s d.length) else (sv2 M o d).wr i)).getD ((sv2 M o d).sure i) = _
    by_cases hi : i = o
    · rw [if_pos hi, if_pos hi]; rfl
    · rw [if_neg hi, if_neg hi, k1 i]; rfl
  have hsame : ∀ i, ¬ (o ≤ i ∧ i < o + count) → (doneOps (saveOps o s d) M).get i = M.get i := fun i hi => by
    rw [hget, if_neg (by omega), k2 i (by omega), e2 i (by omega), hgs]
  have hao : (areaC M.get first count = first ∧ o = first + count) ∨ (areaC M.get first count = first + count ∧ o = first) := by rw [ho]; exact areas _ _ _
  have hCs : (doneOps (saveOps o s d) M).get (areaC M.get first count) = M.get (areaC M.get first count) := hsame _ (by omega)
  have hOs : (doneOps (saveOps o s d) M).get o = headI s d.length := by rw [hget, if_pos rfl]
  have hroom : roomI count < 4294967296 := by unfold roomI; omega
  have hds : ∀ i, i < secs d.length → some ((doneOps (saveOps o s d) M).get (o + 1 + i)) = (chunks d)[i]? := fun i hi => by
    rw [hget, if_neg (by omega)]; exact k3 i hi
  rw [seqI_of] at hlt
  obtain ⟨g1, g2, g3⟩ := img_new (g := M.get) (g' := (doneOps (saveOps o s d) M).get) (first := first) (count := count) (s := s) (n := d.length) hCs (by rw [← ho, hOs]; exact ahd_head hs1 hs2 hd (by omega)) hlt
  rw [← ho] at g1 g2
  rw [cat_chunks d _ _ hds] at g1
  exact ⟨hcalm, (done_armed _ _).trans ha, f1, g1, f2, f3, fun i hi => hsame i (by rw [← ho] at hi; exact hi), by rw [g2, ho], g3⟩
theorem calm_new (n : Nat) : Calm (DM.new n) := fun _ => rfl
theorem ahd_new (n room i : Nat) : ahd room ((DM.new n).get i) = none := ahd_zero room
theorem img_new0 (n first count : Nat) : imgOf (DM.new n).get first count = none := by
  unfold imgOf hdC hdA hdB
  rw [ahd_new, ahd_new]
  simp [imgAt]
end Go.Proofs.Ytnjljalihjkmcaa
