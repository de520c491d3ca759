/- Appends one behind the other while the power may go, plainly. -/
import Derived.Test.YtdjcpjfomgfjlaaLogD
import Derived.Test.YtdjcpjfomgfjlaaLogP
namespace Go.Proofs.Ytdjcpjfomgfjlaa

/-- Data as records, numbered from n on. -/
def numR (n : Nat) : List (List UInt8) → List Rec
  | [] => []
  | d :: r => (n, d) :: numR (n + 1) r
theorem numR_len (ds : List (List UInt8)) : ∀ n, (numR n ds).length = ds.length := by
  induction ds with
  | nil => intro n; rfl
  | cons d r ih => intro n; simp [numR, ih]
theorem numR_snoc (d : List UInt8) (ds : List (List UInt8)) : ∀ n, numR n (ds ++ [d]) = numR n ds ++ [(n + ds.length, d)] := by
  induction ds with
  | nil => intro n; rfl
  | cons x r ih => intro n; simp only [List.cons_append, numR, ih, List.length_cons]; rw [show n + 1 + r.length = n + (r.length + 1) by omega]
theorem numR_get (ds : List (List UInt8)) : ∀ (n i : Nat) (h : i < ds.length), (numR n ds)[i]? = some (n + i, ds[i]) := by
  induction ds with
  | nil => intro n i h; exact absurd h (by simp)
  | cons x r ih =>
    intro n i h
    cases i with
    | zero => rfl
    | succ i =>
      have := ih (n + 1) i (by simpa using h)
      simp only [numR, List.getElem?_cons_succ, List.getElem_cons_succ, this]
      rw [show n + 1 + i = n + (i + 1) by omega]
theorem numR_next (ds : List (List UInt8)) : ∀ n, nextR (some n) (numR n ds) = some (n + ds.length) := by
  induction ds with
  | nil => intro n; rfl
  | cons x r ih => intro n; simp only [numR, nextR, ih, List.length_cons]; rw [show n + 1 + r.length = n + (r.length + 1) by omega]
theorem numR_next0 (ds : List (List UInt8)) : (nextR none (numR 1 ds)).getD 1 = ds.length + 1 := by
  cases ds with
  | nil => rfl
  | cons x r => show (nextR (some (1 + 1)) (numR (1 + 1) r)).getD 1 = _; rw [numR_next]; simp only [Option.getD_some, List.length_cons]; omega
theorem numR_nextOr (ds : List (List UInt8)) : nextR none (numR 1 ds) = none ∨ nextR none (numR 1 ds) = some (ds.length + 1) := by
  cases ds with
  | nil => exact .inl rfl
  | cons x r => right; show nextR (some (1 + 1)) (numR (1 + 1) r) = _; rw [numR_next]; simp only [List.length_cons]; congr 1; omega
theorem numR_take (ds : List (List UInt8)) : ∀ (n k : Nat), (numR n ds).take k = numR n (ds.take k) := by
  induction ds with
  | nil => intro n k; simp [numR]
  | cons x r ih =>
    intro n k
    cases k with
    | zero => rfl
    | succ k => simp only [numR, List.take_succ_cons, ih]

/-- Records were appended with OK, and the disk is alive or not. -/
structure Going (M : DM) (L : LG) (ds : List (List UInt8)) (n k : Nat) : Prop where
  clean : Clean M L.first L.behind L.recs
  ok : L.Ok
  recs : L.recs = numR 1 ds
  next : L.next = ds.length + 1
  size : M.size = n
  steps : M.steps ≤ 70 * k
  left : M.left ≤ 100
theorem Going.fit {M : DM} {L : LG} {ds : List (List UInt8)} {n k T : Nat} (h : Going M L ds n k) (hn : n ≤ 4096) (hk : k ≤ 1000) (hT : T ≤ 1000000) : Fit M T 70 := ⟨by rw [h.size]; omega, by have := h.steps; omega, by have := h.left; omega, by omega⟩
theorem Going.new (n first behind : Nat) (hf : first < behind) (hb : behind ≤ 4096) : Going (DM.new n) (LG.of first behind []) [] n 0 :=
  ⟨⟨fun _ => rfl, trivial, fun _ _ _ => rfl⟩, ⟨hf, hb, by show first ≤ behind; omega, Nat.le_refl _, by show 1 ≤ _; omega⟩, rfl, rfl, rfl, Nat.le_refl _, by show 0 ≤ _; omega⟩
theorem Going.arm {M : DM} {L : LG} {ds : List (List UInt8)} {n k : Nat} (h : Going M L ds n k) (ha : M.armed = false) (x : Nat) (hx : x ≤ 100) : M.armE (x : Int) = 0 ∧ Going (M.armM (x : Int)) L ds n k := by
  have hn : ¬ (x : Int) < 0 := by omega
  unfold DM.armE DM.armM
  rw [if_neg hn, if_neg hn, unarmed ha]
  refine ⟨rfl, ⟨⟨h.clean.calm, h.clean.laid, h.clean.zero⟩, h.ok, h.recs, h.next, h.size, h.steps, ?_⟩⟩
  show (x : Int).toNat ≤ 100
  omega
/-- The power went within an Append of d behind these. -/
structure Torn (M : DM) (first behind : Nat) (ds : List (List UInt8)) (d : List UInt8) (n : Nat) : Prop where
  crash : ∀ g, Crashes M behind g → Whole g first behind (numR 1 ds) ∨ Whole g first behind (numR 1 (ds ++ [d]))
  dead : M.dead = true
  size : M.size = n
  steps : M.steps ≤ 1000000
  left : M.left ≤ 100
theorem Torn.fit {M : DM} {first behind n T : Nat} {ds : List (List UInt8)} {d : List UInt8} (h : Torn M first behind ds d n) (hn : n ≤ 4096) (hT : T ≤ 1000000) : Fit M T 70 := ⟨by rw [h.size]; omega, by have := h.steps; omega, by have := h.left; omega, by omega⟩
theorem appOps_ne (first : Nat) (rs : List Rec) (next : Nat) (d : List UInt8) : appOps first rs next d ≠ [] := fun h => by have := congrArg List.length h; rw [appOps_len] at this; simp at this
/-- An Append while all goes on. -/
theorem Going.append {M : DM} {L : LG} {ds : List (List UInt8)} {n k : Nat} (h : Going M L ds n k) (d : List UInt8) (hd : d.length ≤ 4000) (hk : k ≤ 1000) :
    (appR L M d = (5, M, L) ∧ Going M L ds n (k + 1)) ∨
    ((appR L M d).1 = 0 ∧ Going (appR L M d).2.1 (appR L M d).2.2 (ds ++ [d]) n (k + 1) ∧ (appR L M d).2.2.first = L.first ∧ (appR L M d).2.2.behind = L.behind ∧ (appR L M d).2.1.armed = M.armed) ∨
    ((appR L M d).1 = 30 ∧ (appR L M d).2.2 = L ∧ Torn (appR L M d).2.1 L.first L.behind ds d n ∧ M.armed = true) := by
  unfold appR
  rw [if_neg (by omega)]
  by_cases hr : L.room < (d.length : Int)
  · rw [if_pos hr]
    exact .inl ⟨rfl, ⟨h.clean, h.ok, h.recs, h.next, h.size, by have := h.steps; omega, h.left⟩⟩
  · rw [if_neg hr]
    right
    obtain ⟨hfit, hnx⟩ := room_fits h.ok hr
    have hfacts := runOps_facts (appOps L.first L.recs L.next d) M
    have hlen : (appOps L.first L.recs L.next d).length ≤ 70 := by rw [appOps_len]; unfold secs; omega
    have hno : nextR none L.recs = none ∨ nextR none L.recs = some L.next := by rw [h.recs, h.next]; exact numR_nextOr ds
    obtain ⟨j, hj, hdone, hcase⟩ := runOps_cut (appOps L.first L.recs L.next d) M
    have hsnoc : L.recs ++ [(L.next, d)] = numR 1 (ds ++ [d]) := by rw [numR_snoc, ← h.recs, h.next, Nat.add_comm 1]
    rcases hcase with ⟨h0, hjl⟩ | ⟨h30, hdead⟩
    · left
      rw [if_pos h0]
      have hall : (runOps (appOps L.first L.recs L.next d) M).2 = doneOps (appOps L.first L.recs L.next d) M := by rw [hdone, hjl, List.take_length]
      refine ⟨rfl, ⟨?_, ?_, ?_, ?_, hfacts.1.trans h.size, by have := hfacts.2.1; have := h.steps; show (runOps _ M).2.steps ≤ _; omega, by have := hfacts.2.2.1; have := h.left; show (runOps _ M).2.left ≤ _; omega⟩, rfl, rfl, ?_⟩
      · show Clean (runOps _ M).2 L.first L.behind (L.recs ++ [(L.next, d)])
        rw [hall]
        exact append_all h.clean hno h.ok.pos hnx hd hfit
      · have he := L.add_endd L.next d
        exact ⟨h.ok.first, h.ok.behind, by rw [he]; show _ ≤ L.behind; omega, by show 1 ≤ L.next + 1; omega, by show L.next + 1 ≤ _; omega⟩
      · show L.recs ++ [(L.next, d)] = _
        exact hsnoc
      · show L.next + 1 = _
        rw [h.next, List.length_append]; rfl
      · show (runOps _ M).2.armed = M.armed
        rw [hall]
        have : ∀ (o : List DOp) (M : DM), (doneOps o M).armed = M.armed := by
          intro o
          induction o with
          | nil => intro M; rfl
          | cons x r ih => intro M; exact (ih _).trans (doneOp_size M x).2.2.1
        exact this _ _
    · right
      rw [if_neg (by rw [h30]; omega)]
      refine ⟨rfl, rfl, ⟨fun g hg => ?_, hdead, hfacts.1.trans h.size, by have := hfacts.2.1; have := h.steps; show (runOps _ M).2.steps ≤ _; omega, by have := hfacts.2.2.1; have := h.left; show (runOps _ M).2.left ≤ _; omega⟩, ?_⟩
      · change Crashes (runOps _ M).2 L.behind g at hg
        rw [hdone] at hg
        rw [← h.recs, ← hsnoc]
        exact append_cut h.clean (by have := h.ok.first; omega) hno h.ok.pos hnx hd hfit hg
      · cases ha : M.armed with
        | true => rfl
        | false => rw [runOps_alive ha] at h30; cases h30
/-- An Append to a disk that is dead. -/
theorem dead_append {M : DM} {L : LG} (hm : M.dead = true) (d : List UInt8) : (appR L M d).2 = (M, L) := by
  unfold appR
  split
  · rfl
  · split
    · rfl
    · rw [runOps_dead hm (appOps_ne _ _ _ _)]
      rw [if_neg (by omega)]
theorem crashed_get' (M : DM) (keep : List Bool) (torn cut : Int) : (M.crashed keep torn cut).get = M.left1 keep torn cut := rfl
/-- What is read behind a crash. -/
theorem Going.crash {M : DM} {L : LG} {ds : List (List UInt8)} {n k : Nat} (h : Going M L ds n k) (hfull : M.full) (hb : L.behind ≤ n) (keep : List Bool) (torn cut : Int) : Whole (M.crashed keep torn cut).sure L.first L.behind (numR 1 ds) := by
  rw [← h.recs]
  exact h.clean.crash (by have := h.ok.first; omega) (crashes_left1 M hfull keep torn cut (by rw [h.size]; exact hb))
theorem Torn.crash' {M : DM} {first behind n : Nat} {ds : List (List UInt8)} {d : List UInt8} (h : Torn M first behind ds d n) (hfull : M.full) (hb : behind ≤ n) (keep : List Bool) (torn cut : Int) : Whole (M.crashed keep torn cut).sure first behind (numR 1 ds) ∨ Whole (M.crashed keep torn cut).sure first behind (numR 1 (ds ++ [d])) :=
  h.crash _ (crashes_left1 M hfull keep torn cut (by rw [h.size]; exact hb))

/-- An Open of a disk whose records are whole. -/
theorem open_scan {M : DM} {first behind : Nat} {rs : List Rec} (hc : Calm M) (h : Whole M.sure first behind rs) : scan M.get behind first none = rs := by
  have : M.get = M.sure := funext fun i => calm_get hc i
  rw [this]
  exact h.scan
theorem dirty_ge {M : DM} {L : LG} {i : Nat} (h : i ∈ L.dirty M) : L.endd ≤ i := (dirtyL_mem h).1
/-- Wherever the power goes within an Open, the records stay. -/
theorem open_cut {M : DM} {first behind : Nat} {rs : List Rec} (hc : Calm M) (hf : first ≤ behind) (h : Whole M.sure first behind rs) {g : Nat → List UInt8} (hg : Crashes (runOps (openOps M first behind) M).2 behind g) : Whole g first behind rs := by
  obtain ⟨k, _, hd, _⟩ := runOps_cut (openOps M first behind) M
  rw [hd] at hg
  unfold openOps at hg
  rw [open_scan hc h] at hg
  split at hg
  · have e : doneOps (([] : List DOp).take k) M = M := by rw [List.take_nil]; rfl
    rw [e] at hg
    have e2 : ∀ i, i < behind → g i = M.sure i := fun i hi => mix_zero (hg i hi) (hc i)
    exact h.congr hf (fun i _ h2 _ => e2 i h2) (fun hl => by rw [e2 _ hl]; exact h.stop hl)
  · exact wipe_cut h hc hf (fun i hi => dirty_ge (L := LG.of first behind rs) hi) hg
theorem openOps_len {M : DM} {first behind : Nat} (hb : behind ≤ 4096) : (openOps M first behind).length ≤ 4097 := by
  unfold openOps
  split
  · simp
  · have h1 := dirtyL_len M.get (LG.of first behind (scan M.get behind first none)).endd (behind - (LG.of first behind (scan M.get behind first none)).endd)
    simp only [wipeOps, zeroOps, List.length_append, List.length_map, List.length_cons, List.length_nil]
    unfold LG.dirty
    show (dirtyL M.get _ (behind - _)).length + 1 ≤ _
    omega
end Go.Proofs.Ytdjcpjfomgfjlaa
