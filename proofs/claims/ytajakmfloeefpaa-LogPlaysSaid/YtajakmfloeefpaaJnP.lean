/- Joined: LogS LogPX LogPW LogOp LogPV LogPN LogPJ. -/
import Derived.Test.YtajakmfloeefpaaJnD
import Derived.Test.YtajakmfloeefpaaJnJ
import Derived.Test.YtajakmfloeefpaaJnO
import Derived.Test.YtajakmfloeefpaaJnK
import Derived.Test.YtajakmfloeefpaaJnI
import Derived.Test.YtajakmfloeefpaaJnN
import Derived.Test.YtajakmfloeefpaaLogAI
import Derived.Test.YtajakmfloeefpaaJnM
import Derived.Test.YtajakmfloeefpaaJnA
/- Appends one behind the other while the power may go, plainly. -/
namespace Go.Proofs.Ytajakmfloeefpaa

/-- Data as records, numbered from n on. -/
def numR (n : Nat) : List (List UInt8) → List Rec
  | [] => []
  | d :: r => (n, d) :: numR (n + 1) r
theorem numR_len (ds : List (List UInt8)) : ∀ n, (numR n ds).length = ds.length := by
  induction ds with
  | nil => intro n; rfl
  | cons d r ih => intro n; simp [numR, ih]
theorem numR_snoc (d : List UInt8) (ds : List (List UInt8)) : ∀ n, numR n (ds ++ [d]) = numR n ds ++ [(n + ds.length, d)] := by
  induction ds with
  | nil => intro n; rfl
  | cons x r ih => intro n; simp only [List.cons_append, numR, ih, List.length_cons]; rw [show n + 1 + r.length = n + (r.length + 1) by omega]
theorem numR_get (ds : List (List UInt8)) : ∀ (n i : Nat) (h : i < ds.length), (numR n ds)[i]? = some (n + i, ds[i]) := by
  induction ds with
  | nil => intro n i h; exact absurd h (by simp)
  | cons x r ih =>
    intro n i h
    cases i with
    | zero => rfl
    | succ i =>
      have := ih (n + 1) i (by simpa using h)
      simp only [numR, List.getElem?_cons_succ, List.getElem_cons_succ, this]
      rw [show n + 1 + i = n + (i + 1) by omega]
theorem numR_next (ds : List (List UInt8)) : ∀ n, nextR (some n) (numR n ds) = some (n + ds.length) := by
  induction ds with
  | nil => intro n; rfl
  | cons x r ih => intro n; simp only [numR, nextR, ih, List.length_cons]; rw [show n + 1 + r.length = n + (r.length + 1) by omega]
theorem numR_next0 (ds : List (List UInt8)) : (nextR none (numR 1 ds)).getD 1 = ds.length + 1 := by
  cases ds with
  | nil => rfl
  | cons x r => show (nextR (some (1 + 1)) (numR (1 + 1) r)).getD 1 = _; rw [numR_next]; simp only [Option.getD_some, List.length_cons]; omega
theorem numR_nextOr (ds : List (List UInt8)) : nextR none (numR 1 ds) = none ∨ nextR none (numR 1 ds) = some (ds.length + 1) := by
  cases ds with
  | nil => exact .inl rfl
  | cons x r => right; show nextR (some (1 + 1)) (numR (1 + 1) r) = _; rw [numR_next]; simp only [List.length_cons]; congr 1; omega
theorem numR_take (ds : List (List UInt8)) : ∀ (n k : Nat), (numR n ds).take k = numR n (ds.take k) := by
  induction ds with
  | nil => intro n k; simp [numR]
  | cons x r ih =>
    intro n k
    cases k with
    | zero => rfl
    | succ k => simp only [numR, List.take_succ_cons, ih]

/-- Records were appended with OK, and the disk is alive or not. -/
structure Going (M : DM) (L : LG) (ds : List (List UInt8)) (n k : Nat) : Prop where
  clean : Clean M L.first L.behind L.recs
  ok : L.Ok
  recs : L.recs = numR 1 ds
  next : L.next = ds.length + 1
  size : M.size = n
  steps : M.steps ≤ 70 * k
  left : M.left ≤ 100
theorem Going.fit {M : DM} {L : LG} {ds : List (List UInt8)} {n k T : Nat} (h : Going M L ds n k) (hn : n ≤ 4096) (hk : k ≤ 1000) (hT : T ≤ 1000000) : Fit M T 70 := ⟨by rw [h.size]; omega, by have := h.steps; omega, by have := h.left; omega, by omega⟩
theorem Going.new (n first behind : Nat) (hf : first < behind) (hb : behind ≤ 4096) : Going (DM.new n) (LG.of first behind []) [] n 0 :=
  ⟨⟨fun _ => rfl, trivial, fun _ _ _ => rfl⟩, ⟨hf, hb, by show first ≤ behind; omega, Nat.le_refl _, by show 1 ≤ _; omega⟩, rfl, rfl, rfl, Nat.le_refl _, by show 0 ≤ _; omega⟩
theorem Going.arm {M : DM} {L : LG} {ds : List (List UInt8)} {n k : Nat} (h : Going M L ds n k) (ha : M.armed = false) (x : Nat) (hx : x ≤ 100) : M.armE (x : Int) = 0 ∧ Going (M.armM (x : Int)) L ds n k := by
  have hn : ¬ (x : Int) < 0 := by omega
  unfold DM.armE DM.armM
  rw [if_neg hn, if_neg hn, unarmed ha]
  refine ⟨rfl, ⟨⟨h.clean.calm, h.clean.laid, h.clean.zero⟩, h.ok, h.recs, h.next, h.size, h.steps, ?_⟩⟩
  show (x : Int).toNat ≤ 100
  omega
/-- The power went within an Append of d behind these. -/
structure Torn (M : DM) (first behind : Nat) (ds : List (List UInt8)) (d : List UInt8) (n : Nat) : Prop where
  crash : ∀ g, Crashes M behind g → Whole g first behind (numR 1 ds) ∨ Whole g first behind (numR 1 (ds ++ [d]))
  dead : M.dead = true
  size : M.size = n
  steps : M.steps ≤ 1000000
  left : M.left ≤ 100
theorem Torn.fit {M : DM} {first behind n T : Nat} {ds : List (List UInt8)} {d : List UInt8} (h : Torn M first behind ds d n) (hn : n ≤ 4096) (hT : T ≤ 1000000) : Fit M T 70 := ⟨by rw [h.size]; omega, by have := h.steps; omega, by have := h.left; omega, by omega⟩
theorem appOps_ne (first : Nat) (rs : List Rec) (next : Nat) (d : List UInt8) : appOps first rs next d ≠ [] := fun h => by have := congrArg List.length h; rw [appOps_len] at this; simp at this
/-- An Append while all goes on. -/
theorem Going.append {M : DM} {L : LG} {ds : List (List UInt8)} {n k : Nat} (h : Going M L ds n k) (d : List UInt8) (hd : d.length ≤ 4000) (hk : k ≤ 1000) :
    (appR L M d = (5, M, L) ∧ Going M L ds n (k + 1)) ∨
    ((appR L M d).1 = 0 ∧ Going (appR L M d).2.1 (appR L M d).2.2 (ds ++ [d]) n (k + 1) ∧ (appR L M d).2.2.first = L.first ∧ (appR L M d).2.2.behind = L.behind ∧ (appR L M d).2.1.armed = M.armed) ∨
    ((appR L M d).1 = 30 ∧ (appR L M d).2.2 = L ∧ Torn (appR L M d).2.1 L.first L.behind ds d n ∧ M.armed = true) := by
  unfold appR
  rw [if_neg (by omega)]
  by_cases hr : L.room < (d.length : Int)
  · rw [if_pos hr]
    exact .inl ⟨rfl, ⟨h.clean, h.ok, h.recs, h.next, h.size, by have := h.steps; omega, h.left⟩⟩
  · rw [if_neg hr]
    right
    obtain ⟨hfit, hnx⟩ := room_fits h.ok hr
    have hfacts := runOps_facts (appOps L.first L.recs L.next d) M
    have hlen : (appOps L.first L.recs L.next d).length ≤ 70 := by rw [appOps_len]; unfold secs; omega
    have hno : nextR none L.recs = none ∨ nextR none L.recs = some L.next := by rw [h.recs, h.next]; exact numR_nextOr ds
    obtain ⟨j, hj, hdone, hcase⟩ := runOps_cut (appOps L.first L.recs L.next d) M
    have hsnoc : L.recs ++ [(L.next, d)] = numR 1 (ds ++ [d]) := by rw [numR_snoc, ← h.recs, h.next, Nat.add_comm 1]
    rcases hcase with ⟨h0, hjl⟩ | ⟨h30, hdead⟩
    · left
      rw [if_pos h0]
      have hall : (runOps (appOps L.first L.recs L.next d) M).2 = doneOps (appOps L.first L.recs L.next d) M := by rw [hdone, hjl, List.take_length]
      refine ⟨rfl, ⟨?_, ?_, ?_, ?_, hfacts.1.trans h.size, by have := hfacts.2.1; have := h.steps; show (runOps _ M).2.steps ≤ _; omega, by have := hfacts.2.2.1; have := h.left; show (runOps _ M).2.left ≤ _; omega⟩, rfl, rfl, ?_⟩
      · show Clean (runOps _ M).2 L.first L.behind (L.recs ++ [(L.next, d)])
        rw [hall]
        exact append_all h.clean hno h.ok.pos hnx hd hfit
      · have he := L.add_endd L.next d
        exact ⟨h.ok.first, h.ok.behind, by rw [he]; show _ ≤ L.behind; omega, by show 1 ≤ L.next + 1; omega, by show L.next + 1 ≤ _; omega⟩
      · show L.recs ++ [(L.next, d)] = _
        exact hsnoc
      · show L.next + 1 = _
        rw [h.next, List.length_append]; rfl
      · show (runOps _ M).2.armed = M.armed
        rw [hall]
        have : ∀ (o : List DOp) (M : DM), (doneOps o M).armed = M.armed := by
          intro o
          induction o with
          | nil => intro M; rfl
          | cons x r ih => intro M; exact (ih _).trans (doneOp_size M x).2.2.1
        exact this _ _
    · right
      rw [if_neg (by rw [h30]; omega)]
      refine ⟨rfl, rfl, ⟨fun g hg => ?_, hdead, hfacts.1.trans h.size, by have := hfacts.2.1; have := h.steps; show (runOps _ M).2.steps ≤ _; omega, by have := hfacts.2.2.1; have := h.left; show (runOps _ M).2.left ≤ _; omega⟩, ?_⟩
      · change Crashes (runOps _ M).2 L.behind g at hg
        rw [hdone] at hg
        rw [← h.recs, ← hsnoc]
        exact append_cut h.clean (by have := h.ok.first; omega) hno h.ok.pos hnx hd hfit hg
      · cases ha : M.armed with
        | true => rfl
        | false => rw [runOps_alive ha] at h30; cases h30
/-- An Append to a disk that is dead. -/
theorem dead_append {M : DM} {L : LG} (hm : M.dead = true) (d : List UInt8) : (appR L M d).2 = (M, L) := by
  unfold appR
  split
  · rfl
  · split
    · rfl
    · rw [runOps_dead hm (appOps_ne _ _ _ _)]
      rw [if_neg (by omega)]
theorem crashed_get' (M : DM) (keep : List Bool) (torn cut : Int) : (M.crashed keep torn cut).get = M.left1 keep torn cut := rfl
/-- What is read behind a crash. -/
theorem Going.crash {M : DM} {L : LG} {ds : List (List UInt8)} {n k : Nat} (h : Going M L ds n k) (hfull : M.full) (hb : L.behind ≤ n) (keep : List Bool) (torn cut : Int) : Whole (M.crashed keep torn cut).sure L.first L.behind (numR 1 ds) := by
  rw [← h.recs]
  exact h.clean.crash (by have := h.ok.first; omega) (crashes_left1 M hfull keep torn cut (by rw [h.size]; exact hb))
theorem Torn.crash' {M : DM} {first behind n : Nat} {ds : List (List UInt8)} {d : List UInt8} (h : Torn M first behind ds d n) (hfull : M.full) (hb : behind ≤ n) (keep : List Bool) (torn cut : Int) : Whole (M.crashed keep torn cut).sure first behind (numR 1 ds) ∨ Whole (M.crashed keep torn cut).sure first behind (numR 1 (ds ++ [d])) :=
  h.crash _ (crashes_left1 M hfull keep torn cut (by rw [h.size]; exact hb))

/-- An Open of a disk whose records are whole. -/
theorem open_scan {M : DM} {first behind : Nat} {rs : List Rec} (hc : Calm M) (h : Whole M.sure first behind rs) : scan M.get behind first none = rs := by
  have : M.get = M.sure := funext fun i => calm_get hc i
  rw [this]
  exact h.scan
theorem dirty_ge {M : DM} {L : LG} {i : Nat} (h : i ∈ L.dirty M) : L.endd ≤ i := (dirtyL_mem h).1
/-- Wherever the power goes within an Open, the records stay. -/
theorem open_cut {M : DM} {first behind : Nat} {rs : List Rec} (hc : Calm M) (hf : first ≤ behind) (h : Whole M.sure first behind rs) {g : Nat → List UInt8} (hg : Crashes (runOps (openOps M first behind) M).2 behind g) : Whole g first behind rs := by
  obtain ⟨k, _, hd, _⟩ := runOps_cut (openOps M first behind) M
  rw [hd] at hg
  unfold openOps at hg
  rw [open_scan hc h] at hg
  split at hg
  · have e : doneOps (([] : List DOp).take k) M = M := by rw [List.take_nil]; rfl
    rw [e] at hg
    have e2 : ∀ i, i < behind → g i = M.sure i := fun i hi => mix_zero (hg i hi) (hc i)
    exact h.congr hf (fun i _ h2 _ => e2 i h2) (fun hl => by rw [e2 _ hl]; exact h.stop hl)
  · exact wipe_cut h hc hf (fun i hi => dirty_ge (L := LG.of first behind rs) hi) hg
theorem openOps_len {M : DM} {first behind : Nat} (hb : behind ≤ 4096) : (openOps M first behind).length ≤ 4097 := by
  unfold openOps
  split
  · simp
  · have h1 := dirtyL_len M.get (LG.of first behind (scan M.get behind first none)).endd (behind - (LG.of first behind (scan M.get behind first none)).endd)
    simp only [wipeOps, zeroOps, List.length_append, List.length_map, List.length_cons, List.length_nil]
    unfold LG.dirty
    show (dirtyL M.get _ (behind - _)).length + 1 ≤ _
    omega
end Go.Proofs.Ytajakmfloeefpaa
/- LogPlays: a call of the disk alone; a crash of both; both Opens. -/
namespace Go.Proofs.Ytajakmfloeefpaa
open Go.RowKit Go.Maps

abbrev lgN : Obj := .cells #[.int .i64 0, .int .i64 0, .slice none 0 0, .int .i64 0] 42
theorem LogD.over {w w' : World} {base q p bs bw T T' : Nat} {L : LG} {v : Value} {M M' : DM} (h : LogD w base q p bs bw T L v M) (hD : DiskM w' p bs bw M' T') (hf : Fr w w' [p, bs, bw]) (hs : M'.size = M.size) : LogD w' base q p bs bw T' L v M' :=
  ⟨h.ap.fr h.log hf, hD, h.ap, Nat.le_trans h.low hf.size, by rw [hs]; exact h.fits, by rw [hs]; exact h.size⟩
/-- Own records lie in a block of records alone. -/
theorem recs_off {w : World} {lo n c : Nat} {A : Option Addr} {R : List Rec} {X : List Nat} (h : w.ownsRow lo 80 2 (.slice A n c) n (recS R)) (hX : ∀ x ∈ X, ∀ cs fr, w.heap[x]? ≠ some (.cells cs 80 fr)) : ∀ z ∈ (Value.slice A n c).ownBlock.toList, z ∉ X := by
  intro z hz hm
  rcases h.2 with ⟨hv, _⟩ | ⟨g, cap, cur, hv, _, hgg, _⟩
  · cases hv
    simp [Value.ownBlock] at hz
  · cases hv
    simp [Value.ownBlock] at hz
    subst hz
    exact hX _ hm _ _ hgg
section
variable {W0 wr w' w5 w9 : World} {bx bl p bs bw q base m T lo c C : Nat} {M Md : DM} {L Ld : LG} {v : Value} {A : Option Addr}
theorem typed_disk (h : DiskM wr p bs bw M T) : ∀ z ∈ [p, bs, bw], ∀ cs fr, wr.heap[z]? ≠ some (.cells cs 80 fr) := by
  obtain ⟨D, ⟨h1, _, ns, nw, ⟨es, cl, h2, _⟩, ⟨es2, cl2, h3, _⟩, _⟩, _⟩ := h
  intro z hz cs fr hg
  simp at hz
  rcases hz with rfl | rfl | rfl
  · rw [h1] at hg; cases hg
  · rw [h2] at hg; cases hg
  · rw [h3] at hg; cases hg
theorem LpS.typed (h : LpS W0 wr bx bl p bs bw q base m T M Md L Ld v lo A c C) : ∀ x ∈ [bx, bl, p, bs, bw, q] ++ v.ownBlock.toList, ∀ cs fr, wr.heap[x]? ≠ some (.cells cs 80 fr) := by
  intro x hx cs fr hg
  obtain ⟨A1, A2, A3, n1, n2, n3, c1, c2, c3, s, l, hgx, _⟩ := h.box
  have hd := typed_disk h.log.disk
  rcases List.mem_append.1 hx with hx | hx
  · simp only [List.mem_cons, List.not_mem_nil, or_false] at hx
    rcases hx with rfl | rfl | rfl | rfl | rfl | rfl
    · rw [hgx] at hg; cases hg
    · rw [h.rlg] at hg; cases hg
    · exact hd _ (by simp) _ _ hg
    · exact hd _ (by simp) _ _ hg
    · exact hd _ (by simp) _ _ hg
    · rw [h.log.log.blk] at hg; cases hg
  · rcases h.log.log.row.2 with ⟨hv, _⟩ | ⟨g, cap, cur, hv, _, hgg, _⟩
    · rw [hv] at hx
      simp [Value.ownBlock] at hx
    · rw [hv] at hx
      simp [Value.ownBlock] at hx
      subst hx
      rw [hgg] at hg; cases hg
theorem LpS.lt (h : LpS W0 wr bx bl p bs bw q base m T M Md L Ld v lo A c C) : ∀ x ∈ [bx, bl, p, bs, bw, q] ++ v.ownBlock.toList, x < wr.heap.size := by
  intro x hx
  obtain ⟨A1, A2, A3, n1, n2, n3, c1, c2, c3, s, l, hgx, _⟩ := h.box
  have hd := h.log.disk.lt
  rcases List.mem_append.1 hx with hx | hx
  · simp only [List.mem_cons, List.not_mem_nil, or_false] at hx
    rcases hx with rfl | rfl | rfl | rfl | rfl | rfl
    · exact heap_lt hgx
    · exact heap_lt h.rlg
    · omega
    · omega
    · omega
    · exact heap_lt h.log.log.blk
  · exact (World.ownsRow.lt h.log.log.row x (by simpa using hx)).2
theorem LpS.boxD (h : LpS W0 wr bx bl p bs bw q base m T M M L Ld v lo A c C) (hs : M.steps ≤ T) : BoxD W0 wr bx p bs bw m T M M := by
  obtain ⟨A1, A2, A3, n1, n2, n3, c1, c2, c3, s, l, hg, hv⟩ := h.box
  have ho := h.offx
  simp at ho
  exact ⟨⟨A1, A2, A3, n1, n2, n3, c1, c2, c3, s, l, hg, hv.sub (fun y hy => by simp at hy ⊢; rcases hy with rfl | rfl | rfl | rfl <;> simp)⟩, h.log.disk, h.okM, h.okR, h.size.1, h.size.2.1, hs, hs, h.size.2.2, ⟨fun e => ho.2.1 e.symm, fun e => ho.2.2.1 e.symm, fun e => ho.2.2.2.1 e.symm⟩, ⟨h.low p (by simp), h.low bs (by simp), h.low bw (by simp), h.low bx (by simp)⟩, h.below⟩
/-- The program's disk has turned, its log has not. -/
theorem LpS.disk (h : LpS W0 wr bx bl p bs bw q base m T M M L L v lo A c C) {T' : Nat} {M' : DM} (hD : DiskM w' p bs bw M' T') (hf : Fr wr w' [p, bs, bw]) (hk : M'.Ok T') (hk2 : M.Ok T') (hs : M'.size = M.size) :
    ∃ v', LpS W0 w' bx bl p bs bw q base m T' M' M L L v' lo A c C :=
  h.prog ⟨v, h.log.over hD hf hs, hf.mono (by simp), fun z hz => .inl hz⟩ hk hk2 hs
/-- The document's disk is put back. -/
theorem LpS.put (h : LpS W0 wr bx bl p bs bw q base m T M Md L Ld v lo A c C) (hb : Below wr.heap.size wr w') {B1 B2 B3 : Option Addr} {m1 m2 m3 d1 d2 d3 : Nat} {s l : Int} (hR : RefV w' ([bx, bl, p, bs, bw, q] ++ v.ownBlock.toList) (refOf M) (.agg #[.slice B1 m1 d1, .slice B2 m2 d2, .slice B3 m3 d3, .int .i64 s, .int .i64 l])) :
    LpS W0 (((((w'.setCell ⟨bx, 0, none⟩ (.slice B1 m1 d1)).setCell ⟨bx, 1, none⟩ (.slice B2 m2 d2)).setCell ⟨bx, 2, none⟩ (.slice B3 m3 d3)).setCell ⟨bx, 3, none⟩ (.int .i64 s)).setCell ⟨bx, 4, none⟩ (.int .i64 l)) bx bl p bs bw q base m T M M L Ld v lo A c C := by
  have h2 := h.kept hb
  obtain ⟨A1, A2, A3, n1, n2, n3, c1, c2, c3, s', l', hg, _⟩ := h2.box
  have hf := fr5 w' bx (.slice B1 m1 d1) (.slice B2 m2 d2) (.slice B3 m3 d3) (.int .i64 s) (.int .i64 l)
  have g1 := set5 hg (.slice B1 m1 d1) (.slice B2 m2 d2) (.slice B3 m3 d3) (.int .i64 s) (.int .i64 l)
  generalize (((((w'.setCell ⟨bx, 0, none⟩ (.slice B1 m1 d1)).setCell ⟨bx, 1, none⟩ (.slice B2 m2 d2)).setCell ⟨bx, 2, none⟩ (.slice B3 m3 d3)).setCell ⟨bx, 3, none⟩ (.int .i64 s)).setCell ⟨bx, 4, none⟩ (.int .i64 l)) = W1 at hf g1 ⊢
  have hox := h.offx
  have ho := hox
  simp at ho
  have hnp : ∀ z ∈ [bl, p, bs, bw, q], z ∉ [bx] := fun z hz hm => by
    rw [List.mem_singleton.1 hm] at hz
    exact hox hz
  refine ⟨⟨B1, B2, B3, m1, m2, m3, d1, d2, d3, s, l, g1, hR.fr hf (fun x hx => by rw [List.mem_singleton.1 hx]; simp)⟩, ⟨h2.log.log.frS hf (hnp q (by simp)) (fun s hs hm => h.offv s hs (by rw [List.mem_singleton.1 hm]; simp)), h2.log.disk.fr hf (hnp p (by simp)) (hnp bs (by simp)) (hnp bw (by simp)), h2.log.ap, Nat.le_trans h2.log.low hf.size, h2.log.fits, h2.log.size⟩, h.okM, h.okM, ⟨h.size.1, h.size.1, h.size.2.2⟩, (hf.block bl (heap_lt h2.rlg) (hnp bl (by simp))).trans h2.rlg, rowFrS h2.own hf (fun z hz hm => h.offA z hz (by rw [List.mem_singleton.1 hm]; simp)), h.offx, h.offl, h.offv, h.offA, h.low, h.lowb, h2.below.trans (hf.below h2.below.size fun z hz => by rw [List.mem_singleton.1 hz]; exact h.low bx (by simp))⟩
end
/-- Between a crash and the Open behind it: no log of the program's. -/
structure LpC (W0 wr : World) (bx bl p bs bw m T : Nat) (M Md : DM) (Ld : LG) (lo : Nat) (A : Option Addr) (c C : Nat) : Prop where
  box : ∃ A1 A2 A3 n1 n2 n3 c1 c2 c3 s l, wr.heap[bx]? = some (.cells #[.slice A1 n1 c1, .slice A2 n2 c2, .slice A3 n3 c3, .int .i64 s, .int .i64 l] 33 (0, 0)) ∧ RefV wr [bx, bl, p, bs, bw] (refOf Md) (.agg #[.slice A1 n1 c1, .slice A2 n2 c2, .slice A3 n3 c3, .int .i64 s, .int .i64 l])
  disk : DiskM wr p bs bw M T
  okM : M.Ok T
  okR : Md.Ok T
  size : M.size = m ∧ Md.size = m ∧ 0 < m
  rlg : wr.heap[bl]? = some (.cells #[.int .i64 (Ld.first : Int), .int .i64 (C : Int), .slice A Ld.recs.length c, .int .i64 (Ld.next : Int)] 42 (0, 0))
  own : wr.ownsRow lo 80 2 (.slice A Ld.recs.length c) Ld.recs.length (recS Ld.recs)
  offx : bx ∉ [bl, p, bs, bw]
  offl : bl ∉ [p, bs, bw]
  offA : ∀ s ∈ (Value.slice A Ld.recs.length c).ownBlock.toList, s ∉ [bx, bl, p, bs, bw]
  low : ∀ s ∈ [bx, bl, p, bs, bw], W0.heap.size ≤ s
  below : Below W0.heap.size W0 wr
section
variable {W0 wr w' w5 w9 : World} {bx bl p bs bw q base m T lo c C : Nat} {M Md : DM} {L Ld : LG} {v : Value} {A : Option Addr}
theorem LpS.toC (h : LpS W0 wr bx bl p bs bw q base m T M Md L Ld v lo A c C) : LpC W0 wr bx bl p bs bw m T M Md Ld lo A c C := by
  obtain ⟨A1, A2, A3, n1, n2, n3, c1, c2, c3, s, l, hg, hv⟩ := h.box
  have hs : ∀ z ∈ [bx, bl, p, bs, bw], z ∈ [bx, bl, p, bs, bw, q] := fun z hz => by
    simp at hz ⊢
    omega
  refine ⟨⟨A1, A2, A3, n1, n2, n3, c1, c2, c3, s, l, hg, hv.sub (fun y hy => List.mem_append_left _ (hs y hy))⟩, h.log.disk, h.okM, h.okR, h.size, h.rlg, h.own, fun hm => h.offx (by simp at hm ⊢; omega), fun hm => h.offl (by simp at hm ⊢; omega), fun z hz hm => h.offA z hz (List.mem_append_left _ (hs z hm)), fun z hz => h.low z (hs z hz), h.below⟩
theorem LpC.kept (h : LpC W0 wr bx bl p bs bw m T M Md Ld lo A c C) (hb : Below wr.heap.size wr w') : LpC W0 w' bx bl p bs bw m T M Md Ld lo A c C := by
  obtain ⟨A1, A2, A3, n1, n2, n3, c1, c2, c3, s, l, hg, hv⟩ := h.box
  exact ⟨⟨A1, A2, A3, n1, n2, n3, c1, c2, c3, s, l, (hb.block bx (heap_lt hg)).trans hg, hv.below hb⟩, h.disk.kept hb, h.okM, h.okR, h.size, (hb.block bl (heap_lt h.rlg)).trans h.rlg, own_below h.own hb (Nat.le_refl _), h.offx, h.offl, h.offA, h.low, h.below.trans (lower' hb h.below.size)⟩
/-- The program's disk has crashed, the document's not yet. -/
theorem LpC.crash (h : LpC W0 wr bx bl p bs bw m T M Md Ld lo A c C) {p' bs' bw' T' : Nat} {M' : DM} (h1 : wr.heap.size ≤ p') (h2 : wr.heap.size ≤ bs') (h3 : wr.heap.size ≤ bw') (hD : DiskM w' p' bs' bw' M' T') (hb : Below wr.heap.size wr w') (hk : M'.Ok T') (hk2 : Md.Ok T') (hs : M'.size = M.size) : LpC W0 w' bx bl p' bs' bw' m T' M' Md Ld lo A c C := by
  have h0 := h.kept hb
  obtain ⟨A1, A2, A3, n1, n2, n3, c1, c2, c3, s, l, hg, hv⟩ := h.box
  have hlx := heap_lt hg
  have hll := heap_lt h.rlg
  have hz := h.below.size
  have hox := h.offx
  simp at hox
  have hv2 := ((hv.ext (Y := [p', bs', bw']) (by rw [h.size.2.1]; exact h.size.2.2) (fun y hy => by simp at hy; omega)).below hb).sub (Y := [bx, bl, p', bs', bw']) (fun y hy => by simp at hy ⊢; omega)
  refine ⟨⟨A1, A2, A3, n1, n2, n3, c1, c2, c3, s, l, (hb.block bx hlx).trans hg, hv2⟩, hD, hk, hk2, ⟨hs.trans h.size.1, h.size.2⟩, h0.rlg, h0.own, by simp; omega, by simp; omega, fun z hz' hm => ?_, fun z hz' => ?_, h0.below⟩
  · have := (World.ownsRow.lt h.own z (by simpa using hz')).2
    have := h.offA z hz'
    simp at this hm
    omega
  · have := h.low bx (by simp)
    have := h.low bl (by simp)
    simp at hz'
    rcases hz' with rfl | rfl | rfl | rfl | rfl <;> omega
theorem LpC.lt (h : LpC W0 wr bx bl p bs bw m T M Md Ld lo A c C) : ∀ x ∈ [bx, bl, p, bs, bw], x < wr.heap.size := by
  intro x hx
  obtain ⟨A1, A2, A3, n1, n2, n3, c1, c2, c3, s, l, hgx, _⟩ := h.box
  have hd := h.disk.lt
  simp only [List.mem_cons, List.not_mem_nil, or_false] at hx
  rcases hx with rfl | rfl | rfl | rfl | rfl
  · exact heap_lt hgx
  · exact heap_lt h.rlg
  · omega
  · omega
  · omega
theorem LpC.put (h : LpC W0 wr bx bl p bs bw m T M Md Ld lo A c C) (hb : Below wr.heap.size wr w') {B1 B2 B3 : Option Addr} {m1 m2 m3 d1 d2 d3 : Nat} {s l : Int} (hR : RefV w' [bx, bl, p, bs, bw] (refOf M) (.agg #[.slice B1 m1 d1, .slice B2 m2 d2, .slice B3 m3 d3, .int .i64 s, .int .i64 l])) :
    LpC W0 (((((w'.setCell ⟨bx, 0, none⟩ (.slice B1 m1 d1)).setCell ⟨bx, 1, none⟩ (.slice B2 m2 d2)).setCell ⟨bx, 2, none⟩ (.slice B3 m3 d3)).setCell ⟨bx, 3, none⟩ (.int .i64 s)).setCell ⟨bx, 4, none⟩ (.int .i64 l)) bx bl p bs bw m T M M Ld lo A c C := by
  have h2 := h.kept hb
  obtain ⟨A1, A2, A3, n1, n2, n3, c1, c2, c3, s', l', hg, _⟩ := h2.box
  have hf := fr5 w' bx (.slice B1 m1 d1) (.slice B2 m2 d2) (.slice B3 m3 d3) (.int .i64 s) (.int .i64 l)
  have g1 := set5 hg (.slice B1 m1 d1) (.slice B2 m2 d2) (.slice B3 m3 d3) (.int .i64 s) (.int .i64 l)
  generalize (((((w'.setCell ⟨bx, 0, none⟩ (.slice B1 m1 d1)).setCell ⟨bx, 1, none⟩ (.slice B2 m2 d2)).setCell ⟨bx, 2, none⟩ (.slice B3 m3 d3)).setCell ⟨bx, 3, none⟩ (.int .i64 s)).setCell ⟨bx, 4, none⟩ (.int .i64 l)) = W1 at hf g1 ⊢
  have hox := h.offx
  have hnp : ∀ z ∈ [bl, p, bs, bw], z ∉ [bx] := fun z hz hm => by
    rw [List.mem_singleton.1 hm] at hz
    exact hox hz
  refine ⟨⟨B1, B2, B3, m1, m2, m3, d1, d2, d3, s, l, g1, hR.fr hf (fun x hx => by rw [List.mem_singleton.1 hx]; simp)⟩, h2.disk.fr hf (hnp p (by simp)) (hnp bs (by simp)) (hnp bw (by simp)), h.okM, h.okM, ⟨h.size.1, h.size.1, h.size.2.2⟩, (hf.block bl (heap_lt h2.rlg) (hnp bl (by simp))).trans h2.rlg, rowFrS h2.own hf (fun z hz hm => h.offA z hz (by rw [List.mem_singleton.1 hm]; simp)), h.offx, h.offl, h.offA, h.low, h2.below.trans (hf.below h2.below.size fun z hz => by rw [List.mem_singleton.1 hz]; exact h.low bx (by simp))⟩
/-- The program's Open is done, the document's not yet. -/
theorem LpC.opened (h : LpC W0 wr bx bl p bs bw m T M M Ld lo A c C) {q T' : Nat} {M' : DM} {L' : LG} {v : Value} (hL : LogD w5 (q + 1) q p bs bw T' L' v M') (hq : wr.heap.size ≤ q) (hf : Fr wr w5 [p, bs, bw]) (hk : M'.Ok T') (hk2 : M.Ok T') (hs : M'.size = M.size) : LpS W0 w5 bx bl p bs bw q (q + 1) m T' M' M L' Ld v lo A c C := by
  obtain ⟨A1, A2, A3, n1, n2, n3, c1, c2, c3, s, l, hg, hv⟩ := h.box
  have hlt := h.lt
  have hlx := hlt bx (by simp)
  have hll := hlt bl (by simp)
  have hlp := hlt p (by simp)
  have hls := hlt bs (by simp)
  have hlw := hlt bw (by simp)
  have hz := h.below.size
  have hox := h.offx
  have hol := h.offl
  have hvn : ∀ z ∈ v.ownBlock.toList, q + 1 ≤ z := fun z hz => (World.ownsRow.lt hL.log.row z (by simpa using hz)).1
  have hv2 := ((hv.ext (Y := q :: v.ownBlock.toList) (by rw [h.size.2.1]; exact h.size.2.2) (fun y hy => by
    rcases List.mem_cons.1 hy with rfl | hy
    · exact hq
    · have := hvn y hy; omega)).fr hf (fun x hx => List.mem_append_left _ (by simp at hx ⊢; omega))).sub (Y := [bx, bl, p, bs, bw, q] ++ v.ownBlock.toList) (fun y hy => by
      rcases List.mem_append.1 hy with hy | hy
      · simp at hy ⊢; omega
      · exact List.mem_append_right _ (List.mem_cons_of_mem _ hy))
  have hnx : bx ∉ [p, bs, bw] := fun hm => hox (List.mem_cons_of_mem _ hm)
  refine ⟨⟨A1, A2, A3, n1, n2, n3, c1, c2, c3, s, l, (hf.block bx hlx hnx).trans hg, hv2⟩, hL, hk, hk2, ⟨hs.trans h.size.1, h.size.2⟩, (hf.block bl hll hol).trans h.rlg, rowFrS h.own hf (fun z hz hm => h.offA z hz (List.mem_cons_of_mem _ (List.mem_cons_of_mem _ hm))), ?_, ?_, fun z hz' hm => ?_, fun z hz' hm => ?_, fun z hz' => ?_, ?_, h.below.trans (hf.below hz fun z hz' => h.low z (List.mem_cons_of_mem _ (List.mem_cons_of_mem _ hz')))⟩
  · simp at hox ⊢; omega
  · simp at hol ⊢; omega
  · have := hvn z hz'
    simp at hm; omega
  · have := (World.ownsRow.lt h.own z (by simpa using hz')).2
    have := h.offA z hz'
    rcases List.mem_append.1 hm with hm | hm
    · simp at this hm; omega
    · have := hvn z hm; omega
  · have h1 := h.low
    simp at hz' h1
    rcases hz' with rfl | rfl | rfl | rfl | rfl | rfl <;> omega
  · omega
/-- The way in: both Opens are done, and the document's log has a box of its own. -/
theorem LpS.first {w1 : World} {q T' : Nat} {M' : DM} {L' : LG} (h : BoxD W0 w1 bx p bs bw m T M M) (hL : LogD w5 (q + 1) q p bs bw T' L' v M') (hq : w1.heap.size ≤ q) (hf : Fr w1 w5 [p, bs, bw]) (hk : M'.Ok T') (hk2 : M.Ok T') (hs : M'.size = M.size) :
    (∀ vd, RefV w1 [bx, p, bs, bw] (refOf M) vd → RefV w5 ([bx, p, bs, bw, q] ++ v.ownBlock.toList) (refOf M) vd) ∧ (∀ x ∈ [bx, p, bs, bw, q] ++ v.ownBlock.toList, x < w5.heap.size) ∧ (Below w5.heap.size w5 w9 → LpS W0 (w9.alloc lgN) bx w9.heap.size p bs bw q (q + 1) m T' M' M L' ⟨0, 0, [], 0⟩ v 0 none 0 0) := by
  obtain ⟨A1, A2, A3, n1, n2, n3, c1, c2, c3, s, l, hg, hv⟩ := h.box
  have hlx := heap_lt hg
  have hld := h.disk.lt
  have hz := h.below.size
  have hox := h.off
  have hlow := h.low
  have hlq := heap_lt hL.log.blk
  have hsz := hf.size
  have hvn : ∀ z ∈ v.ownBlock.toList, q + 1 ≤ z ∧ z < w5.heap.size := fun z hz => World.ownsRow.lt hL.log.row z (by simpa using hz)
  have hext : ∀ vd, RefV w1 [bx, p, bs, bw] (refOf M) vd → RefV w5 ([bx, p, bs, bw, q] ++ v.ownBlock.toList) (refOf M) vd := fun vd hvd =>
    ((hvd.ext (Y := q :: v.ownBlock.toList) (by rw [h.sizeM]; exact h.pos) (fun y hy => by
      rcases List.mem_cons.1 hy with rfl | hy
      · exact hq
      · have := hvn y hy; omega)).fr hf (fun x hx => List.mem_append_left _ (by simp at hx ⊢; omega))).sub (fun y hy => by
        rcases List.mem_append.1 hy with hy | hy
        · simp at hy ⊢; omega
        · exact List.mem_append_right _ (List.mem_cons_of_mem _ hy))
  refine ⟨hext, fun x hx => ?_, fun hb => ?_⟩
  · rcases List.mem_append.1 hx with hx | hx
    · simp at hx; omega
    · exact (hvn x hx).2
  have hba : Below w9.heap.size w9 (w9.alloc lgN) := (Below.refl _ _).alloc (Nat.le_refl _) _
  have hb5 : Below w5.heap.size w5 (w9.alloc lgN) := hb.trans (lower' hba hb.size)
  have hz9 := hb.size
  have hnx : bx ∉ [p, bs, bw] := by simp; omega
  have hg5 := (hf.block bx hlx hnx).trans hg
  have hv9 := (((hext _ hv).below hb).ext (Y := [w9.heap.size]) (by rw [h.sizeM]; exact h.pos) (by simp)).below hba
  have hnew : (w9.alloc lgN).heap[w9.heap.size]? = some (.cells #[.int .i64 0, .int .i64 0, .slice none 0 0, .int .i64 0] 42 (0, 0)) := heap_alloc_new w9 lgN
  refine ⟨⟨A1, A2, A3, n1, n2, n3, c1, c2, c3, s, l, (hb5.block bx (heap_lt hg5)).trans hg5, hv9.sub (fun y hy => ?_)⟩, hL.kept hb5, hk, hk2, ⟨hs.trans h.sizeM, h.sizeM, h.pos⟩, hnew, World.ownsRow_nil _ _ _ _, by simp; omega, by simp; omega, fun z hz' hm => ?_, fun z hz' => (by simp [Value.ownBlock] at hz'), fun z hz' => ?_, by omega, (h.below.trans (hf.below hz fun z hz' => ?_)).trans (lower' hb5 (by omega))⟩
  · rcases List.mem_append.1 hy with hy | hy
    · simp at hy ⊢; omega
    · exact List.mem_append_left _ (List.mem_append_right _ hy)
  · have := hvn z hz'
    simp at hm; omega
  · simp at hz'; omega
  · simp at hz'; omega
end
end Go.Proofs.Ytajakmfloeefpaa
/- LogPlays: the document's calls, beside the program's. -/
namespace Go.Proofs.Ytajakmfloeefpaa
open Go.RowKit Go.Maps

theorem recs_le {L : LG} (h : L.Ok) : L.recs.length ≤ 4096 := by
  have h1 := endR_le L.first L.recs
  have h2 := h.endd
  have h3 := h.behind
  unfold LG.endd at h2
  omega
section
variable {W0 wr w' w5 w9 : World} {bx bl p bs bw q base m T lo c C : Nat} {M M' : DM} {L L' : LG} {v : Value} {A : Option Addr}
theorem LpS.rapp (h : LpS W0 wr bx bl p bs bw q base m T M' M L' L v lo A c C) {X : List Nat} {vd : Value} (hv : RefV wr X (refOf M) vd) (hX : ∀ x ∈ X, x < wr.heap.size) (hst : M.steps + 70 ≤ 1000000000) (hok : L.Ok) (hd : ∀ x ∈ L.recs, x.2.length ≤ 4000) (hC : L.first + C = L.behind) (hsz : L.behind ≤ M.size) (hlo : lo ≤ wr.heap.size) (d : List UInt8) (hdl : d.length ≤ 140737488351232) :
    Calls Try.prog 10 #[vd, .agg #[.int .i64 (L.first : Int), .int .i64 (C : Int), .slice A L.recs.length c, .int .i64 (L.next : Int)], .string ⟨d.toArray⟩] wr fun e w' => TurnedR wr w' X (appR L M d).2.1 (appR L M d).1 lo L.first C ((appR L M d).2.2.next : Int) (appR L M d).2.2.recs e := by
  have hp : 0 < M.size := by rw [h.size.2.1]; exact h.size.2.2
  by_cases h1 : 4000 < d.length
  · have e0 : appR L M d = (3, M, L) := if_pos h1
    rw [e0]
    exact rappend_bad wr X M vd hv hp L hok lo A c h.own hd d hdl 3 (.inl ⟨rfl, h1⟩) C hC
  · by_cases h2 : L.room < (d.length : Int)
    · have e0 : appR L M d = (5, M, L) := (if_neg h1).trans (if_pos h2)
      rw [e0]
      exact rappend_bad wr X M vd hv hp L hok lo A c h.own hd d hdl 5 (.inr ⟨rfl, by omega, h2⟩) C hC
    · refine (rappend_ok wr X M T vd hv h.okR hst hp hX L hok lo A c h.own hlo hd d (by omega) h2 C hC hsz).mono ?_
      rintro e w' ⟨h3, h4⟩
      by_cases h0 : (runOps (appOps L.first L.recs L.next d) M).1 = 0
      · have e0 : appR L M d = (0, (runOps (appOps L.first L.recs L.next d) M).2, L.add L.next d) := (if_neg h1).trans ((if_neg h2).trans (if_pos h0))
        rw [e0]
        have h5 := h3 h0
        unfold LG.add
        dsimp only
        rw [Int.natCast_add]
        exact h5
      · have e0 : appR L M d = (30, (runOps (appOps L.first L.recs L.next d) M).2, L) := (if_neg h1).trans ((if_neg h2).trans (if_neg h0))
        rw [e0]
        exact h4 h0
theorem LpS.rrst (h : LpS W0 wr bx bl p bs bw q base m T M' M L' L v lo A c C) {X : List Nat} {vd : Value} (hv : RefV wr X (refOf M) vd) (hX : ∀ x ∈ X, x < wr.heap.size) (hst : M.steps + 8400 ≤ 1000000000) (hok : L.Ok) (hd : ∀ x ∈ L.recs, x.2.length ≤ 4000) (hsz : L.behind ≤ M.size) (n : Int) :
    Calls Try.prog 12 #[vd, .agg #[.int .i64 (L.first : Int), .int .i64 (C : Int), .slice A L.recs.length c, .int .i64 (L.next : Int)], .int .i64 n] wr fun e w' => TurnedR wr w' X (rstR L M n).2.1 (rstR L M n).1 lo L.first C ((rstR L M n).2.2.next : Int) (rstR L M n).2.2.recs e := by
  have hp : 0 < M.size := by rw [h.size.2.1]; exact h.size.2.2
  by_cases h1 : n < 1 ∨ 4611686018427387904 < n
  · have e0 : rstR L M n = (1, M, L) := if_pos h1
    rw [e0]
    exact rreset_bad wr X M vd hv hp L.recs lo A c h.own L.first C L.next n (by omega)
  · have hen : endR L.first L.recs ≤ L.behind := hok.endd
    have hbe := hok.behind
    refine (rreset_ok wr X M T vd hv h.okR hst hp hX L.recs L.first lo A c h.own hd C L.next n (by omega) (by omega) (by omega) (by omega)).mono ?_
    rintro e w' ⟨h3, h4⟩
    by_cases h0 : (runOps (rstOps L.first L.recs) M).1 = 0
    · have e0 : rstR L M n = (0, (runOps (rstOps L.first L.recs) M).2, LG.mk L.first L.behind [] n.toNat) := (if_neg h1).trans (if_pos h0)
      rw [e0]
      have hn : ((n.toNat : Nat) : Int) = n := by omega
      dsimp only
      rw [hn]
      exact h3 h0
    · have e0 : rstR L M n = (30, (runOps (rstOps L.first L.recs) M).2, L) := (if_neg h1).trans (if_neg h0)
      rw [e0]
      exact h4 h0
end
/-- What goes on from round to round. -/
structure LpT (W0 wr : World) (bx bl p bs bw q base m T first count : Nat) (M : DM) (L : LG) (v : Value) (lo : Nat) (A : Option Addr) (c : Nat) : Prop where
  st : LpS W0 wr bx bl p bs bw q base m T M M L L v lo A c count
  dat : ∀ x ∈ L.recs, x.2.length ≤ 4000
  steps : M.steps ≤ T
  fst : L.first = first
  bh : L.behind = first + count
  lo : lo ≤ wr.heap.size
section
variable {W0 wr w' w5 w9 : World} {bx bl p bs bw q base m T first count lo c : Nat} {M : DM} {L : LG} {v : Value} {A : Option Addr}
theorem LpT.kept (h : LpT W0 wr bx bl p bs bw q base m T first count M L v lo A c) (hb : Below wr.heap.size wr w') : LpT W0 w' bx bl p bs bw q base m T first count M L v lo A c := ⟨h.st.kept hb, h.dat, h.steps, h.fst, h.bh, Nat.le_trans h.lo hb.size⟩
theorem LpT.ok (h : LpT W0 wr bx bl p bs bw q base m T first count M L v lo A c) : L.Ok := h.st.log.log.ok
theorem LpT.fit (h : LpT W0 wr bx bl p bs bw q base m T first count M L v lo A c) (hT : T ≤ 1000000) : Fit M T 8400 := ⟨h.st.okM.size, by have := h.steps; omega, h.st.okM.left, by omega⟩
theorem LpT.both (h : LpT W0 wr bx bl p bs bw q base m T first count M L v lo A c) {vd : Value} (hv : RefV wr ([bx, bl, p, bs, bw, q] ++ v.ownBlock.toList) (refOf M) vd) : Both wr p bs bw T M vd :=
  ⟨h.st.log.disk, hv.sub (fun y hy => List.mem_append_left _ (by simp at hy ⊢; omega)), h.st.okM⟩
theorem app_facts {L : LG} {M : DM} {T : Nat} (d : List UInt8) (hs : M.steps ≤ T) (hd : ∀ x ∈ L.recs, x.2.length ≤ 4000) : (appR L M d).2.1.size = M.size ∧ (appR L M d).2.1.steps ≤ T + 70 ∧ (appR L M d).2.1.left ≤ M.left ∧ (appR L M d).2.2.first = L.first ∧ (appR L M d).2.2.behind = L.behind ∧ ∀ x ∈ (appR L M d).2.2.recs, x.2.length ≤ 4000 := by
  have hf := runOps_facts (appOps L.first L.recs L.next d) M
  unfold appR
  split
  · exact ⟨rfl, by show M.steps ≤ _; omega, Nat.le_refl _, rfl, rfl, hd⟩
  · rename_i h4
    have hlen : (appOps L.first L.recs L.next d).length ≤ 70 := by rw [appOps_len]; unfold secs; omega
    split
    · exact ⟨rfl, by show M.steps ≤ _; omega, Nat.le_refl _, rfl, rfl, hd⟩
    · split
      · refine ⟨hf.1, by have := hf.2.1; show (runOps _ M).2.steps ≤ _; omega, hf.2.2.1, rfl, rfl, fun x hx => ?_⟩
        rcases List.mem_append.1 hx with hx | hx
        · exact hd x hx
        · rw [List.mem_singleton.1 hx]; show d.length ≤ 4000; omega
      · exact ⟨hf.1, by have := hf.2.1; show (runOps _ M).2.steps ≤ _; omega, hf.2.2.1, rfl, rfl, hd⟩
theorem rst_facts {L : LG} {M : DM} {T : Nat} (n : Int) (hs : M.steps ≤ T) (hL : L.Ok) (hd : ∀ x ∈ L.recs, x.2.length ≤ 4000) : (rstR L M n).2.1.size = M.size ∧ (rstR L M n).2.1.steps ≤ T + 4100 ∧ (rstR L M n).2.1.left ≤ M.left ∧ (rstR L M n).2.2.first = L.first ∧ (rstR L M n).2.2.behind = L.behind ∧ ∀ x ∈ (rstR L M n).2.2.recs, x.2.length ≤ 4000 := by
  have hf := runOps_facts (rstOps L.first L.recs) M
  have hlen : (rstOps L.first L.recs).length ≤ 4100 := by
    have h1 : endR L.first L.recs ≤ L.behind := hL.endd
    have h2 := hL.behind
    have h3 := others_len L.recs L.first
    have h4 := heads_len L.first L.recs
    unfold rstOps
    split
    · exact Nat.zero_le _
    · simp only [wipeOps, List.length_append, zeroOps_len, List.length_singleton, h4]
      omega
  unfold rstR
  split
  · exact ⟨rfl, by show M.steps ≤ _; omega, Nat.le_refl _, rfl, rfl, hd⟩
  · split
    · exact ⟨hf.1, by have := hf.2.1; show (runOps _ M).2.steps ≤ _; omega, hf.2.2.1, rfl, rfl, fun x hx => by cases hx⟩
    · exact ⟨hf.1, by have := hf.2.1; show (runOps _ M).2.steps ≤ _; omega, hf.2.2.1, rfl, rfl, hd⟩
end
end Go.Proofs.Ytajakmfloeefpaa
/- Scripts of a log's calls among the arguments, opened. -/
namespace Go.Proofs.Ytajakmfloeefpaa
open Go.ChangeShapes Go.WideShapes Go.ChangeAt Go.RowKit Go.Deep
set_option maxRecDepth 100000

/-- One call. -/
structure OpL where
  kind : Int
  n : Int
  cut : Int
  b : RowB
  KA : Option Addr
  keep : List Bool
  kc : Nat
structure OpL.ok (o : OpL) (W : World) (B : Nat) : Prop where
  n : -9223372036854775808 ≤ o.n ∧ o.n ≤ 9223372036854775807
  b : o.b.ok W B
  keep : Rd W B o.KA (o.keep.map Value.bool)
  kc : o.keep.length ≤ 140737488351232
theorem trod_struct5 {H : Type} {enc : TypeId × Value → H} {P : Program} {w : World} {base : Nat} {spare : Nat → Bool} {held : Bool} {t : TypeId} {f0 f1 f2 f3 f4 : Field} {fuel : Nat} {cs : List Value} {x : DataW H × List MemPlace}
    (ht : P.underlying t = some (.struct #[f0, f1, f2, f3, f4])) (h : DataW.trod enc P w base spare held fuel t cs = some x) :
    ∃ y0 y1 y2 y3 y4 n, x.1 = .agg [y0.1, y1.1, y2.1, y3.1, y4.1] ∧ cs.length = P.cellsOf t ∧ DataW.trod enc P w base spare held n f0.type ((cs.drop f0.offset).take (P.cellsOf f0.type)) = some y0 ∧
      DataW.trod enc P w base spare held n f1.type ((cs.drop f1.offset).take (P.cellsOf f1.type)) = some y1 ∧ DataW.trod enc P w base spare held n f2.type ((cs.drop f2.offset).take (P.cellsOf f2.type)) = some y2 ∧
      DataW.trod enc P w base spare held n f3.type ((cs.drop f3.offset).take (P.cellsOf f3.type)) = some y3 ∧ DataW.trod enc P w base spare held n f4.type ((cs.drop f4.offset).take (P.cellsOf f4.type)) = some y4 := by
  obtain ⟨xs, n, _, rfl, hl, hlen, hf⟩ := DataW.trod_struct ht h
  match xs, hlen with
  | [y0, y1, y2, y3, y4], _ => exact ⟨y0, y1, y2, y3, y4, n, by simp, hl, by simpa using hf 0 f0 rfl, by simpa using hf 1 f1 rfl, by simpa using hf 2 f2 rfl, by simpa using hf 3 f3 rfl, by simpa using hf 4 f4 rfl⟩
theorem bytes_bool : Try.prog.bytesOf 4 = 1 := by kernel_rfl
theorem flags_trod {H : Type} {enc : TypeId × Value → H} {W : World} {fuel : Nat} {v : Value} {y : DataW H × List MemPlace}
    (hf : DataW.trod enc Try.prog W 0 (fun _ => true) true fuel 31 [v] = some y) (hsz : ∀ n ∈ y.1.weights Try.prog 31, n ≤ reachBytes) :
    ∃ (A : Option Addr) (l : List Bool) (c : Nat), v = .slice A l.length c ∧ Rd W W.heap.size A (l.map Value.bool) ∧ l.length ≤ 140737488351232 := by
  rcases open_bools Try.underlying31 Try.underlying4 (by kernel_rfl) hf with ⟨hcs, _⟩ | ⟨x, len0, cap0, Bf, hcs, _, hl, hm, hx, hcell⟩
  · simp only [List.cons.injEq, and_true] at hcs
    subst hcs
    exact ⟨none, [], 0, rfl, Rd.emp _ _ _, by simp⟩
  · simp only [List.cons.injEq, and_true] at hcs
    subst hcs
    have hw : len0 ≤ 140737488351232 := by
      have hy : y.1 = boolRow (some x) len0 cap0 Bf := by rw [hx]
      have := hsz ((len0 + (cap0 - len0)) * Try.prog.bytesOf 4) (by rw [hy]; simp [boolRow, DataW.weights, Try.underlying31])
      rw [bytes_bool] at this
      simp only [reachBytes] at this
      omega
    refine ⟨some x, (List.range len0).map Bf, cap0, by simp, ?_, by simpa using hw⟩
    have hcc : ∀ j u, (((List.range len0).map Bf).map Value.bool)[j]? = some u → W.cell? (x.add j) = some u := by
      intro j u hu
      have hj : j < len0 := by simpa using (List.getElem?_eq_some_iff.1 hu).1
      rw [hcell j (by omega), ← hu]
      simp [hj]
    by_cases hb : x.block < W.heap.size
    · exact Rd.ofAddr hb hcc
    · intro hn
      obtain ⟨y, r, hyr⟩ := List.exists_cons_of_ne_nil hn
      have := hcc 0 y (by rw [hyr]; rfl)
      have h2 := World.block_lt_of_cell? W _ this
      simp [Addr.add] at h2
      omega
instance : Inhabited OpL := ⟨⟨0, 0, 0, default, none, [], 0⟩⟩
def OpL.cells (o : OpL) : List Value := [.int .i64 o.kind, .int .i64 o.n, .int .i64 o.cut, .slice o.b.A o.b.l.length o.b.c, .slice o.KA o.keep.length o.kc]
def opsL (L : List OpL) : List Value := L.flatMap OpL.cells
theorem opsL_len (L : List OpL) : (opsL L).length = L.length * 5 := by
  induction L with
  | nil => rfl
  | cons a L ih => simp only [opsL, List.flatMap_cons, List.length_append] at ih ⊢; rw [ih]; simp [OpL.cells]; omega
theorem opsL_get (L : List OpL) : ∀ (i : Nat) (h : i < L.length) (j : Nat), j < 5 → (opsL L)[i * 5 + j]? = (L[i].cells)[j]? := by
  induction L with
  | nil => intro i h; exact absurd h (by simp)
  | cons a L ih =>
    intro i h j hj
    cases i with
    | zero =>
      show (a.cells ++ opsL L)[0 * 5 + j]? = _
      rw [List.getElem?_append_left (by simp [OpL.cells]; omega)]
      simp
    | succ i =>
      show (a.cells ++ opsL L)[(i + 1) * 5 + j]? = _
      rw [List.getElem?_append_right (by simp [OpL.cells]; omega)]
      have : (i + 1) * 5 + j - a.cells.length = i * 5 + j := by simp [OpL.cells]; omega
      rw [this, ih i (by simpa using h) j hj]
      simp
theorem cells_opL : Try.prog.cellsOf 47 = 5 := by kernel_rfl
theorem open_opsL {H : Type} {enc : TypeId × Value → H} {W : World} {base : Nat} {v : Value} {d : DataW H} {p : List MemPlace} (hv : Value.okWide Try.prog W .any base 24 v)
    (h : DataW.Trod enc Try.prog W 0 (fun _ => true) true 24 v d p) (hsz : ∀ n ∈ d.weights Try.prog 24, n ≤ reachBytes) :
    ∃ (A : Option Addr) (L : List OpL) (c : Nat), v = .slice A L.length c ∧ Rd W W.heap.size A (opsL L) ∧ (∀ o ∈ L, o.ok W W.heap.size) := by
  obtain ⟨a0, len0, cap0, rfl⟩ := okWide_slice Try.underlying24 hv
  obtain ⟨fuel, hf⟩ := h
  rcases open_slice Try.underlying24 hf with ⟨hcs, _⟩ | ⟨x, len, cap, m, n, D, Pl, hcs, _, hl, hm, hmm, hx, hel⟩
  · simp [Value.cells] at hcs
    obtain ⟨rfl, rfl, rfl⟩ := hcs
    exact ⟨none, [], 0, rfl, Rd.emp _ _ _, by simp⟩
  · simp [Value.cells] at hcs
    obtain ⟨rfl, rfl, rfl⟩ := hcs
    simp only [if_true] at hmm
    subst hmm
    simp only [Prod.mk.injEq] at hx
    obtain ⟨rfl, -⟩ := hx
    rw [cells_opL] at hel
    have hel2 : ∀ i, i < len0 → ∃ q : OpL, q.ok W W.heap.size ∧ ∀ j u, q.cells[j]? = some u → W.cell? ((x.add (i * 5)).add j) = some u := by
      intro i hi
      obtain ⟨cs', hc, ht⟩ := hel i (by omega)
      obtain ⟨y0, y1, y2, y3, y4, n', hy, hlen, h0, h1, h2, h3, h4⟩ := trod_struct5 Try.underlying47 ht
      obtain ⟨_, hcl, hat⟩ := World.cells?_some hc
      match cs', hcl with
      | [c0, c1, c2, c3, c4], _ =>
        have g0 : DataW.trod enc Try.prog W 0 (fun _ => true) true n' 3 [c0] = some y0 := by simpa [show Try.prog.cellsOf 3 = 1 from by kernel_rfl] using h0
        have g1 : DataW.trod enc Try.prog W 0 (fun _ => true) true n' 3 [c1] = some y1 := by simpa [show Try.prog.cellsOf 3 = 1 from by kernel_rfl] using h1
        have g2 : DataW.trod enc Try.prog W 0 (fun _ => true) true n' 3 [c2] = some y2 := by simpa [show Try.prog.cellsOf 3 = 1 from by kernel_rfl] using h2
        have g3 : DataW.trod enc Try.prog W 0 (fun _ => true) true n' 45 [c3] = some y3 := by simpa [show Try.prog.cellsOf 45 = 1 from by kernel_rfl] using h3
        have g4 : DataW.trod enc Try.prog W 0 (fun _ => true) true n' 31 [c4] = some y4 := by simpa [show Try.prog.cellsOf 31 = 1 from by kernel_rfl] using h4
        have hwt : ∀ (k : Nat) (t : TypeId) (y : DataW H × List MemPlace), (∀ nn ∈ y.1.weights Try.prog t, nn ∈ (D i).weights Try.prog 47) → ∀ nn ∈ y.1.weights Try.prog t, nn ≤ reachBytes := by
          intro _ t y hin nn hnn
          refine hsz nn ?_
          simp only [DataW.weights, Try.underlying24, List.mem_cons, List.mem_append]
          exact .inr (.inl (weightsAll_mem (d := D i) (List.mem_map.2 ⟨i, List.mem_range.2 hi, rfl⟩) _ (hin nn hnn)))
        obtain ⟨z0, e0, _, w0⟩ := DataW.trod_int Try.underlying3 g0
        obtain ⟨z1, e1, _, w1⟩ := DataW.trod_int Try.underlying3 g1
        obtain ⟨z2, e2, _, _⟩ := DataW.trod_int Try.underlying3 g2
        have hDi : D i = .agg [y0.1, y1.1, y2.1, y3.1, y4.1] := hy
        obtain ⟨r, hr, hrok⟩ := bytes_trod g3 (hwt 3 45 y3 (fun nn hnn => by rw [hDi]; simp only [DataW.weights, Try.underlying47]; simp [DataW.weightsEach, hnn]))
        obtain ⟨KA, kl, kc, hk, hkr, hkl⟩ := flags_trod g4 (hwt 4 31 y4 (fun nn hnn => by rw [hDi]; simp only [DataW.weights, Try.underlying47]; simp [DataW.weightsEach, hnn]))
        simp only [List.cons.injEq, and_true] at e0 e1 e2
        subst e0 e1 e2 hr hk
        refine ⟨⟨z0, z1, z2, r, KA, kl, kc⟩, ⟨fits_num w1, hrok, hkr, hkl⟩, fun j u hu => ?_⟩
        have hj : j < 5 := by
          have := (List.getElem?_eq_some_iff.1 hu).1
          simpa [OpL.cells] using this
        rw [hat j hj, ← hu]
        rfl
    obtain ⟨L, hL, hk⟩ := choose_rows len0 hel2
    subst hL
    refine ⟨some x, L, m, rfl, ?_, ?_⟩
    · have hcc : ∀ j u, (opsL L)[j]? = some u → W.cell? (x.add j) = some u := by
        intro j u hu
        have hj : j < L.length * 5 := by
          have := (List.getElem?_eq_some_iff.1 hu).1
          rwa [opsL_len] at this
        have hd : j = j / 5 * 5 + j % 5 := by omega
        have hk3 : j / 5 < L.length := by omega
        rw [hd, opsL_get L (j / 5) hk3 (j % 5) (by omega)] at hu
        have := (hk (j / 5) hk3).2 (j % 5) u hu
        rw [addAdd] at this
        rw [hd]
        exact this
      by_cases hb : x.block < W.heap.size
      · exact Rd.ofAddr hb hcc
      · intro hn
        obtain ⟨y, r, hyr⟩ := List.exists_cons_of_ne_nil hn
        have := hcc 0 y (by rw [hyr]; rfl)
        have h2 := World.block_lt_of_cell? W _ this
        simp [Addr.add] at h2
        omega
    · intro q hq
      obtain ⟨i, hi, rfl⟩ := List.mem_iff_getElem.1 hq
      exact (hk i hi).1
end Go.Proofs.Ytajakmfloeefpaa
/- LogPlays: its switch and what stands behind it, taken out of the law's text; where an arm of it begins. -/
namespace Go.Proofs.Ytajakmfloeefpaa
open Go.RowKit Go.Maps

def firstBlk (k : Nat) : Code → Option Code
  | .block n c => if n = k then some (.block n c) else firstBlk k c
  | .loop c => firstBlk k c
  | .scope c => firstBlk k c
  | .seq a b => match firstBlk k a with
    | some c => some c
    | none => firstBlk k b
  | .cond _ a b => match firstBlk k a with
    | some c => some c
    | none => firstBlk k b
  | _ => none
def endBlk (k : Nat) : Code → Bool
  | .block n _ => n == k
  | .seq _ b => endBlk k b
  | _ => false
def pastBlk (k : Nat) : Code → Option Code
  | .seq a b => if endBlk k a then some b else match pastBlk k a with
    | some c => some c
    | none => pastBlk k b
  | .block _ c => pastBlk k c
  | .loop c => pastBlk k c
  | .scope c => pastBlk k c
  | .cond _ a b => match pastBlk k a with
    | some c => some c
    | none => pastBlk k b
  | _ => none
noncomputable def lpSw : Code := ((Try.f3.body.bind (firstBlk 2)).getD .skip)
noncomputable def lpTail : Code := ((Try.f3.body.bind (pastBlk 2)).getD .skip)
theorem wp_noway2 {P : Program} {c : Code} {Q : Exit → Act → World → Prop} {a : Act} {w : World} (h : Code.wp P c (Exit.then (fun a w => Q .normal a w) (fun _ _ _ => False)) a w) : Code.wp P c Q a w := by
  refine Code.wp_mono ?_ h
  intro e a' w' hq
  cases e with
  | normal => exact hq
  | exit id => exact hq.elim
  | goto l => exact hq.elim
  | ret => exact hq.elim
  | panic ch => exact hq.elim
  | outgrown => exact hq.elim
/-- What goes on from round to round, in short. -/
def LpR (W0 wr : World) (bx bl p q m T first count : Nat) : Prop := ∃ bs bw base M L v lo A c, LpT W0 wr bx bl p bs bw q base m T first count M L v lo A c
/-- Where an arm of the switch begins. -/
structure ArmL (W0 w W8 : World) (ba bx bl bo p bs bw q base m T first count j : Nat) (M : DM) (L : LG) (v : Value) (lo : Nat) (A : Option Addr) (c : Nat) (o : OpL) : Prop where
  tl : T ≤ 5000 * (j + 1)
  jl : j < 40
  st : LpT W0 W8 bx bl p bs bw q base m T first count M L v lo A c
  op : W8.heap[bo]? = some (.cells #[.int .i64 o.kind, .int .i64 o.n, .int .i64 o.cut, .slice o.b.A o.b.l.length o.b.c, .slice o.KA o.keep.length o.kc] 47 (0, 0))
  off : bo ∉ [bx, bl, p, bs, bw, q] ++ v.ownBlock.toList
  ok : o.ok w w.heap.size
  low : ∀ W, Below W0.heap.size W0 W → Below w.heap.size w W
  area : W0.heap[ba]? = some (.cells #[.int .i64 (m : Int), .int .i64 (first : Int), .int .i64 (count : Int)] 23 (0, 0))
  fit : first + count ≤ m
  two : 2 ≤ count
  m40 : m ≤ 40
theorem ArmL.offF {W0 w W8 : World} {ba bx bl bo p bs bw q base m T first count j lo c : Nat} {M : DM} {L : LG} {v : Value} {A : Option Addr} {o : OpL} (h : ArmL W0 w W8 ba bx bl bo p bs bw q base m T first count j M L v lo A c o) : bo ∉ [p, bs, bw, q] ++ v.ownBlock.toList := fun hm => h.off (by
  rcases List.mem_append.1 hm with hm | hm
  · exact List.mem_append_left _ (List.mem_cons_of_mem _ (List.mem_cons_of_mem _ hm))
  · exact List.mem_append_right _ hm)
theorem fr_get {w w' : World} {S : List Nat} {b : Nat} {o : Obj} (hf : Fr w w' S) (h : w.heap[b]? = some o) (hS : b ∉ S) : w'.heap[b]? = some o := (hf.block b (heap_lt h) hS).trans h
theorem rarm_X {w : World} {X : List Nat} {R : DM} {v : Value} (hv : RefV w X (refOf R) v) (n : Int) :
    Calls Try.prog 14 #[v, .int .i64 n] w fun e w' => ∃ B1 B2 B3 m1 m2 m3 d1 d2 d3 s l, e = .returned (.tuple #[.agg #[.slice B1 m1 d1, .slice B2 m2 d2, .slice B3 m3 d3, .int .i64 s, .int .i64 l], .int .i64 (R.armE n)]) ∧ RefV w' X (refOf (R.armM n)) (.agg #[.slice B1 m1 d1, .slice B2 m2 d2, .slice B3 m3 d3, .int .i64 s, .int .i64 l]) ∧ Below w.heap.size w w' := by
  refine (rarm_any w X (refOf R) v hv n).mono ?_
  rintro e w' ⟨v', rfl, hR, hb⟩
  rw [(refOf_arm R n).1]
  rw [(refOf_arm R n).2] at hR
  have hR' := hR
  obtain ⟨A1, A2, A3, c1, c2, c3, rfl, _, _, _⟩ := hR'
  exact ⟨_, _, _, _, _, _, _, _, _, _, _, rfl, hR, hb⟩
theorem rwrite_X {w : World} {X : List Nat} {R : DM} {T : Nat} {v : Value} (hv : RefV w X (refOf R) v) (hk : R.Ok T) (hX : ∀ x ∈ X, x < w.heap.size) (i : Int) (b : List UInt8) :
    Calls Try.prog 17 #[v, .int .i64 i, .string ⟨b.toArray⟩] w fun e w' => ∃ B1 B2 B3 m1 m2 m3 d1 d2 d3 s l, e = .returned (.tuple #[.agg #[.slice B1 m1 d1, .slice B2 m2 d2, .slice B3 m3 d3, .int .i64 s, .int .i64 l], .int .i64 (R.writeE i b)]) ∧ RefV w' X (refOf (R.writeM i b)) (.agg #[.slice B1 m1 d1, .slice B2 m2 d2, .slice B3 m3 d3, .int .i64 s, .int .i64 l]) ∧ Below w.heap.size w w' := by
  refine (rwrite_any w X (refOf R) v hv (refOf_ok hk) hX i b).mono ?_
  rintro e w' ⟨v', rfl, hR, hb⟩
  rw [(refOf_write R i b).1]
  rw [(refOf_write R i b).2] at hR
  have hR' := hR
  obtain ⟨A1, A2, A3, c1, c2, c3, rfl, _, _, _⟩ := hR'
  exact ⟨_, _, _, _, _, _, _, _, _, _, _, rfl, hR, hb⟩
theorem rcrash_X {w : World} {X : List Nat} {R : DM} {T : Nat} {v : Value} (hv : RefV w X (refOf R) v) (hk : R.Ok T) (hX : ∀ x ∈ X, x < w.heap.size) (hful : R.full) (A : Option Addr) (keep : List Bool) (c : Nat) (hr : Rd w w.heap.size A (keep.map Value.bool)) (torn cut : Int) :
    Calls Try.prog 19 #[v, .slice A keep.length c, .int .i64 torn, .int .i64 cut] w fun e w' => ∃ B1 B2 B3 m1 m2 m3 d1 d2 d3 s l, e = .returned (.agg #[.slice B1 m1 d1, .slice B2 m2 d2, .slice B3 m3 d3, .int .i64 s, .int .i64 l]) ∧ RefV w' X (refOf (R.crashed keep torn cut)) (.agg #[.slice B1 m1 d1, .slice B2 m2 d2, .slice B3 m3 d3, .int .i64 s, .int .i64 l]) ∧ Below w.heap.size w w' := by
  refine (rcrash_any w X (refOf R) v hv (refOf_ok hk) hX (refOf_full hful).1 (refOf_full hful).2 A keep c hr torn cut).mono ?_
  rintro e w' ⟨v', rfl, hR, hb⟩
  rw [refOf_crashed] at hR
  have hR' := hR
  obtain ⟨A1, A2, A3, c1, c2, c3, rfl, _, _, _⟩ := hR'
  exact ⟨_, _, _, _, _, _, _, _, _, _, _, rfl, hR, hb⟩
theorem arm_facts (M : DM) (n : Int) (hn : n ≤ 9223372036854775807) (hl : M.left ≤ 9223372036854775807) : (M.armM n).size = M.size ∧ (M.armM n).steps = M.steps ∧ (M.armM n).left ≤ 9223372036854775807 := by
  unfold DM.armM
  split
  · exact ⟨rfl, rfl, hl⟩
  · split
    · exact ⟨rfl, rfl, hl⟩
    · exact ⟨rfl, rfl, by show n.toNat ≤ _; omega⟩
/-- A box of five cells, read; one of four. -/
theorem cells5 {w w' : World} {b : Nat} {x0 x1 x2 x3 x4 : Value} {t : TypeId} (h : w.heap[b]? = some (.cells #[x0, x1, x2, x3, x4] t (0, 0))) (hb : Below w.heap.size w w') :
    w'.heap[b]? = some (.cells #[x0, x1, x2, x3, x4] t (0, 0)) := (hb.block b (heap_lt h)).trans h
end Go.Proofs.Ytajakmfloeefpaa
/- LogPlays: both Opens behind a crash. -/
namespace Go.Proofs.Ytajakmfloeefpaa
open Go.RowKit Go.Maps

/-- Behind both Opens, ahead of the stores of the document's. -/
theorem open_pair {W0 w1 : World} {bx bl p bs bw m T lo c first count : Nat} {M M' : DM} {L : LG} {A : Option Addr} {rs : List Rec} (h : LpC W0 w1 bx bl p bs bw m T M M L lo A c count) (ha : M.armed = false) (hs0 : M.steps = 0) (hT : T ≤ 1000000) (two : 2 ≤ count) (hfit : first + count ≤ m) (hrs : rs = scan M.get (first + count) first none) (hM : M' = (runOps (openOps M first (first + count)) M).2) :
    (Calls Try.prog 7 #[.pointer (some ⟨p, 0, none⟩), .int .i64 (first : Int), .int .i64 (count : Int)] w1 fun e w5 => ∃ q A5 c5 v, e = .returned (.tuple #[.pointer (some ⟨q, 0, none⟩), .slice A5 rs.length c5, .int .i64 0]) ∧ LpS W0 w5 bx bl p bs bw q (q + 1) m (T + 4097) M' M (LG.of first (first + count) rs) L v lo A c count ∧ RecsAt w5 (q + 1) (.slice A5 rs.length c5) rs ∧ w1.heap.size ≤ q ∧ Fr w1 w5 [p, bs, bw]) ∧
    (∀ (w5 : World) (q : Nat) (v vd : Value), LpS W0 w5 bx bl p bs bw q (q + 1) m (T + 4097) M' M (LG.of first (first + count) rs) L v lo A c count → RefV w5 ([bx, bl, p, bs, bw, q] ++ v.ownBlock.toList) (refOf M) vd →
      Calls Try.prog 8 #[vd, .int .i64 (first : Int), .int .i64 (count : Int)] w5 fun e w9 => ∃ B1 B2 B3 m1 m2 m3 d1 d2 d3 s l A' c', e = .returned (.tuple #[.agg #[.slice B1 m1 d1, .slice B2 m2 d2, .slice B3 m3 d3, .int .i64 s, .int .i64 l], .agg #[.int .i64 (first : Int), .int .i64 (count : Int), .slice A' rs.length c', .int .i64 (nxtN rs : Int)], .int .i64 0]) ∧ RefV w9 ([bx, bl, p, bs, bw, q] ++ v.ownBlock.toList) (refOf M') (.agg #[.slice B1 m1 d1, .slice B2 m2 d2, .slice B3 m3 d3, .int .i64 s, .int .i64 l]) ∧ w9.ownsRow w5.heap.size 80 2 (.slice A' rs.length c') rs.length (recS rs) ∧ Below w5.heap.size w5 w9) ∧
    rs.length ≤ 4096 ∧ (∀ x ∈ rs, x.2.length ≤ 4000) ∧ M'.steps ≤ T + 4097 := by
  have hsz := h.size.1
  have hm := h.okM.size
  have hfM : first + count ≤ M.size := by omega
  have hful := h.disk.full
  have hol := openOps_len (M := M) (first := first) (behind := first + count) (by omega)
  have hfa := runOps_facts (openOps M first (first + count)) M
  have h0 : (runOps (openOps M first (first + count)) M).1 = 0 := by rw [runOps_alive ha]
  have hlaid := laid_scan (g := M.get) (behind := first + count) (a := first) (nx := none) (fun i _ hi => (hful i (by omega)).2)
  have hop := open_any h.disk first count two hfM ⟨h.okM.size, by omega, h.okM.left, by omega⟩
  rw [← hrs] at hop hlaid
  rw [← hM] at hop hfa
  have hst : M'.steps ≤ T + 4097 := by have := hfa.2.1; omega
  have hok' : M'.Ok (T + 4097) := ⟨by rw [hfa.1]; exact hm, by have := hfa.2.1; omega, Nat.le_trans hfa.2.2.1 h.okM.left, by omega⟩
  have hokM : M.Ok (T + 4097) := ⟨hm, by omega, h.okM.left, by omega⟩
  refine ⟨hop.mono ?_, fun w5 q v vd hS hv => ?_, ?_, laid_dat hlaid, hst⟩
  · rintro e w5 ⟨h1, -, hf⟩
    obtain ⟨q, u, v, rfl, hq, hr, hl⟩ := h1 h0
    obtain ⟨R, g1, g2, g3⟩ := hr.ex
    have hlen : R.length = rs.length := by rw [← g1, List.length_map]
    obtain ⟨A5, c5, hu, _, _, _⟩ := own_shape g2
    rw [hlen] at hu
    subst hu
    exact ⟨q, A5, c5, v, rfl, h.opened hl hq hf hok' hokM hfa.1, hr, hq, hf⟩
  · have hro := ropen_good w5 _ M (T + 4097) vd hv hokM (by omega) hful (by omega) hS.lt first count two hfM
    rw [← hM, h0, ← hrs] at hro
    refine hro.mono ?_
    rintro e w9 ⟨B1, B2, B3, m1, m2, m3, e1, e2, e3, s9, l9, l0, l1, l2, l3, rfl, hR9, hz9, -, hb9⟩
    obtain ⟨A9, c9, rfl, rfl, rfl, rfl, ho9⟩ := hz9 rfl
    exact ⟨B1, B2, B3, m1, m2, m3, e1, e2, e3, s9, l9, A9, c9, rfl, hR9, ho9, hb9⟩
  · have h1 := hlaid.end_le (Nat.le_add_right _ _)
    have h2 := endR_le first rs
    omega
end Go.Proofs.Ytajakmfloeefpaa
/- LogPlays: both Opens of the way in. -/
namespace Go.Proofs.Ytajakmfloeefpaa
open Go.RowKit Go.Maps

theorem BoxD.new {W0 w1 w2 w3 : World} {m : Nat} (h1 : 1 ≤ m) (h2 : m ≤ 40) (hz : W0.heap.size ≤ w1.heap.size) (hb2 : Below W0.heap.size W0 w2) (hD : DiskM w2 (w1.heap.size + 2) w1.heap.size (w1.heap.size + 1) (DM.new m) 0) (hb3 : Below w2.heap.size w2 w3) {A1 A2 A3 : Option Addr} {n1 n2 n3 c1 c2 c3 : Nat} {s l : Int}
    (hR : RefV w3 [w1.heap.size + 2, w1.heap.size, w1.heap.size + 1] (RD.new m) (.agg #[.slice A1 n1 c1, .slice A2 n2 c2, .slice A3 n3 c3, .int .i64 s, .int .i64 l])) :
    BoxD W0 (w3.alloc (.cells #[.slice A1 n1 c1, .slice A2 n2 c2, .slice A3 n3 c3, .int .i64 s, .int .i64 l] 33)) w3.heap.size (w1.heap.size + 2) w1.heap.size (w1.heap.size + 1) m 0 (DM.new m) (DM.new m) := by
  have ha : Below w3.heap.size w3 (w3.alloc (.cells #[.slice A1 n1 c1, .slice A2 n2 c2, .slice A3 n3 c3, .int .i64 s, .int .i64 l] 33)) := (Below.refl _ _).alloc (Nat.le_refl _) _
  have hl := hD.lt
  have z3 := hb3.size
  rw [← refOf_new] at hR
  have hR2 := (((hR.ext (Y := [w3.heap.size]) h1 (by simp)).sub (Y := [w3.heap.size, w1.heap.size + 2, w1.heap.size, w1.heap.size + 1]) (by simp)).below ha)
  have ok : (DM.new m).Ok 0 := ⟨by show m ≤ _; omega, by show 0 ≤ _; omega, by show 0 ≤ _; omega, by omega⟩
  exact ⟨⟨_, _, _, _, _, _, _, _, _, _, _, heap_alloc_new w3 _, hR2⟩, (hD.kept hb3).kept ha, ok, ok, rfl, rfl, Nat.le_refl _, Nat.le_refl _, h1, by omega, by have := hb2.size; omega, hb2.trans ((lower' hb3 hb2.size).trans (lower' ha (by have := hb2.size; omega)))⟩

theorem opl_cells {w : World} {B : Nat} {A : Option Addr} {L : List OpL} (h : Rd w B A (opsL L)) {k : Nat} (hk : k < L.length) : ∃ ab ao, A = some ⟨ab, ao, none⟩ ∧ ab < B ∧ ∀ w' : World, Below B w w' →
    w'.cell? ⟨ab, ao + k * 5, none⟩ = some (.int .i64 L[k].kind) ∧ w'.cell? ⟨ab, ao + k * 5 + 1, none⟩ = some (.int .i64 L[k].n) ∧ w'.cell? ⟨ab, ao + k * 5 + 2, none⟩ = some (.int .i64 L[k].cut) ∧ w'.cell? ⟨ab, ao + k * 5 + 3, none⟩ = some (.slice L[k].b.A L[k].b.l.length L[k].b.c) ∧ w'.cell? ⟨ab, ao + k * 5 + 4, none⟩ = some (.slice L[k].KA L[k].keep.length L[k].kc) := by
  obtain ⟨ab, ao, e, hab, hc⟩ := h (by intro e; have := opsL_len L; rw [e] at this; simp at this; omega)
  refine ⟨ab, ao, e, hab, fun w' hb => ?_⟩
  have key : ∀ j (hj : j < 5), w'.cell? ⟨ab, ao + (k * 5 + j), none⟩ = L[k].cells[j]? := fun j hj => by
    have hg := opsL_get L k hk j hj
    obtain ⟨u, hu⟩ : ∃ u, L[k].cells[j]? = some u := ⟨_, List.getElem?_eq_getElem (l := L[k].cells) (i := j) (by simpa [OpL.cells] using hj)⟩
    rw [hu] at hg ⊢
    exact (hb.cell (p := ⟨ab, ao + (k * 5 + j), none⟩) hab).trans (hc _ u hg)
  exact ⟨key 0 (by omega), key 1 (by omega), key 2 (by omega), key 3 (by omega), key 4 (by omega)⟩
/-- The way in: both Opens, with the document's log in a box of its own. -/
theorem open_in {W0 w1 : World} {bx p bs bw m T first count : Nat} {M M' : DM} {rs : List Rec} (h : BoxD W0 w1 bx p bs bw m T M M) (ha : M.armed = false) (hs0 : M.steps = 0) (hT : T ≤ 1000000) (two : 2 ≤ count) (hfit : first + count ≤ m) (hrs : rs = scan M.get (first + count) first none) (hM : M' = (runOps (openOps M first (first + count)) M).2) :
    (Calls Try.prog 7 #[.pointer (some ⟨p, 0, none⟩), .int .i64 (first : Int), .int .i64 (count : Int)] w1 fun e w5 => ∃ q A5 c5 v, e = .returned (.tuple #[.pointer (some ⟨q, 0, none⟩), .slice A5 rs.length c5, .int .i64 0]) ∧ LogD w5 (q + 1) q p bs bw (T + 4097) (LG.of first (first + count) rs) v M' ∧ w1.heap.size ≤ q ∧ Fr w1 w5 [p, bs, bw]) ∧
    (∀ (w5 : World) (q : Nat) (v vd : Value), LogD w5 (q + 1) q p bs bw (T + 4097) (LG.of first (first + count) rs) v M' → w1.heap.size ≤ q → Fr w1 w5 [p, bs, bw] → RefV w1 [bx, p, bs, bw] (refOf M) vd →
      Calls Try.prog 8 #[vd, .int .i64 (first : Int), .int .i64 (count : Int)] w5 fun e w9 => ∃ B1 B2 B3 m1 m2 m3 d1 d2 d3 s l A' c', e = .returned (.tuple #[.agg #[.slice B1 m1 d1, .slice B2 m2 d2, .slice B3 m3 d3, .int .i64 s, .int .i64 l], .agg #[.int .i64 (first : Int), .int .i64 (count : Int), .slice A' rs.length c', .int .i64 (nxtN rs : Int)], .int .i64 0]) ∧
        LpT W0 (putB (w9.alloc lgN) bx w9.heap.size (.slice B1 m1 d1) (.slice B2 m2 d2) (.slice B3 m3 d3) (.int .i64 s) (.int .i64 l) (.int .i64 (first : Int)) (.int .i64 (count : Int)) (.slice A' rs.length c') (.int .i64 (nxtN rs : Int))) bx w9.heap.size p bs bw q (q + 1) m (T + 4097) first count M' (LG.of first (first + count) rs) v w5.heap.size A' c' ∧ Below w5.heap.size w5 w9) := by
  have hsz := h.sizeM
  have hm := h.okM.size
  have hfM : first + count ≤ M.size := by omega
  have hful := h.disk.full
  have hol := openOps_len (M := M) (first := first) (behind := first + count) (by omega)
  have hfa := runOps_facts (openOps M first (first + count)) M
  have h0 : (runOps (openOps M first (first + count)) M).1 = 0 := by rw [runOps_alive ha]
  have hlaid := laid_scan (g := M.get) (behind := first + count) (a := first) (nx := none) (fun i _ hi => (hful i (by omega)).2)
  have hop := open_any h.disk first count two hfM ⟨h.okM.size, by omega, h.okM.left, by omega⟩
  rw [← hrs] at hop hlaid
  rw [← hM] at hop hfa
  have hst : M'.steps ≤ T + 4097 := by have := hfa.2.1; omega
  have hok' : M'.Ok (T + 4097) := ⟨by rw [hfa.1]; exact hm, by have := hfa.2.1; omega, Nat.le_trans hfa.2.2.1 h.okM.left, by omega⟩
  have hokM : M.Ok (T + 4097) := ⟨hm, by omega, h.okM.left, by omega⟩
  refine ⟨hop.mono ?_, fun w5 q v vd hl hq hf hv => ?_⟩
  · rintro e w5 ⟨h1, -, hf⟩
    obtain ⟨q, u, v, rfl, hq, hr, hl⟩ := h1 h0
    obtain ⟨R, g1, g2, g3⟩ := hr.ex
    have hlen : R.length = rs.length := by rw [← g1, List.length_map]
    obtain ⟨A5, c5, hu, _, _, _⟩ := own_shape g2
    rw [hlen] at hu
    subst hu
    exact ⟨q, A5, c5, v, rfl, hl, hq, hf⟩
  · have hfst := fun w9 => LpS.first (w9 := w9) h hl hq hf hok' hokM hfa.1
    have hv5 := (hfst w5).1 vd hv
    have hro := ropen_good w5 _ M (T + 4097) vd hv5 hokM (by omega) hful (by have := h.pos; omega) (hfst w5).2.1 first count two hfM
    rw [← hM, h0, ← hrs] at hro
    refine hro.mono ?_
    rintro e w9 ⟨B1, B2, B3, m1, m2, m3, e1, e2, e3, s9, l9, l0, l1, l2, l3, rfl, hR9, hz9, -, hb9⟩
    obtain ⟨A9, c9, rfl, rfl, rfl, rfl, ho9⟩ := hz9 rfl
    have hS := (hfst w9).2.2 hb9
    have hba : Below w9.heap.size w9 (w9.alloc lgN) := (Below.refl _ _).alloc (Nat.le_refl _) _
    have hpos' : 0 < M'.size := by rw [hfa.1]; have := h.pos; omega
    have hR := ((hR9.ext (Y := [w9.heap.size]) hpos' (by simp)).below hba).sub (Y := [bx, w9.heap.size, p, bs, bw, q] ++ v.ownBlock.toList) (fun y hy => by
      rcases List.mem_append.1 hy with hy | hy
      · simp at hy ⊢; omega
      · exact List.mem_append_left _ (List.mem_append_right _ hy))
    have ho := own_below ho9 hba (Nat.le_refl _)
    have hD : LpS W0 (putB (w9.alloc lgN) bx w9.heap.size (.slice B1 m1 e1) (.slice B2 m2 e2) (.slice B3 m3 e3) (.int .i64 s9) (.int .i64 l9) (.int .i64 (first : Int)) (.int .i64 (count : Int)) (.slice A9 rs.length c9) (.int .i64 (nxtN rs : Int))) bx w9.heap.size p bs bw q (q + 1) m (T + 4097) M' M' (LG.of first (first + count) rs) (LG.of first (first + count) rs) v w5.heap.size A9 c9 count := hS.docC (Below.refl _ _) hR ho (recs_off ho hS.typed)
    exact ⟨B1, B2, B3, m1, m2, m3, e1, e2, e3, s9, l9, A9, c9, rfl, ⟨hD, laid_dat hlaid, hst, rfl, rfl, Nat.le_trans hb9.size (Nat.le_trans hba.size (putB_fr _ _ _ _ _ _ _ _ _ _ _ _).size)⟩, hb9⟩
end Go.Proofs.Ytajakmfloeefpaa
