/- Words that the walks of the laws on crashes share. -/
import Derived.Test.YtkanlecgopcocaaLogS
import Derived.Test.YtkanlecgopcocaaLogT
import Derived.Test.YtkanlecgopcocaaArr
import Derived.IntWalk
namespace Go.Proofs.Ytkanlecgopcocaa
open Go.RowKit Go.Maps

theorem infoSl : (Try.prog.info? 36).map (fun i => (i.zero, i.size, i.bytes)) = some (some (.slice none 0 0), 1, 24) := by kernel_rfl
theorem rem_n (n : Int) (m : Nat) (h0 : 0 < m) (h1 : m < 1000) : ∃ k : Nat, k < m ∧ wrap64 ((IntKind.u64.wrap n).tmod (m : Int)) = (k : Int) := by
  have h2 : 0 ≤ IntKind.u64.wrap n := by
    rw [IntKind.wrap_u64]
    omega
  generalize IntKind.u64.wrap n = u at h2
  have h3 := Int.tmod_lt_of_pos u (show (0 : Int) < (m : Int) by omega)
  have h4 := Int.tmod_nonneg (m : Int) h2
  refine ⟨(u.tmod m).toNat, by omega, ?_⟩
  unfold wrap64
  omega
theorem LogD.over {w w' : World} {base q p bs bw T T' : Nat} {L : LG} {v : Value} {M M' : DM} (h : LogD w base q p bs bw T L v M) (hD : DiskM w' p bs bw M' T') (hf : Fr w w' [p, bs, bw]) (hs : M'.size = M.size) : LogD w' base q p bs bw T' L v M' :=
  ⟨h.ap.fr h.log hf, hD, h.ap, Nat.le_trans h.low hf.size, by rw [hs]; exact h.fits, by rw [hs]; exact h.size⟩
/-- While appends go on, or behind the one at which the power went. -/
def Stand (dy : Bool) (M : DM) (L : LG) (ds : List (List UInt8)) (d : List UInt8) (n k : Nat) : Prop :=
  if dy then Torn M L.first L.behind ds d n else Going M L ds n k
theorem Stand.fit {dy : Bool} {M : DM} {L : LG} {ds : List (List UInt8)} {d : List UInt8} {n k T : Nat} (h : Stand dy M L ds d n k) (hn : n ≤ 4096) (hk : k ≤ 1000) (hT : T ≤ 1000000) : Fit M T 70 := by
  cases dy with
  | true => exact Torn.fit h hn hT
  | false => exact Going.fit h hn hk hT
theorem Stand.crash {dy : Bool} {M : DM} {L : LG} {ds : List (List UInt8)} {d : List UInt8} {n k : Nat} (h : Stand dy M L ds d n k) (hfull : M.full) (hb : L.behind ≤ n) (keep : List Bool) (torn cut : Int) :
    Whole (M.crashed keep torn cut).sure L.first L.behind (numR 1 ds) ∨ dy = true ∧ Whole (M.crashed keep torn cut).sure L.first L.behind (numR 1 (ds ++ [d])) := by
  cases dy with
  | true =>
    rcases Torn.crash' h hfull hb keep torn cut with h1 | h1
    · exact .inl h1
    · exact .inr ⟨rfl, h1⟩
  | false => exact .inl (Going.crash h hfull hb keep torn cut)
/-- Rows of bytes among the arguments, cut or not. -/
def RowB.cut (r : RowB) (n : Nat) : RowB := ⟨r.A, r.l.take n, r.c⟩
theorem RowB.ok.cut {r : RowB} {w : World} {B : Nat} (h : r.ok w B) (n : Nat) : (r.cut n).ok w B := by
  obtain ⟨h1, h2, h3⟩ := h
  refine ⟨?_, ?_, h3⟩
  · show Rd w B r.A (u8s (r.l.take n))
    rw [u8s_take]
    exact h1.take n
  · show (r.l.take n).length ≤ r.c
    rw [List.length_take]
    omega
theorem RowB.str {r : RowB} {w : World} {B : Nat} (h : r.ok w B) : (convert 36 9 (.slice r.A r.l.length r.c)).run Try.prog w = .ok (.string ⟨r.l.toArray⟩) w := strAt h.1 rfl
/-- An Open behind a crash. -/
theorem open_crashed {w : World} {p bs bw T : Nat} {M : DM} {rs : List Rec} (hD : DiskM w p bs bw M T) (ha : M.armed = false) (hw : Calm M) (hs : M.steps = 0) (hl : M.left = 0) (first count : Nat) (hc : 2 ≤ count) (hfit : first + count ≤ M.size) (hz : M.size ≤ 4096) (hT : T ≤ 1000000) (hW : Whole M.sure first (first + count) rs) :
    Calls Try.prog 15 #[.pointer (some ⟨p, 0, none⟩), .int .i64 (first : Int), .int .i64 (count : Int)] w fun e w' =>
      ∃ q A c v R M', e = .returned (.tuple #[.pointer (some ⟨q, 0, none⟩), .slice A (List.length R) c, .int .i64 0]) ∧ w.heap.size ≤ q ∧ R.map (fun r => (r.s, r.d)) = rs ∧ Rd w' w'.heap.size A (recC R) ∧ (∀ r ∈ R, DataAt w' r.A r.d) ∧ LogD w' (q + 1) q p bs bw (T + 4097) (LG.of first (first + count) rs) v M' ∧ Fr w w' [p, bs, bw] := by
  have hscan := open_scan hw hW
  refine (open_any hD first count hc hfit ⟨hz, by rw [hs]; omega, by rw [hl]; omega, by omega⟩).mono ?_
  rintro e w' ⟨h1, _, h3⟩
  rw [hscan] at h1
  obtain ⟨q, u, v, rfl, h4, h5, h6⟩ := h1 (by rw [runOps_alive ha])
  obtain ⟨R, hR1, hR2, hR3⟩ := h5.ex
  obtain ⟨A, c, rfl, _, _, hR4⟩ := own_shape hR2
  exact ⟨q, A, c, v, R, _, rfl, h4, hR1, hR4, hR3, h6, h3⟩
theorem numR_of {R : List RecR} {D : List (List UInt8)} (h : R.map (fun r => (r.s, r.d)) = numR 1 D) : R.length = D.length ∧ ∀ k (hk : k < R.length) (hk2 : k < D.length), R[k].s = 1 + k ∧ R[k].d = D[k] := by
  have hl : R.length = D.length := by have := congrArg List.length h; rw [List.length_map, numR_len] at this; exact this
  refine ⟨hl, fun k hk hk2 => ?_⟩
  have h1 := numR_get D 1 k hk2
  rw [← h, List.getElem?_map, List.getElem?_eq_getElem hk] at h1
  simp at h1
  exact h1
theorem recC_get (R : List RecR) (k : Nat) (h : k < R.length) : (recC R)[k * 2]? = some (.int .i64 (R[k].s : Int)) ∧ (recC R)[k * 2 + 1]? = some (.slice R[k].A R[k].d.length R[k].c) := by
  induction R generalizing k with
  | nil => exact absurd h (by simp)
  | cons a R ih =>
    cases k with
    | zero => exact ⟨rfl, rfl⟩
    | succ k =>
      have := ih k (by simpa using h)
      rw [show (k + 1) * 2 = k * 2 + 2 by omega]
      exact this

theorem Fr.of_grownR {w w' : World} {r : Option Nat} (h : w.grownBy w' r) : Fr w w' r.toList := by
  cases r with
  | none => exact Fr.of_grown0 h _
  | some b => exact Fr.of_grown h
/-- A row of rows stays in a call on a log. -/
theorem fr_below {w w' : World} {base q p bs bw T B : Nat} {L : LG} {v : Value} {M : DM} (h : LogD w base q p bs bw T L v M) (hf : Fr w w' ([p, bs, bw, q] ++ v.ownBlock.toList)) (hB : B ≤ w.heap.size) (hp : B ≤ p ∧ B ≤ bs ∧ B ≤ bw ∧ B ≤ q) : Below B w w' := by
  refine hf.below hB (fun x hx => ?_)
  have := h.log.lt
  rcases List.mem_append.1 hx with h1 | h1
  · simp at h1; omega
  · have := own_ge h.log.row x h1; omega
theorem row_logged {w w' : World} {base q p bs bw T B n : Nat} {L : LG} {v u : Value} {M : DM} {xs : List Value} (hL : LogD w base q p bs bw T L v M) (hf : Fr w w' ([p, bs, bw, q] ++ v.ownBlock.toList)) (hu : w.ownsRow B 36 1 u n xs) (hB : base ≤ B) : w'.ownsRow B 36 1 u n xs := by
  refine rowFrS hu hf (fun s hs hm => ?_)
  have h1 := own_ge hu s hs
  have h2 := hL.ap.lp
  have h3 := hL.ap.ls
  have h4 := hL.ap.lw
  have h5 := hL.log.lt
  rcases List.mem_append.1 hm with h6 | h6
  · simp at h6; omega
  · exact own_apart hu hL.log.row (by decide) s hs h6
/-- A log stays while such a row grows. -/
theorem LogD.beside {w w5 w6 : World} {base q p bs bw T B n : Nat} {L : LG} {v u : Value} {M : DM} {xs : List Value} {o : Obj} (hL : LogD w base q p bs bw T L v M) (hw : w5 = w.alloc o) (hu : w.ownsRow B 36 1 u n xs) (hB : base ≤ B) (hg : w5.grownBy w6 u.ownBlock) : LogD w6 base q p bs bw T L v M := by
  subst hw
  have hf : Fr w w6 u.ownBlock.toList := (Fr.of_below ((Below.refl _ w).alloc (Nat.le_refl _) o) _).trans (Fr.of_grownR hg)
  exact hL.frS hf (fun s hs => Nat.le_trans hB (own_ge hu s hs)) (fun s hs hm => own_apart hL.log.row hu (by decide) s hs hm)
/-- A crash of a disk of which all is sure. -/
theorem crashed_sure {M : DM} (h : Calm M) (keep : List Bool) (torn cut : Int) : (M.crashed keep torn cut).sure = M.sure := by
  funext i
  show M.left1 keep torn cut i = _
  unfold DM.left1
  rw [h i]
theorem RecsAt.disk' {w w' : World} {lo p bs bw T : Nat} {u : Value} {rs : List Rec} {M : DM} (h : RecsAt w lo u rs) (hd : DiskM w p bs bw M T) (hf : Fr w w' [p, bs, bw]) : RecsAt w' lo u rs := by
  refine h.fr hf (noBytes_disk hd) (fun z hz hm => ?_)
  obtain ⟨R, _, h2, _⟩ := h.ex
  obtain ⟨D, ⟨h1, _, ns, nw, ⟨es, cl, h3, _⟩, ⟨es2, cl2, h4, _⟩, _⟩, _⟩ := hd
  rcases h2.2 with ⟨hv, _⟩ | ⟨g, cap, cur, hv, _, hgg, _⟩
  · rw [hv] at hz; simp [Value.ownBlock] at hz
  · rw [hv] at hz
    simp [Value.ownBlock] at hz
    subst hz
    simp at hm
    rcases hm with rfl | rfl | rfl
    · rw [h1] at hgg
      cases hgg
    · rw [h3] at hgg; cases hgg
    · rw [h4] at hgg; cases hgg
/-- A disk of which all is sure, just crashed; its records are whole. -/
structure Back (M : DM) (first behind n : Nat) (rs : List Rec) : Prop where
  armed : M.armed = false
  calm : Calm M
  steps : M.steps = 0
  left : M.left = 0
  size : M.size = n
  whole : Whole M.sure first behind rs
theorem Back.mk' {M : DM} {first behind n : Nat} {rs : List Rec} (keep : List Bool) (torn cut : Int) (hs : M.size = n) (h : Whole (M.crashed keep torn cut).sure first behind rs) : Back (M.crashed keep torn cut) first behind n rs :=
  ⟨rfl, fun _ => rfl, rfl, rfl, hs, h⟩
theorem open_back {w : World} {p bs bw T n : Nat} {M : DM} {rs : List Rec} (hD : DiskM w p bs bw M T) {first behind : Nat} (h : Back M first behind n rs) (count : Nat) (hbe : behind = first + count) (hc : 2 ≤ count) (hfit : first + count ≤ n) (hz : n ≤ 4096) (hT : T ≤ 1000000) :
    Calls Try.prog 15 #[.pointer (some ⟨p, 0, none⟩), .int .i64 (first : Int), .int .i64 (count : Int)] w fun e w' =>
      ∃ q A c v M', e = .returned (.tuple #[.pointer (some ⟨q, 0, none⟩), .slice A rs.length c, .int .i64 0]) ∧ w.heap.size ≤ q ∧ RecsAt w' (q + 1) (.slice A rs.length c) rs ∧ LogD w' (q + 1) q p bs bw (T + 4097) (LG.of first behind rs) v M' ∧ Fr w w' [p, bs, bw] := by
  subst hbe
  have hscan := open_scan h.calm h.whole
  refine (open_any hD first count hc (by rw [h.size]; exact hfit) ⟨by rw [h.size]; exact hz, by rw [h.steps]; omega, by rw [h.left]; omega, by omega⟩).mono ?_
  rintro e w' ⟨h1, _, h3⟩
  rw [hscan] at h1
  obtain ⟨q, u, v, rfl, h4, h5, h6⟩ := h1 (by rw [runOps_alive h.armed])
  obtain ⟨R, hR1, hR2, hR3⟩ := h5.ex
  obtain ⟨A, c, rfl, _, _, hR4⟩ := own_shape hR2
  have hl : R.length = rs.length := by rw [← hR1, List.length_map]
  rw [hl] at h5 ⊢
  exact ⟨q, A, c, v, _, rfl, h4, h5, h6, h3⟩
/-- What an Open does to a disk on which the power may go. -/
theorem open_disk {w : World} {p bs bw T : Nat} {M : DM} (hD : DiskM w p bs bw M T) (first count : Nat) (hc : 2 ≤ count) (hfit : first + count ≤ M.size) (hft : Fit M T 4097) :
    Calls Try.prog 15 #[.pointer (some ⟨p, 0, none⟩), .int .i64 (first : Int), .int .i64 (count : Int)] w fun e w' => (∃ v, e = .returned v) ∧ DiskM w' p bs bw (runOps (openOps M first (first + count)) M).2 (T + 4097) ∧ Fr w w' [p, bs, bw] := by
  refine (open_any hD first count hc hfit hft).mono ?_
  rintro e w' ⟨h1, h2, h3⟩
  rcases (runOps_facts (openOps M first (first + count)) M).2.2.2 with h0 | h30
  · obtain ⟨q, u, v, rfl, _, _, h6⟩ := h1 h0
    exact ⟨⟨_, rfl⟩, h6.disk, h3⟩
  · obtain ⟨rfl, h4⟩ := h2 h30
    exact ⟨⟨_, rfl⟩, h4, h3⟩
/-- The first records of such a disk, and the next number. -/
theorem back_next {first behind : Nat} (ds : List (List UInt8)) : (LG.of first behind (numR 1 ds)).next = (numR 1 ds).length + 1 := by
  show (nextR none (numR 1 ds)).getD 1 = _
  rw [numR_next0, numR_len]
theorem whole_len {g : Nat → List UInt8} {first behind : Nat} {rs : List Rec} (h : Whole g first behind rs) (hf : first ≤ behind) : rs.length ≤ behind := by
  have h1 := h.laid.end_le hf
  have h2 := endR_le first rs
  omega
/-- Appends may be going on, or the power has gone. -/
def Safe (M : DM) (L : LG) (n k : Nat) : Prop := (∃ ds, Going M L ds n k) ∨ ∃ ds d, Torn M L.first L.behind ds d n
theorem Safe.fit {M : DM} {L : LG} {n k T : Nat} (h : Safe M L n k) (hn : n ≤ 4096) (hk : k ≤ 1000) (hT : T ≤ 1000000) : Fit M T 70 := by
  rcases h with ⟨ds, h⟩ | ⟨ds, d, h⟩
  · exact h.fit hn hk hT
  · exact h.fit hn hT
theorem Safe.append {M : DM} {L : LG} {n k : Nat} (h : Safe M L n k) (d : List UInt8) (hd : d.length ≤ 4000) (hk : k ≤ 1000) :
    Safe (appR L M d).2.1 (appR L M d).2.2 n (k + 1) ∧ (appR L M d).2.2.first = L.first ∧ (appR L M d).2.2.behind = L.behind := by
  rcases h with ⟨ds, h⟩ | ⟨ds, x, h⟩
  · rcases h.append d hd hk with ⟨e, hg⟩ | ⟨_, hg, hf, hb, _⟩ | ⟨_, eL, hT, _⟩
    · rw [e]; exact ⟨.inl ⟨ds, hg⟩, rfl, rfl⟩
    · exact ⟨.inl ⟨_, hg⟩, hf, hb⟩
    · rw [eL]; exact ⟨.inr ⟨ds, d, hT⟩, rfl, rfl⟩
  · rw [dead_append h.dead d]
    exact ⟨.inr ⟨ds, x, h⟩, rfl, rfl⟩
theorem Back.arm {M : DM} {first behind n : Nat} {rs : List Rec} (h : Back M first behind n rs) (y : Nat) (hy : y ≤ 100) : Calm (M.armM (y : Int)) ∧ (M.armM (y : Int)).sure = M.sure ∧ (M.armM (y : Int)).size = n ∧ (M.armM (y : Int)).steps = 0 ∧ (M.armM (y : Int)).left ≤ 100 := by
  have hn : ¬ (y : Int) < 0 := by omega
  unfold DM.armM
  rw [if_neg hn, unarmed h.armed]
  exact ⟨h.calm, rfl, h.size, h.steps, by show (y : Int).toNat ≤ 100; omega⟩
/-- A crash within an Open. -/
theorem open_torn {M : DM} {first behind n : Nat} {rs : List Rec} (hc : Calm M) (hs : M.size = n) (hw : Whole M.sure first behind rs) (hf : first ≤ behind) (hb : behind ≤ n) (hfull : (runOps (openOps M first behind) M).2.full) (keep : List Bool) (torn cut : Int) :
    Back ((runOps (openOps M first behind) M).2.crashed keep torn cut) first behind n rs := by
  have hz : (runOps (openOps M first behind) M).2.size = n := (runOps_facts _ M).1.trans hs
  exact Back.mk' keep torn cut hz (open_cut hc hf hw (crashes_left1 _ hfull keep torn cut (by rw [hz]; exact hb)))
theorem RecsAt.rows {w : World} {lo n c : Nat} {A : Option Addr} {rs : List Rec} (h : RecsAt w lo (.slice A n c) rs) : ∃ R : List RecR, R.map (fun r => (r.s, r.d)) = rs ∧ R.length = rs.length ∧ Rd w w.heap.size A (recC R) ∧ ∀ r ∈ R, DataAt w r.A r.d := by
  obtain ⟨R, h1, h2, h3⟩ := h.ex
  obtain ⟨A', c', he, _, _, hrd⟩ := own_shape h2
  injection he with e1 e2 e3
  subst e1
  exact ⟨R, h1, by rw [← h1, List.length_map], hrd, h3⟩
theorem RecsAt.get {w : World} {lo n c : Nat} {A : Option Addr} {rs : List Rec} (h : RecsAt w lo (.slice A n c) rs) {j : Nat} (hj : j < rs.length) : ∃ ab ao A1 c1, A = some ⟨ab, ao, none⟩ ∧ ab < w.heap.size ∧ w.cell? ⟨ab, ao + j * 2, none⟩ = some (.int .i64 (rs[j].1 : Int)) ∧ w.cell? ⟨ab, ao + j * 2 + 1, none⟩ = some (.slice A1 rs[j].2.length c1) ∧ Rd w w.heap.size A1 (u8s rs[j].2) := by
  obtain ⟨R, h1, h2, h3, h4⟩ := h.rows
  have hjR : j < R.length := by omega
  obtain ⟨ab, ao, rfl, hab, hcc⟩ := h3 (by intro e; have := recC_len R; rw [e] at this; simp at this; omega)
  obtain ⟨hc0, hc1⟩ := recC_get R j hjR
  have e : rs[j] = (R[j].s, R[j].d) := by
    have : rs[j]? = some (R[j].s, R[j].d) := by rw [← h1, List.getElem?_map, List.getElem?_eq_getElem hjR]; rfl
    rw [List.getElem?_eq_getElem hj] at this
    exact Option.some.inj this
  rw [e]
  exact ⟨ab, ao, R[j].A, R[j].c, rfl, hab, hcc _ _ hc0, by rw [Nat.add_assoc]; exact hcc _ _ hc1, (h4 _ (List.getElem_mem hjR)).1⟩
theorem Safe.size {M : DM} {L : LG} {n k : Nat} (h : Safe M L n k) : M.size = n := by
  rcases h with ⟨ds, h⟩ | ⟨ds, x, h⟩
  · exact Going.size h
  · exact Torn.size h
theorem Safe.crash {M : DM} {L : LG} {n k : Nat} (h : Safe M L n k) (hfull : M.full) (hb : L.behind ≤ n) (keep : List Bool) (torn cut : Int) : ∃ ds, Whole (M.crashed keep torn cut).sure L.first L.behind (numR 1 ds) := by
  rcases h with ⟨ds, h⟩ | ⟨ds, x, h⟩
  · exact ⟨ds, Going.crash h hfull hb keep torn cut⟩
  · rcases Torn.crash' h hfull hb keep torn cut with h1 | h1
    · exact ⟨_, h1⟩
    · exact ⟨_, h1⟩
end Go.Proofs.Ytkanlecgopcocaa
