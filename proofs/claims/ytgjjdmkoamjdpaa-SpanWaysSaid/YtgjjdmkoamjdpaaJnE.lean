/- Joined: JoTV JoTX JoTY JoTZ JoO JoP JoQ JoR JoS JoU JoV JoW JoX JoY JoZ. -/
import Derived.Lib.SlicesCompact
import Derived.Test.YtgjjdmkoamjdpaaJnD
import Derived.Test.YtgjjdmkoamjdpaaShelf
import Derived.BigQuiet
import Derived.Deep.QuietTactic
import Derived.Deep.LoopGhost
import Derived.Deep.Draws
import Derived.Lib.SliceRun
import Derived.WideKeyEntry
import Derived.Laws.Shifts
/- TupV, what this seat can fill of it. -/
namespace Go.Proofs.Ytgjjdmkoamjdpaa
/- A row of tuples, sorted by the library: slices.SortFunc(out, Cmp). -/
open Go.RowKit Go.Maps Go.Shelf Go.Sort Go.Lib

theorem TV.Ok.frS {w w' : World} {t : TV} {S : List Nat} (h : t.Ok w) (hf : Fr w w' S) (hS : ∀ a, t.A = some a → a.block ∉ S) : t.Ok w' := by
  refine ⟨fun hn => ?_, h.cap, h.sm⟩
  obtain ⟨b, o, e, hb, hc⟩ := h.rd hn
  refine ⟨b, o, e, Nat.lt_of_lt_of_le hb hf.size, fun j u hu => ?_⟩
  rw [← hc j u hu]
  unfold World.cell?
  rw [hf.block b hb (hS _ e)]
theorem fr_put {α : Type} [Inhabited α] (enc : α → Value) (w : World) (blk off n : Nat) (d : Array α) (os : Array Obj) : Fr w (grow (putRow enc (Sort.ahead w n) blk off d) os) [blk] := by
  refine ⟨rfl, rfl, rfl, ?_, fun k hk hs => ?_⟩
  · rw [size_grow, size_putRow]; exact Nat.le_add_right _ _
  · rw [heap_grow_old _ _ (by rw [size_putRow]; exact hk)]
    have hne : blk ≠ k := fun e => hs (by rw [e]; exact List.mem_singleton.2 rfl)
    simp [putRow, mapBlock, Array.getElem?_modify, hne, Sort.ahead]
/-- A list's row as the library's contracts want it. -/
theorem OwnT.row {w : World} {base blk n cap : Nat} {ts : List TV} (h : OwnT w base (.slice (some ⟨blk, 0, none⟩) n cap) ts) : n = ts.length ∧ n ≤ cap ∧ cap ≤ maxLen ∧ base ≤ blk ∧ ∃ cur, w.heap[blk]? = some (.cells cur 63 (0, 0)) ∧ cur.size = cap ∧ cur.toList.take n = vals ts := by
  unfold OwnT World.ownsRow at h
  obtain ⟨h1, h2⟩ := h
  rcases h2 with ⟨e, _⟩ | ⟨g, cap', cur, hv, hb, hh, hle, hm, hs, ht⟩
  · cases e
  · injection hv with e1 e2 e3
    injection e1 with e1
    injection e1 with e1 _ _
    subst e1 e2 e3
    exact ⟨rfl, hle, hm, hb, cur, hh, by omega, by rw [Nat.mul_one] at ht; exact ht⟩
theorem OwnT.holds {α : Type} [Inhabited α] (f : α → TV) {w : World} {base blk n cap : Nat} {ts : List TV} (h : OwnT w base (.slice (some ⟨blk, 0, none⟩) n cap) ts) (d : Array α) (hd : d.toList.map f = ts) : Holds (fun x => (f x).val) w blk 0 d := by
  obtain ⟨hn, hle, _, _, cur, hh, hs, ht⟩ := h.row
  intro j hj
  refine ⟨?_, frozen_of_row w blk _ _ _ hh⟩
  rw [Nat.zero_add, cell_of_row w blk j _ _ _ hh]
  have e : cur.toList[j]? = (cur.toList.take n)[j]? := by
    rw [List.getElem?_take, if_pos]
    have := congrArg List.length hd
    simp at this
    omega
  rw [← Array.getElem?_toList, e, ht, ← hd]
  simp only [vals, List.map_map, List.getElem?_map, Array.getElem?_toList]
  rw [Array.getElem?_eq_getElem hj, Option.map_some, getElem!_pos d j hj]
  rfl
/-- .. and back, cut to its first k. -/
theorem OwnT.put {α : Type} [Inhabited α] (f : α → TV) {w : World} {base blk n cap : Nat} {ts : List TV} (h : OwnT w base (.slice (some ⟨blk, 0, none⟩) n cap) ts) (hb : blk < w.heap.size) (q : Nat) (d : Array α) (os : Array Obj) (hd : d.size = n) (k : Nat) (hk : k ≤ n) :
    OwnT (grow (putRow (fun x => (f x).val) (Sort.ahead w q) blk 0 d) os) base (.slice (some ⟨blk, 0, none⟩) k cap) ((d.toList.map f).take k) := by
  obtain ⟨hn, hle, hm, hbase, cur, hh, hs, ht⟩ := h.row
  have hlen : ((d.toList.map f).take k).length = k := by simp; omega
  unfold OwnT
  rw [hlen]
  refine ⟨by rw [vals_len, hlen, Nat.mul_one], .inr ⟨blk, cap, putCells (fun x => (f x).val) 0 d cur, rfl, hbase, ?_, by omega, hm, by rw [Nat.mul_one]; simp [putCells, hs], ?_⟩⟩
  · rw [heap_grow_old _ _ (by rw [size_putRow]; exact hb)]
    simp [putRow, mapBlock, Array.getElem?_modify, onCells, Sort.ahead, hh]
  · rw [Nat.mul_one]
    apply List.ext_getElem?
    intro j
    simp only [vals, List.getElem?_map, List.getElem?_take, Array.getElem?_toList]
    by_cases hj : j < k
    · rw [if_pos hj, if_pos hj]
      have hjd : j < d.size := by omega
      have hjc : j < cur.size := by omega
      simp only [putCells, Array.getElem?_mapIdx]
      rw [Array.getElem?_eq_getElem hjc, Option.map_some, if_pos ⟨by omega, by omega⟩, Nat.sub_zero, getElem!_pos d j hjd]
      rw [Array.getElem?_eq_getElem hjd]
      rfl
    · rw [if_neg hj, if_neg hj]; rfl
/-- The order is a weak one. -/
theorem swo_cmp {α : Type} (f : α → Tu) : SWO (ltOf fun x y : α => cmpI (f x) (f y)) where
  irrefl x := decide_eq_false (by show ¬ cmpI (f x) (f x) < 0; rw [cmpI_refl]; omega)
  trans x y z h k := by simp only [ltOf] at *; rw [decide_eq_true_eq] at *; exact cmpI_trans h k
  ntrans x y z h k := by
    simp only [ltOf] at *
    rw [decide_eq_false_iff_not] at *
    have h' : cmpI (f y) (f x) ≤ 0 := by rw [cmpI_swap]; omega
    have k' : cmpI (f z) (f y) ≤ 0 := by rw [cmpI_swap]; omega
    have := cmpI_le k' h'
    rw [cmpI_swap] at this
    omega
/-- A list that doesn't fall. -/
def UpL (ts : List TV) : Prop := ts.Pairwise fun a b => cmpI a.l b.l ≤ 0
theorem enter20 : ∀ args w, (callFunc 30 args).run Try.prog w = .ok (.enter 30 args) w := enters_of Try.func30 (by kernel_rfl) rfl
/-- slices.SortFunc of a row of tuples, by Cmp. -/
theorem sort_any (w : World) (base blk cap : Nat) (ts : List TV) (h : OwnT w base (.slice (some ⟨blk, 0, none⟩) ts.length cap) ts) (hb : blk < w.heap.size) (hok : ∀ t ∈ ts, t.Ok w ∧ ∀ a, t.A = some a → a.block ≠ blk) (hsm : ts.length ≤ 5000) :
    Calls Try.prog 29 #[.slice (some ⟨blk, 0, none⟩) ts.length cap, .func (.func 30) #[] #[]] w fun e w' =>
      e = .returned (.tuple #[]) ∧ ∃ us, us.Perm ts ∧ UpL us ∧ OwnT w' base (.slice (some ⟨blk, 0, none⟩) us.length cap) us ∧ Fr w w' [blk] := by
  let α := {t : TV // t.Ok w ∧ ∀ a, t.A = some a → a.block ≠ blk}
  letI : Inhabited α := ⟨⟨⟨none, [], 0⟩, ⟨Rd.emp _ _ _, Nat.le_refl _, by simp⟩, fun a ha => nomatch ha⟩⟩
  let d : Array α := (ts.attach.map fun t => (⟨t.1, hok t.1 t.2⟩ : α)).toArray
  have hd : d.toList.map Subtype.val = ts := by simp [d, Function.comp_def]
  have hds : d.size = ts.length := by simp [d]
  have hH := h.holds (α := α) Subtype.val d hd
  have hcmp : CmpReads Try.prog 30 #[] (fun x : α => x.1.val) (fun x y => cmpI x.1.l y.1.l) blk 0 d.size w := by
    intro m os dk _ x y
    have hf := fr_put (fun x : α => x.1.val) w blk 0 m dk os
    refine (cmpT_any x.1 y.1 _ (x.2.1.frS hf fun a ha hm => x.2.2 a ha (List.mem_singleton.1 hm)) (y.2.1.frS hf fun a ha hm => y.2.2 a ha (List.mem_singleton.1 hm))).mono ?_
    rintro e w' ⟨rfl, rfl⟩
    exact ⟨rfl, 0, rfl⟩
  have hc := Any.slices_SortFunc Try.sortT (fun x : α => x.1.val) (fun _ => rfl) (fun x y => cmpI x.1.l y.1.l) (swo_cmp fun x : α => x.1.l) 30 #[] blk 0 cap d w enter20 hcmp.lays hH hb (by omega)
  rw [hds] at hc
  refine hc.mono ?_
  rintro e w' ⟨rfl, d', n, os, ⟨hsz, _, hp⟩, hso, rfl⟩
  have hall : ∀ x : Array α, x.size = ts.length → (x.extract 0 ts.length).toList = x.toList := by
    intro x hx
    rw [← hx]
    simp
  rw [hall d' (by omega), hall d hds] at hp
  have hl : (d'.toList.map Subtype.val).length = ts.length := by simp; omega
  refine ⟨rfl, d'.toList.map Subtype.val, hd ▸ hp.map _, ?_, ?_, fr_put _ _ _ _ _ _ _⟩
  · unfold UpL
    rw [List.pairwise_iff_getElem]
    intro i j hi hj hij
    rw [hl] at hi hj
    have := hso i j (Nat.zero_le _) hij hj
    rw [getElem!_pos d' i (by omega), getElem!_pos d' j (by omega)] at this
    simp only [ltOf] at this
    rw [decide_eq_false_iff_not] at this
    simp only [List.getElem_map, Array.getElem_toList]
    rw [cmpI_swap]
    omega
  · have hq := h.put (α := α) Subtype.val hb n d' os (by omega) ts.length (Nat.le_refl _)
    rw [List.take_of_length_le (Nat.le_of_eq hl)] at hq
    rw [hl]
    exact hq
/-- .. of no tuple. -/
theorem sort_none (w : World) (A : Option Addr) (cap : Nat) : Calls Try.prog 29 #[.slice A 0 cap, .func (.func 30) #[] #[]] w fun e w' => e = .returned (.tuple #[]) ∧ w' = w :=
  AnyF.slices_SortFunc_none (P := Try.prog) (ρ := Try.sortT_ren) { Try.sortT with } A cap _ w
end Go.Proofs.Ytgjjdmkoamjdpaa
/- TupX, what this seat can fill of it. -/
namespace Go.Proofs.Ytgjjdmkoamjdpaa
/- Of neighbours that are the same one stays, plainly: a row's places that are kept; what a sorted row keeps is its set. -/
open Go.RowKit Go.Maps Go.Shelf Go.Sort Go.Lib

/-- A place is kept: the first, or one that reads otherwise than the one ahead of it. -/
def kp (d : Array TV) (j : Nat) : Bool := decide (j = 0 ∨ d[j]!.l ≠ d[j - 1]!.l)
/-- Of the first m places those that are kept. -/
def cpN (d : Array TV) (m : Nat) : List TV := ((List.range m).filter (kp d)).map (d[·]!)
theorem kp_one (d : Array TV) (j : Nat) (h : j < 1) : kp d j = true := decide_eq_true (.inl (by omega))
theorem kp_pos {d : Array TV} {m : Nat} (h : cmpI d[m]!.l d[m - 1]!.l ≠ 0) : kp d m = true := decide_eq_true (.inr fun e => h (cmpI_zero.2 e))
theorem kp_neg {d : Array TV} {m : Nat} (hm : 0 < m) (h : cmpI d[m]!.l d[m - 1]!.l = 0) : kp d m = false := decide_eq_false fun e => e.elim (by omega) fun k => k (cmpI_eq h)
theorem cpN_succ (d : Array TV) (m : Nat) : cpN d (m + 1) = cpN d m ++ if kp d m = true then [d[m]!] else [] := by
  unfold cpN
  rw [List.range_succ, List.filter_append, List.map_append]
  congr 1
  by_cases h : kp d m = true
  · rw [if_pos h, List.filter_cons_of_pos h]; rfl
  · rw [if_neg h, List.filter_cons_of_neg h]; rfl
theorem cpN_all (d : Array TV) (m : Nat) (h : ∀ j, j < m → kp d j = true) : cpN d m = (List.range m).map (d[·]!) := by
  unfold cpN
  rw [List.filter_eq_self.2 fun j hj => h j (List.mem_range.1 hj)]
theorem cpN_sub (d : Array TV) : (cpN d d.size).Sublist d.toList := by
  rw [← range_map_get d]
  exact List.filter_sublist.map _
/-- The second loop: m places looked at, k kept and laid at the row's head, from place k on the row as it was. -/
structure CpI (d : Array TV) (m k : Nat) (dk : Array TV) : Prop where
  size : dk.size = d.size
  len : (cpN d m).length = k
  lt : k < m
  low : ∀ j, j < k → (cpN d m)[j]? = some dk[j]!
  high : ∀ j, k ≤ j → dk[j]! = d[j]!
theorem CpI.start {d : Array TV} {k0 : Nat} (hall : ∀ j, j < k0 → kp d j = true) (hdup : kp d k0 = false) : CpI d (k0 + 1) k0 d := by
  have e : cpN d (k0 + 1) = (List.range k0).map (d[·]!) := by rw [cpN_succ, hdup, cpN_all d k0 hall]; simp
  refine ⟨rfl, by rw [e]; simp, Nat.lt_succ_self _, fun j hj => by rw [e]; simp [hj], fun _ _ => rfl⟩
theorem CpI.skip {d dk : Array TV} {m k : Nat} (h : CpI d m k dk) (hk : kp d m = false) : CpI d (m + 1) k dk := by
  have e : cpN d (m + 1) = cpN d m := by rw [cpN_succ, hk]; simp
  exact ⟨h.size, by rw [e]; exact h.len, by have := h.lt; omega, fun j hj => by rw [e]; exact h.low j hj, h.high⟩
theorem CpI.keep {d dk : Array TV} {m k : Nat} (h : CpI d m k dk) (hm : m < d.size) (hk : kp d m = true) : CpI d (m + 1) (k + 1) (dk.setIfInBounds k d[m]!) := by
  have e : cpN d (m + 1) = cpN d m ++ [d[m]!] := by rw [cpN_succ, if_pos hk]
  have hkd : k < dk.size := by have := h.lt; have := h.size; omega
  refine ⟨by rw [Array.size_setIfInBounds]; exact h.size, by rw [e, List.length_append, h.len]; rfl, by have := h.lt; omega, fun j hj => ?_, fun j hj => ?_⟩
  · rw [e]
    by_cases hj0 : j = k
    · subst hj0
      rw [List.getElem?_append_right (Nat.le_of_eq h.len), h.len, Nat.sub_self, getElem!_set_same dk j _ hkd]
      rfl
    · rw [List.getElem?_append_left (by rw [h.len]; omega), h.low j (by omega), getElem!_set_other dk k j _ hj0]
  · rw [getElem!_set_other dk k j _ (by omega)]; exact h.high j (by omega)
/-- What is laid from place k on leaves the places ahead of it. -/
theorem lay_low (xs : List TV) : ∀ (d : Array TV) (k j : Nat), j < k → (lay d k xs)[j]! = d[j]! := by
  induction xs with
  | nil => intro d k j _; rfl
  | cons x r ih =>
    intro d k j hj
    show (lay (d.setIfInBounds k x) (k + 1) r)[j]! = _
    rw [ih _ _ _ (by omega), getElem!_set_other d k j x (by omega)]
theorem lay_size (xs : List TV) : ∀ (d : Array TV) (k : Nat), (lay d k xs).size = d.size := by
  induction xs with
  | nil => intro d k; rfl
  | cons x r ih =>
    intro d k
    show (lay (d.setIfInBounds k x) (k + 1) r).size = _
    rw [ih, Array.size_setIfInBounds]
/-- What a row that doesn't fall keeps, rises. -/
theorem cpN_ris (d : Array TV) (hu : UpL d.toList) : ∀ m, m ≤ d.size → Ris (tus (cpN d m)) ∧ (∀ q, q ∈ cpN d m → ∃ j, j < m ∧ q = d[j]!) ∧ ∀ j, j < m → ∃ q, q ∈ cpN d m ∧ q.l = d[j]!.l
  | 0, _ => ⟨.nil, fun q hq => (nomatch hq), fun j hj => by omega⟩
  | m + 1, hm => by
    obtain ⟨h1, h2, h3⟩ := cpN_ris d hu m (by omega)
    rw [cpN_succ]
    have hup : ∀ i j, i < j → j < d.size → cmpI d[i]!.l d[j]!.l ≤ 0 := fun i j hij hj => by
      have := (List.pairwise_iff_getElem.1 hu) i j (by simp; omega) (by simpa using hj) hij
      simp only [Array.getElem_toList] at this
      rw [getElem!_pos d i (by omega), getElem!_pos d j hj]
      exact this
    by_cases hk : kp d m = true
    · rw [if_pos hk]
      refine ⟨?_, fun q hq => ?_, fun j hj => ?_⟩
      · rw [tus_app]
        unfold Ris
        rw [List.pairwise_append]
        refine ⟨h1, List.pairwise_singleton _ _, fun a ha b hb => ?_⟩
        obtain ⟨t, ht, rfl⟩ := List.mem_map.1 ha
        have hb' : b = d[m]!.l := List.mem_singleton.1 hb
        subst hb'
        obtain ⟨j, hj, rfl⟩ := h2 t ht
        have hne : d[m]!.l ≠ d[m - 1]!.l := (of_decide_eq_true hk).resolve_left (by omega)
        have hlt : cmpI d[m - 1]!.l d[m]!.l < 0 := by
          have hle := hup (m - 1) m (by omega) (by omega)
          have hnz : cmpI d[m - 1]!.l d[m]!.l ≠ 0 := fun e => hne (cmpI_eq e).symm
          omega
        by_cases hjm : j = m - 1
        · rw [hjm]; exact hlt
        · have hle := hup j (m - 1) (by omega) (by omega)
          by_cases h0 : cmpI d[j]!.l d[m - 1]!.l = 0
          · rw [cmpI_eq h0]; exact hlt
          · exact cmpI_trans (by omega) hlt
      · rcases List.mem_append.1 hq with hq | hq
        · obtain ⟨j, hj, e⟩ := h2 q hq
          exact ⟨j, by omega, e⟩
        · exact ⟨m, Nat.lt_succ_self _, List.mem_singleton.1 hq⟩
      · by_cases hjm : j = m
        · exact ⟨d[m]!, List.mem_append_right _ (List.mem_singleton.2 rfl), by rw [hjm]⟩
        · obtain ⟨q, hq, e⟩ := h3 j (by omega)
          exact ⟨q, List.mem_append_left _ hq, e⟩
    · rw [if_neg hk, List.append_nil]
      refine ⟨h1, fun q hq => ?_, fun j hj => ?_⟩
      · obtain ⟨j, hj, e⟩ := h2 q hq
        exact ⟨j, by omega, e⟩
      · by_cases hjm : j = m
        · have hkf : ¬ (m = 0 ∨ d[m]!.l ≠ d[m - 1]!.l) := fun h => hk (decide_eq_true h)
          have hm0 : m ≠ 0 := fun e => hkf (.inl e)
          have he : d[m]!.l = d[m - 1]!.l := Decidable.byContradiction fun h => hkf (.inr h)
          obtain ⟨q, hq, e⟩ := h3 (m - 1) (by omega)
          exact ⟨q, hq, by rw [hjm, he, e]⟩
        · exact h3 j (by omega)
/-- So it is the set of its tuples. -/
theorem cpN_set (d : Array TV) (hu : UpL d.toList) (L : List Tu) (hp : (tus d.toList).Perm L) : tus (cpN d d.size) = setL L := by
  obtain ⟨h1, h2, h3⟩ := cpN_ris d hu d.size (Nat.le_refl _)
  refine ris_ext h1 (ris_set L) fun q => ?_
  rw [mem_set, ← hp.mem_iff]
  constructor
  · intro hq
    obtain ⟨t, ht, rfl⟩ := List.mem_map.1 hq
    exact mem_tus ((cpN_sub d).subset ht)
  · intro hq
    obtain ⟨t, ht, rfl⟩ := List.mem_map.1 hq
    obtain ⟨i, hi, rfl⟩ := List.getElem_of_mem ht
    have hi' : i < d.size := by simpa using hi
    obtain ⟨q, hq, e⟩ := h3 i hi'
    rw [Array.getElem_toList, ← getElem!_pos d i hi', ← e]
    exact mem_tus hq
end Go.Proofs.Ytgjjdmkoamjdpaa
/- TupY, what this seat can fill of it. -/
namespace Go.Proofs.Ytgjjdmkoamjdpaa
/- slices.CompactFunc(out, same), of a row of tuples. -/
open Go.RowKit Go.Maps Go.Shelf Go.Sort Go.Lib

theorem below_one (d : Array TV) {m : Nat} (h : ∀ j, j < m → kp d j = true) (hk : kp d m = true) : ∀ j, j < m + 1 → kp d j = true := fun j hj => by
  by_cases e : j = m
  · rw [e]; exact hk
  · exact h j (by omega)
/-- A store into the row. -/
theorem put_one {w wr : World} {q blk off : Nat} {dk : Array TV} {i : Nat} (hi : i < dk.size) (h : wr = putRow TV.val (Sort.ahead w q) blk off dk) (x : TV) (n : Nat) :
    (wr.drewN n).setCell ⟨blk, off + i, none⟩ (.slice x.A x.l.length x.c) = putRow TV.val (Sort.ahead w (q + n)) blk off (dk.setIfInBounds i x) := by
  subst h
  rw [← putRow_set TV.val _ blk off dk i x hi, Go.Proofs.putRow_drewN]
  rfl
set_option maxRecDepth 100000 in
set_option maxHeartbeats 4000000 in
/-- slices.CompactFunc: it answers the row cut to what is kept. -/
theorem compact_core (w : World) (blk off cap : Nat) (d : Array TV) (hH : Holds TV.val w blk off d) (hok : ∀ j, j < d.size → TV.Ok w d[j]! ∧ ∀ a, d[j]!.A = some a → a.block ≠ blk) (hsz : d.size ≤ 5000) (hcap : d.size ≤ cap) :
    Calls Try.prog 31 #[.slice (some ⟨blk, off, none⟩) d.size cap, .func (.func 32) #[] #[]] w fun e w' =>
      e = .returned (.slice (some ⟨blk, off, none⟩) (cpN d d.size).length cap) ∧ ∃ q dk, dk.size = d.size ∧ (∀ j, j < (cpN d d.size).length → (cpN d d.size)[j]? = some dk[j]!) ∧ w' = putRow TV.val (Sort.ahead w q) blk off dk := by
  have hput : ∀ q, w.drewN q = putRow TV.val (Sort.ahead w q) blk off d := fun q => (putRow_self TV.val (Sort.ahead w q) blk off d (holds_ahead TV.val w q blk off d hH)).symm
  have hend : ∀ q, (∀ j, j < d.size → kp d j = true) → (cpN d d.size).length = d.size ∧ ∃ q' dk, dk.size = d.size ∧ (∀ j, j < (cpN d d.size).length → (cpN d d.size)[j]? = some dk[j]!) ∧ w.drewN q = putRow TV.val (Sort.ahead w q') blk off dk := by
    intro q hall
    have e : cpN d d.size = d.toList := by rw [cpN_all d _ hall, range_map_get]
    rw [e]
    refine ⟨by simp, q, d, rfl, fun j hj => ?_, hput q⟩
    have hj' : j < d.size := by simpa using hj
    rw [getElem!_pos d j hj']
    simp [hj']
  have hfr : ∀ q dk, Fr w (putRow TV.val (Sort.ahead w q) blk off dk) [blk] := fun q dk => by
    have := fr_put TV.val w blk off q dk #[]
    rwa [grow_empty] at this
  have hokr : ∀ q dk j, j < d.size → TV.Ok (putRow TV.val (Sort.ahead w q) blk off dk) d[j]! := fun q dk j hj => (hok j hj).1.frS (hfr q dk) fun a ha hm => (hok j hj).2 a ha (List.mem_singleton.1 hm)
  have HE := Lib.hid hend
  have HO := Lib.hid hokr
  have HP := Lib.hid hput
  have HH := Lib.hid hH
  clear hend hokr hfr hok hput hH
  by_cases h2 : d.size < 2
  · go_enter Try.func31, Try.ntmps31
    go_wp2_with (fail)
    go_ret
    obtain ⟨e1, e2⟩ := HE.out 0 (fun j hj => kp_one d j (by omega))
    exact ⟨by rw [e1]; rfl, e2⟩
  · go_enter Try.func31, Try.ntmps31
    go_wp2_with (fail)
    go_loopg [5] d.size (fun g s5 wr => ∃ k : Nat, 1 ≤ k ∧ k ≤ d.size ∧ d.size - k ≤ g ∧ s5 = .int .i64 k ∧ Hid ((∃ q, wr = w.drewN q) ∧ ∀ j, j < k → kp d j = true))
    case atStart => exact ⟨1, Nat.le_refl _, by omega, by omega, rfl, Lib.hid ⟨⟨0, rfl⟩, kp_one d⟩⟩
    case round =>
      obtain ⟨k, hk1, hk, hg, rfl, HR⟩ := hrel
      by_cases hlt : k < d.size
      · obtain ⟨p, rfl⟩ : ∃ p, k = p + 1 := ⟨k - 1, by omega⟩
        obtain ⟨⟨q, hw⟩, hall⟩ := HR.out
        have c1 : wr.cell? ⟨blk, off + (p + 1), none⟩ = some (.slice d[p + 1]!.A d[p + 1]!.l.length d[p + 1]!.c) := by rw [hw]; exact (HH.out (p + 1) hlt).1
        have c0 : wr.cell? ⟨blk, off + p, none⟩ = some (.slice d[p]!.A d[p]!.l.length d[p]!.c) := by rw [hw]; exact (HH.out p (by omega)).1
        have hcall := fun n => sameT_any d[p + 1]! d[p]! (wr.drewN n) (by rw [hw, World.drewN_drewN, HP.out]; exact HO.out _ d (p + 1) hlt) (by rw [hw, World.drewN_drewN, HP.out]; exact HO.out _ d p (by omega))
        have HQ := Lib.hid (And.intro hw hall)
        have KP := Lib.hid (And.intro (kp_pos (d := d) (m := p + 1)) (kp_neg (d := d) (m := p + 1) hk1))
        clear hw hall HR
        rw [show p + 1 - 1 = p from rfl] at KP
        generalize d[p + 1]! = x at c1 hcall KP
        generalize d[p]! = y at c0 hcall KP
        have g0 : ((p + 1 : Nat) : Int) < (d.size : Int) := by omega
        have g1 : (0 : Int) ≤ (p : Int) := by omega
        have hw1 : IntKind.i64.wrap ((p : Int) + 1 - 1) = (p : Int) := by rw [IntWalk.i64_in _ (by omega)]; omega
        have hw2 : IntKind.i64.wrap (((p + 1 : Nat) : Int) - 1) = (p : Int) := by rw [IntWalk.i64_in _ (by omega)]; omega
        have hw3 : IntKind.i64.wrap (p : Int) = (p : Int) := IntWalk.i64_in _ (by omega)
        have g2 : (p : Int) < (d.size : Int) := by omega
        have g3 : (p : Int) + 1 < (d.size : Int) := by omega
        have g4 : (0 : Int) ≤ (p : Int) + 1 := by omega
        have g5 : ((p : Int) + 1).toNat = p + 1 := by omega
        by_cases hdup : cmpI x.l y.l = 0
        · have HCC : Hid (∀ n, Calls Try.prog 32 #[.slice x.A x.l.length x.c, .slice y.A y.l.length y.c] (wr.drewN n) fun e w' => e = .returned (.bool true) ∧ w' = wr.drewN n) := Lib.hid fun n => (hcall n).mono fun e w' h => ⟨by rw [h.1, hdup]; rfl, h.2.symm⟩
          have hkp := KP.out.2 hdup
          have HC : Hid (CpI d (p + 1 + 1) (p + 1) d) := Lib.hid (CpI.start HQ.out.2 hkp)
          clear hdup hkp KP hcall
          go_wp2_with (fail)
          go_quiet ((go_at_call 32; with_reducible exact Calls.quiet_of_same (HCC.out _)))
          go_wp2_with (fail)
          clear c0 c1
          generalize ho2 : off + (p + 1) = o2
          generalize hn2 : d.size - (p + 1) = n2
          have HN := Lib.hid ho2
          clear ho2
          go_loopg [5, 7] d.size (fun g s5 s7 wr2 => ∃ kk r : Nat, s5 = .int .i64 kk ∧ s7 = .int .i64 ((r + 1 : Nat) : Int) ∧ r + 1 ≤ n2 ∧ n2 - r ≤ g ∧ kk < d.size ∧ Hid (∃ (q2 : Nat) (dk : Array TV), wr2 = putRow TV.val (Sort.ahead w q2) blk off dk ∧ CpI d (p + 1 + (r + 1)) kk dk))
          case atStart =>
            refine ⟨p + 1, 0, by go_num, by go_num, by omega, by omega, by omega, Lib.hid ?_⟩
            obtain ⟨⟨q, rfl⟩, _⟩ := HQ.out
            exact ⟨_, d, by rw [World.drewN_drewN]; exact HP.out _, HC.out⟩
          case round =>
            obtain ⟨kk, r, rfl, rfl, hr, hg2, hkd, HI⟩ := hrel
            by_cases hlt2 : r + 1 < n2
            · obtain ⟨q2, dk, hwr, hI⟩ := HI.out
              have hkm := hI.lt
              have hds := hI.size
              have hHk : Holds TV.val wr blk off dk := by rw [hwr]; exact holds_putRow TV.val _ blk off d dk (holds_ahead TV.val w q2 blk off d HH.out) hds
              have ho := HN.out
              have c1 : wr.cell? ⟨blk, o2 + (r + 1), none⟩ = some (.slice d[p + 1 + (r + 1)]!.A d[p + 1 + (r + 1)]!.l.length d[p + 1 + (r + 1)]!.c) := by
                have := (hHk (p + 1 + (r + 1)) (by omega)).1
                rw [hI.high _ (by omega), show off + (p + 1 + (r + 1)) = o2 + (r + 1) by omega] at this
                exact this
              have c0 : wr.cell? ⟨blk, o2 + r, none⟩ = some (.slice d[p + 1 + r]!.A d[p + 1 + r]!.l.length d[p + 1 + r]!.c) := by
                have := (hHk (p + 1 + r) (by omega)).1
                rw [hI.high _ (by omega), show off + (p + 1 + r) = o2 + r by omega] at this
                exact this
              obtain ⟨ck, fk⟩ := hHk kk (by omega)
              have hcall := fun n => sameT_any d[p + 1 + (r + 1)]! d[p + 1 + r]! (wr.drewN n) (by rw [hwr, Go.Proofs.putRow_drewN]; exact HO.out _ _ _ (by omega)) (by rw [hwr, Go.Proofs.putRow_drewN]; exact HO.out _ _ _ (by omega))
              have KP := Lib.hid (And.intro (kp_pos (d := d) (m := p + 1 + (r + 1))) (And.intro (kp_neg (d := d) (m := p + 1 + (r + 1)) (by omega)) hI.keep))
              have HW := Lib.hid (And.intro hwr hI)
              clear hwr hI HI hHk ho
              rw [show p + 1 + (r + 1) - 1 = p + 1 + r from rfl] at KP
              generalize d[p + 1 + (r + 1)]! = x at c1 hcall KP
              generalize d[p + 1 + r]! = y at c0 hcall KP
              generalize TV.val dk[kk]! = old at ck
              have g0 : ((r + 1 : Nat) : Int) < (n2 : Int) := by omega
              have g1 : (0 : Int) ≤ (r : Int) := by omega
              have hw1 : IntKind.i64.wrap ((r : Int) + 1 - 1) = (r : Int) := by rw [IntWalk.i64_in _ (by omega)]; omega
              have hw2 : IntKind.i64.wrap (((r + 1 : Nat) : Int) - 1) = (r : Int) := by rw [IntWalk.i64_in _ (by omega)]; omega
              have hw3 : IntKind.i64.wrap (r : Int) = (r : Int) := IntWalk.i64_in _ (by omega)
              have g2 : (r : Int) < (n2 : Int) := by omega
              have g3 : (r : Int) + 1 < (n2 : Int) := by omega
              have g4 : (0 : Int) ≤ (r : Int) + 1 := by omega
              have g5 : ((r : Int) + 1).toNat = r + 1 := by omega
              by_cases hdup : cmpI x.l y.l = 0
              · have HCC : Hid (∀ n, Calls Try.prog 32 #[.slice x.A x.l.length x.c, .slice y.A y.l.length y.c] (wr.drewN n) fun e w' => e = .returned (.bool true) ∧ w' = wr.drewN n) := Lib.hid fun n => (hcall n).mono fun e w' h => ⟨by rw [h.1, hdup]; rfl, h.2.symm⟩
                have HK := Lib.hid (KP.out.2.1 hdup)
                clear hdup KP hcall ck fk
                go_wp2_with (fail)
                go_quiet ((go_at_call 32; with_reducible exact Calls.quiet_of_same (HCC.out _)))
                go_wp2_with (fail)
                go_roundg (n2 - (r + 1))
                case measure => omega
                case rel =>
                  obtain ⟨rfl, hI⟩ := HW.out
                  exact ⟨kk, r + 1, rfl, by go_num, by omega, Nat.le_refl _, hkd, Lib.hid ⟨_, dk, Go.Proofs.putRow_drewN _ _ _ _ _ _ _, hI.skip HK.out⟩⟩
              · have HCC : Hid (∀ n, Calls Try.prog 32 #[.slice x.A x.l.length x.c, .slice y.A y.l.length y.c] (wr.drewN n) fun e w' => e = .returned (.bool false) ∧ w' = wr.drewN n) := Lib.hid fun n => (hcall n).mono fun e w' h => ⟨by rw [h.1, decide_eq_false hdup], h.2.symm⟩
                have HK := Lib.hid (KP.out.2.2 (by omega) (KP.out.1 hdup))
                clear hdup KP hcall
                go_wp2_with (fail)
                go_quiet ((go_at_call 32; with_reducible exact Calls.quiet_of_same (HCC.out _)))
                go_wp2_with (fail)
                go_roundg (n2 - (r + 1))
                case measure => omega
                case rel =>
                  obtain ⟨hwr, hI⟩ := HW.out
                  exact ⟨kk + 1, r + 1, by go_num, by go_num, by omega, Nat.le_refl _, by omega, Lib.hid ⟨_, _, put_one (by omega) hwr x _, HK.out⟩⟩
            · obtain ⟨q2, dk, hwr, hI⟩ := HI.out
              have hme : p + 1 + (r + 1) = d.size := by omega
              rw [hme] at hI
              have hds := hI.size
              have hHk : Holds TV.val wr blk off dk := by rw [hwr]; exact holds_putRow TV.val _ blk off d dk (holds_ahead TV.val w q2 blk off d HH.out) hds
              have hcl : ∀ ty, (Builtin.clear_ #[35] ty #[.slice (some ⟨blk, off + kk, none⟩) (d.size - kk) (cap - kk)]).run Try.prog wr = .ok (.tuple #[]) (wr.setCells blk (off + kk) (List.replicate (d.size - kk) (.slice none 0 0))) :=
                fun ty => Lib.run_clear_slice wr _ _ ty _ Try.underlying35 Try.zeroValue63 rfl rfl blk (off + kk) _ _ (by omega) (fun j hj => by rw [show off + kk + j = off + (kk + j) by omega, (hHk (kk + j) (by omega)).1]; rfl) (fun j hj => by rw [show off + kk + j = off + (kk + j) by omega]; exact (hHk (kk + j) (by omega)).2)
              have HL := Lib.hid (And.intro hwr hI)
              clear hwr hI hHk HI
              go_wp2_with (fail)
              go_ret
              obtain ⟨hwr, hI⟩ := HL.out
              have hlen := hI.len
              refine ⟨by rw [hlen]; rfl, q2, lay dk kk (List.replicate (d.size - kk) ⟨none, [], 0⟩), by rw [lay_size]; exact hI.size, fun j hj => ?_, ?_⟩
              · rw [lay_low _ _ _ _ (by omega)]; exact hI.low j (by omega)
              · rw [hwr, ← putRow_setCells TV.val _ blk off _ dk kk (by simp; omega), List.map_replicate]; rfl
        · have HCC : Hid (∀ n, Calls Try.prog 32 #[.slice x.A x.l.length x.c, .slice y.A y.l.length y.c] (wr.drewN n) fun e w' => e = .returned (.bool false) ∧ w' = wr.drewN n) := Lib.hid fun n => (hcall n).mono fun e w' h => ⟨by rw [h.1, decide_eq_false hdup], h.2.symm⟩
          have hkp := KP.out.1 hdup
          have HK := Lib.hid hkp
          clear hdup hkp KP hcall
          go_wp2_with (fail)
          go_quiet ((go_at_call 32; with_reducible exact Calls.quiet_of_same (HCC.out _)))
          go_wp2_with (fail)
          go_roundg (d.size - (p + 2))
          case measure => omega
          case rel =>
            obtain ⟨⟨q, rfl⟩, hall⟩ := HQ.out
            exact ⟨p + 2, by omega, by omega, Nat.le_refl _, by go_num, Lib.hid ⟨⟨_, World.drewN_drewN _ _ _⟩, below_one d hall HK.out⟩⟩
      · have hke : k = d.size := by omega
        subst hke
        go_wp2_with (fail)
        go_ret
        obtain ⟨⟨q, rfl⟩, hall⟩ := HR.out
        obtain ⟨e1, e2⟩ := HE.out q hall
        exact ⟨by rw [e1]; rfl, e2⟩
end Go.Proofs.Ytgjjdmkoamjdpaa
/- TupZ, what this seat can fill of it. -/
namespace Go.Proofs.Ytgjjdmkoamjdpaa
/- tuple.Set: copied, sorted, of the same one kept. -/
open Go.RowKit Go.Maps Go.Shelf Go.Sort Go.Lib

/-- A row of the call's own has a block, or no tuple. -/
theorem OwnL.blk {w : World} {base : Nat} {y : LV} (h : OwnL w base y.val y.ts) (hn : y.ts.length ≠ 0) : ∃ g, y.A = some ⟨g, 0, none⟩ ∧ base ≤ g ∧ g < w.heap.size ∧ ∀ t ∈ y.ts, ∀ a, t.A = some a → a.block ≠ g := by
  rcases h.row.2 with ⟨_, e⟩ | ⟨g, cap, cur, hv, hb, hh, _⟩
  · exact absurd e hn
  · unfold LV.val at hv
    injection hv with e1 _ _
    refine ⟨g, e1, hb, heap_lt hh, fun t ht a ha e => ?_⟩
    refine own_apart (h.tup t ht) h.row (by decide) a.block (by unfold TV.val; rw [ha]; simp [Value.ownBlock]) ?_
    unfold LV.val
    rw [e1, e]
    simp [Value.ownBlock]
theorem Fr.lower1 {w w' : World} {g base : Nat} (h : Fr w w' [g]) (hb : base ≤ g) (hw : base ≤ w.heap.size) : Below base w w' := h.below hw fun x hx => by rw [List.mem_singleton.1 hx]; exact hb
/-- A list of some of its tuples, in the row's block. -/
theorem OwnL.turned {w w' : World} {base g n c : Nat} {y : LV} {us : List TV} (h : OwnL w base y.val y.ts) (hf : Fr w w' [g]) (ho : ∀ t ∈ y.ts, ∀ a, t.A = some a → a.block ≠ g) (hu : OwnT w' base (.slice (some ⟨g, 0, none⟩) n c) us) (hs : ∃ zs, zs.Perm y.ts ∧ us.Sublist zs) :
    OwnL w' base (.slice (some ⟨g, 0, none⟩) n c) us := by
  obtain ⟨zs, hp, hsub⟩ := hs
  have hm : ∀ t, t ∈ us → t ∈ y.ts := fun t ht => hp.subset (hsub.subset ht)
  refine ⟨hu, fun t ht => (h.tup t (hm t ht)).fr hf fun a ha hx => ho t (hm t ht) a ha (List.mem_singleton.1 hx), fun t ht => h.sm t (hm t ht), ?_⟩
  exact ((hp.pairwise_iff Off.symm).2 h.off).sublist hsub
/-- slices.SortFunc(out, Cmp). -/
def SoPost (w : World) (base : Nat) (y : LV) (e : Ending) (w' : World) : Prop :=
  e = .returned (.tuple #[]) ∧ ∃ us, us.Perm y.ts ∧ UpL us ∧ OwnL w' base (.slice y.A y.ts.length y.c) us ∧ Below base w w'
theorem sort_l (w : World) (base : Nat) (y : LV) (h : OwnL w base y.val y.ts) (hk : y.Ok w) (hw : base ≤ w.heap.size) :
    Calls Try.prog 29 #[.slice y.A y.ts.length y.c, .func (.func 30) #[] #[]] w (SoPost w base y) := by
  by_cases hn : y.ts.length = 0
  · have h0 : y.ts = [] := List.eq_nil_of_length_eq_zero hn
    have hc := sort_none w y.A y.c
    rw [← hn] at hc
    refine hc.mono ?_
    rintro e w' ⟨rfl, rfl⟩
    refine ⟨rfl, y.ts, List.Perm.refl _, by rw [h0]; exact .nil, h, Below.refl _ _⟩
  · obtain ⟨g, hA, hb, hg, ho⟩ := h.blk hn
    have hr : OwnT w base (.slice (some ⟨g, 0, none⟩) y.ts.length y.c) y.ts := by rw [← hA]; exact h.row
    rw [hA]
    refine (sort_any w base g y.c y.ts hr hg (fun t ht => ⟨hk.ok t ht, ho t ht⟩) hk.sm).mono ?_
    rintro e w' ⟨rfl, us, hp, hu, hO, hf⟩
    refine ⟨rfl, us, hp, hu, ?_, hf.lower1 hb hw⟩
    rw [hA, ← hp.length_eq]
    exact h.turned hf ho hO ⟨us, hp, List.Sublist.refl _⟩
set_option maxRecDepth 100000 in
/-- slices.CompactFunc of no tuple. -/
theorem compact_none (w : World) (A : Option Addr) (cap : Nat) (fv : Value) : Calls Try.prog 31 #[.slice A 0 cap, fv] w fun e w' => e = .returned (.slice A 0 cap) ∧ w' = w := by
  go_enter Try.func31, Try.ntmps31
  go_wp2_with (fail)
  go_ret
  exact ⟨rfl, rfl⟩
/-- slices.CompactFunc(out, same), of a row that doesn't fall. -/
def CfPost (w : World) (base : Nat) (R : List Tu) (e : Ending) (w' : World) : Prop :=
  ∃ u : LV, e = .returned (.slice u.A u.ts.length u.c) ∧ OwnL w' base u.val u.ts ∧ u.Ok w' ∧ tus u.ts = R ∧ Below base w w'
theorem compact_l (w : World) (base : Nat) (y : LV) (h : OwnL w base y.val y.ts) (hk : y.Ok w) (hu : UpL y.ts) (hw : base ≤ w.heap.size) :
    Calls Try.prog 31 #[.slice y.A y.ts.length y.c, .func (.func 32) #[] #[]] w (CfPost w base (setL (tus y.ts))) := by
  by_cases hn : y.ts.length = 0
  · have h0 : y.ts = [] := List.eq_nil_of_length_eq_zero hn
    have hc := compact_none w y.A y.c (.func (.func 32) #[] #[])
    rw [← hn] at hc
    refine hc.mono ?_
    rintro e w' ⟨rfl, rfl⟩
    exact ⟨y, rfl, h, hk, by rw [h0]; rfl, Below.refl _ _⟩
  · obtain ⟨g, hA, hb, hg, ho⟩ := h.blk hn
    have hr : OwnT w base (.slice (some ⟨g, 0, none⟩) y.ts.length y.c) y.ts := by rw [← hA]; exact h.row
    have hds : y.ts.toArray.size = y.ts.length := by simp
    have hget : ∀ j, j < y.ts.toArray.size → y.ts.toArray[j]! ∈ y.ts := fun j hj => by rw [getElem!_pos _ j hj]; simp
    rw [hA]
    have hcore := compact_core w g 0 y.c y.ts.toArray (hr.holds id y.ts.toArray (by simp)) (fun j hj => ⟨hk.ok _ (hget j hj), ho _ (hget j hj)⟩) (by rw [hds]; exact hk.sm) (by rw [hds]; exact hk.cap)
    rw [hds] at hcore
    refine hcore.mono ?_
    rintro e w' ⟨rfl, q, dk, hdk, hlow, rfl⟩
    have hsub := cpN_sub y.ts.toArray
    rw [hds] at hsub
    have hset := cpN_set y.ts.toArray hu (tus y.ts) (List.Perm.refl _)
    rw [hds] at hset
    generalize cpN y.ts.toArray y.ts.length = R at *
    have hRl : R.length ≤ y.ts.length := hsub.length_le
    have hf : Fr w (putRow TV.val (Sort.ahead w q) g 0 dk) [g] := by
      have := fr_put TV.val w g 0 q dk #[]
      rwa [grow_empty] at this
    have hput := hr.put id hg q dk #[] (by rw [hdk]) R.length hRl
    rw [grow_empty, List.map_id] at hput
    have hR : dk.toList.take R.length = R := by
      apply List.ext_getElem?
      intro j
      rw [List.getElem?_take]
      by_cases hj : j < R.length
      · rw [if_pos hj, hlow j hj, Array.getElem?_toList, getElem!_pos dk j (by omega), Array.getElem?_eq_getElem (by omega)]
      · rw [if_neg hj, List.getElem?_eq_none (by omega)]
    rw [hR] at hput
    have hO := h.turned hf ho hput ⟨y.ts, List.Perm.refl _, hsub⟩
    exact ⟨⟨some ⟨g, 0, none⟩, R, y.c⟩, rfl, hO, OwnL.ok' (x := ⟨some ⟨g, 0, none⟩, R, y.c⟩) hO (Nat.le_trans hRl hk.sm) rfl, hset, hf.lower1 hb hw⟩
set_option maxRecDepth 100000 in
set_option maxHeartbeats 1000000 in
/-- tuple.Set. -/
theorem set_l (x : LV) (w : World) (hx : x.Ok w) : Calls Try.prog 18 #[.slice x.A x.ts.length x.c] w (CoL w (setL (tus x.ts))) := by
  have HC := Lib.hid (copied_l x w hx)
  clear hx
  go_enter Try.func18, Try.ntmps18
  go_wp2_with (first
    | (go_at_call 28; (with_reducible refine HC.out.mono ?_); rintro e w1 ⟨y, rfl, o1, k1, e1, b1⟩; have HS := Lib.hid (sort_l w1 w.heap.size y o1 k1 b1.size); have E1 := Lib.hid (And.intro k1 (And.intro e1 b1)); clear o1 k1 e1 b1 HC)
    | (go_at_call 29; (with_reducible refine HS.out.mono ?_); rintro e w2 ⟨rfl, us, p2, u2, o2, b2⟩; have q2 := p2.length_eq; rw [← q2] at o2; have s2 : us.length ≤ 5000 := (by have := E1.out.1.sm; omega); have HF : Hid (Calls Try.prog 31 #[.slice y.A y.ts.length y.c, .func (.func 32) #[] #[]] w2 (CfPost w2 w.heap.size (setL (tus us)))) := Lib.hid (by rw [← q2]; exact compact_l w2 w.heap.size ⟨y.A, us, y.c⟩ o2 (OwnL.ok' (x := ⟨y.A, us, y.c⟩) o2 s2 rfl) u2 (Nat.le_trans E1.out.2.2.size b2.size)))
    | (go_at_call 31; (with_reducible refine HF.out.mono ?_); rintro e w3 ⟨v, rfl, o3, k3, e3, b3⟩))
  go_ret
  refine ⟨v, rfl, o3, k3, ?_, E1.out.2.2.trans (b2.trans b3)⟩
  rw [e3, ← E1.out.2.1]
  exact ris_ext (ris_set _) (ris_set _) fun q => by rw [mem_set, mem_set]; exact (p2.map TV.l).mem_iff
end Go.Proofs.Ytgjjdmkoamjdpaa
/- JoO, what this seat can fill of it. -/
namespace Go.Proofs.Ytgjjdmkoamjdpaa
/- A step's calls: Told, Tells. -/
open Go.RowKit Go.Maps

theorem new3 (w : World) (a b c : Obj) : (((w.alloc a).alloc b).alloc c).heap[w.heap.size + 1 + 1]? = some c ∧ (((w.alloc a).alloc b).alloc c).heap[w.heap.size + 1]? = some b ∧ Below w.heap.size w (((w.alloc a).alloc b).alloc c) := by
  have h1 := heap_alloc_new ((w.alloc a).alloc b) c
  rw [alloc1_size, alloc1_size] at h1
  have h2 := two_new w a b
  refine ⟨h1, (Below.heap_alloc _ _ _ (heap_lt h2.2)).trans h2.2, ?_⟩
  exact (((Below.refl _ _).alloc (Nat.le_refl _) a).alloc (by simp) b).alloc (by simp; omega) c
end Go.Proofs.Ytgjjdmkoamjdpaa
/- JoP, what this seat can fill of it. -/
namespace Go.Proofs.Ytgjjdmkoamjdpaa
/- A step's With. -/
open Go.RowKit Go.Maps

/-- What a call answers that makes a tuple of its own. -/
def TuPost (w : World) (l : Tu) (e : Ending) (w' : World) : Prop := ∃ u : TV, e = .returned (.slice u.A u.l.length u.c) ∧ OwnI w' w.heap.size u ∧ u.l = l ∧ Below w.heap.size w w'
theorem isNil_any (w : World) (n c : Nat) : (binOp BinOp.eql 63 (.slice none n c) (.slice none 0 0)).run Try.prog w = .ok (.bool true) w := Lib.run_eql_slice_nil w _ _ none n c 0 0 Try.underlying63
theorem notNil_any (w : World) (p : Addr) (n c : Nat) : (binOp BinOp.eql 63 (.slice (some p) n c) (.slice none 0 0)).run Try.prog w = .ok (.bool false) w := Lib.run_eql_slice_nil w _ _ (some p) n c 0 0 Try.underlying63
/-- append of one number to a tuple of the call's own. -/
theorem run_app1I (w : World) (lo : Nat) (u : TV) (x : Int) (h : OwnI w lo u) (hb : lo ≤ w.heap.size) (hl : u.l.length ≤ 900) :
    ∃ u' : TV, ∃ w', (Builtin.append_ #[63, 63] 63 #[.slice u.A u.l.length u.c, .slice (some ⟨w.heap.size, 0, none⟩) 1 1]).run Try.prog (w.alloc (.cells #[.int .i64 x] 3)) = .ok (.slice u'.A u'.l.length u'.c) w' ∧ u'.l = u.l ++ [x] ∧ OwnI w' lo u' ∧ Below lo w w' := by
  obtain ⟨i, hi, hz0, hz1, hz2⟩ := info_parts infoInt
  have hb4 : Below w.heap.size w (w.alloc (.cells #[.int .i64 x] 3)) := (Below.refl _ _).alloc (Nat.le_refl _) _
  have hr4 := own_below h hb4 (Nat.le_refl _)
  have hrd : Rd (w.alloc (.cells #[.int .i64 x] 3)) (w.heap.size + 1) (some ⟨w.heap.size, 0, none⟩) (intsV [x]) := Rd.new w #[.int .i64 x] 3 (0, 0)
  obtain ⟨v5, w5, hrun, g1, g2, g3⟩ := run_appR (P := Try.prog) _ lo 63 63 3 i _ 1 8 Try.underlying63 hi hz0 hz1 hz2 rfl (by omega) u.val u.l.length (intsV u.l) hr4 (w.heap.size + 1) (some ⟨w.heap.size, 0, none⟩) 1 1 (intsV [x]) rfl hrd (intsV_one _) (by omega) (by omega) (Nat.le_trans hb hb4.size)
  have e1 : intsV u.l ++ intsV [x] = intsV (u.l ++ [x]) := (List.map_append).symm
  rw [e1] at g1
  obtain ⟨A, c, rfl, _, _, _⟩ := own_shape g1
  refine ⟨⟨A, u.l ++ [x], c⟩, w5, ?_, rfl, ?_, (lower' hb4 hb).trans (grown_below' g2 (fun z hz => (World.ownsRow.lt hr4 z hz).1) (Nat.le_trans hb hb4.size))⟩
  · rw [List.length_append]
    exact hrun
  · unfold OwnI TV.val
    rw [List.length_append]
    exact g1
theorem push_yes {row : Tu} {p : Nat} {x : Int} (h : p = row.length) : push1 row p x = row ++ [x] := if_pos h
theorem push_no {row : Tu} {p : Nat} {x : Int} (h : ¬ p = row.length) : push1 row p x = row := if_neg h
end Go.Proofs.Ytgjjdmkoamjdpaa
/- JoQ, what this seat can fill of it. -/
namespace Go.Proofs.Ytgjjdmkoamjdpaa
/- An entry of a map, taken and stored: m[k] = append(m[k], ..); groups of ends in a map. -/
open Go.RowKit Go.Maps Go.WideElems
open Go.ChangeMaps (heap_setBlock_same)

theorem MapV.move {w w' : World} {k : TypeId} {b n : Nat} {g : Value → Option Value} (h : MapV w k b n g) (e : w'.heap[b]? = w.heap[b]?) : MapV w' k b n g := by
  obtain ⟨D, ⟨es, clock, hb, r⟩, hg⟩ := h
  exact ⟨D, ⟨es, clock, e.trans hb, r⟩, hg⟩
set_option maxRecDepth 100000 in
/-- m[key] as an entry: what it holds; and what is stored there later. -/
theorem MapV.entry {w : World} {k e t : TypeId} {b n : Nat} {g : Value → Option Value} {key z : Value} {kl : Lit} (h : MapV w k b n g) (K : WideMaps.KeyLaw Try.prog k) (ht : Try.prog.underlying t = some (.map k e)) (hz : ∀ u : World, (zeroValue e).run Try.prog u = .ok z u) (hk : keyOf Try.prog k key = some kl) (hn : n < maxLen) :
    ∃ (st : Nat) (w1 : World), (Instr.mapEntry t (.map (some b)) key).run Try.prog w = .ok (.tuple #[(g key).getD z, .int .i64 (st : Int)]) w1 ∧ Fr w w1 [b] ∧ b < w1.heap.size ∧
      ∀ (val : Value) (w2 : World) (g' : Value → Option Value), w2.heap[b]? = w1.heap[b]? → g' key = some val → (∀ q, q ≠ key → g' q = g q) → ∃ w3, (Instr.entryStore t (.map (some b)) (.int .i64 (st : Int)) val).run Try.prog w2 = .ok () w3 ∧ MapV w3 k b (n + 1) g' ∧ Fr w2 w3 [b] := by
  have hV := h
  obtain ⟨D, ⟨es, clock, hb, F, hs, hD⟩, hg⟩ := h
  obtain ⟨v0, st, es1, clock1, h1, h2, h3⟩ := entry_then_store K ht hz hb F hk
  have hv0 : v0 = (g key).getD z := by
    have hat := Go.WideShapes.atKey_sorted (es.toList.map (rg Try.prog k rawR)) (Maps.fit_rising (Keyed.of_law K) F) kl ((Keyed.of_law K).key hk)
    have hgk := (hg key kl hk).2 z
    rw [hD] at hgk
    rcases h2 with ⟨e0, hm0, hk0, rfl⟩ | ⟨hno, rfl⟩
    · obtain ⟨y0, hy0⟩ := F.reads e0 hm0
      obtain ⟨zv, hzv, hd⟩ := rd_val hy0
      have m0 := rd_key hy0
      rw [hk0, hk] at m0
      have := hat.2 (rg Try.prog k rawR e0) (List.mem_map.2 ⟨e0, hm0, rfl⟩) (by rw [rg_of hy0]; exact (Option.some.inj m0).symm) (.held z)
      rw [this, rg_of hy0, hd] at hgk
      unfold rawR at hzv
      rw [← Option.some.inj hzv] at hgk
      exact DataW.held.inj hgk
    · have := hat.1 (fun p hp e1 => by
        obtain ⟨x, hx, rfl⟩ := List.mem_map.1 hp
        obtain ⟨y, hy⟩ := F.reads x hx
        have m1 := rd_key hy
        rw [rg_of hy] at e1
        rw [e1] at m1
        exact hno x hx (K.inj m1 hk)) (.held v0)
      rw [this] at hgk
      exact DataW.held.inj hgk
  rw [← hv0]
  refine ⟨st, _, h1, Fr.of_grown (World.mapTurned.grown ⟨es, clock, es1, clock1, hb, rfl⟩), heap_lt (heap_setBlock_same hb _), fun val w2 g' hw2 hg1 hg2 => ?_⟩
  rw [heap_setBlock_same hb] at hw2
  obtain ⟨es', clock', k1, k2⟩ := h3 w2 val hw2
  obtain ⟨w', m1, m2, _⟩ := hV.store (Keyed.of_law K) ht hn hk val g' hg1 hg2
  rw [k2] at m1
  injection m1 with _ m1
  subst m1
  exact ⟨_, k1, m2.move ((heap_setBlock_same hw2 _).trans (heap_setBlock_same hb _).symm), Fr.of_grown (World.mapTurned.grown ⟨_, _, es', clock', hw2, rfl⟩)⟩
end Go.Proofs.Ytgjjdmkoamjdpaa
/- JoR, what this seat can fill of it. -/
namespace Go.Proofs.Ytgjjdmkoamjdpaa
/- Groups of ends in a map: by what a row tells of them. -/
open Go.RowKit Go.Maps

def nilE : Value := .slice none 0 0
def grp (s : Stp) (F : List (Int × Int)) (key : Int × Int) : List (Int × Int) := F.filter fun e => decide (toldS s e = key)
theorem grp_same (s : Stp) (F : List (Int × Int)) (e : Int × Int) : grp s (F ++ [e]) (toldS s e) = grp s F (toldS s e) ++ [e] := by
  unfold grp
  rw [List.filter_append]
  simp
theorem grp_other {s : Stp} {F : List (Int × Int)} {e key : Int × Int} (h : key ≠ toldS s e) : grp s (F ++ [e]) key = grp s F key := by
  unfold grp
  rw [List.filter_append]
  have : decide (toldS s e = key) = false := decide_eq_false (fun h2 => h h2.symm)
  simp [this]
theorem grp_len (s : Stp) (F : List (Int × Int)) (key : Int × Int) : (grp s F key).length ≤ F.length := List.length_filter_le _ _
/-- Below lo all but block b stays. -/
structure Keep (lo b : Nat) (w w' : World) : Prop where
  os : w'.os = w.os
  tape : w'.tape = w.tape
  output : w'.output = w.output
  size : w.heap.size ≤ w'.heap.size
  block : ∀ q, q < lo → q ≠ b → w'.heap[q]? = w.heap[q]?
theorem Keep.refl (lo b : Nat) (w : World) : Keep lo b w w := ⟨rfl, rfl, rfl, Nat.le_refl _, fun _ _ _ => rfl⟩
theorem Keep.trans {lo b : Nat} {x y z : World} (h : Keep lo b x y) (k : Keep lo b y z) : Keep lo b x z :=
  ⟨k.os.trans h.os, k.tape.trans h.tape, k.output.trans h.output, Nat.le_trans h.size k.size, fun q h1 h2 => (k.block q h1 h2).trans (h.block q h1 h2)⟩
theorem Keep.of_below {lo b B : Nat} {x y : World} (h : Below B x y) (hB : lo ≤ B) : Keep lo b x y := ⟨h.os, h.tape, h.output, h.size, fun q h1 _ => h.block q (Nat.lt_of_lt_of_le h1 hB)⟩
theorem Keep.of_fr {lo b : Nat} {x y : World} {S : List Nat} (h : Fr x y S) (hlo : lo ≤ x.heap.size) (hS : ∀ q ∈ S, lo ≤ q ∨ q = b) : Keep lo b x y :=
  ⟨h.os, h.tape, h.output, h.size, fun q h1 h2 => h.block q (Nat.lt_of_lt_of_le h1 hlo) (fun hm => by rcases hS q hm with h | h <;> omega)⟩
theorem Keep.below {lo b B : Nat} {x y : World} (h : Keep lo b x y) (h1 : B ≤ lo) (h2 : B ≤ b) : Below B x y := ⟨h.os, h.tape, h.output, h.size, fun q hq => h.block q (by omega) (by omega)⟩
/-- Ends that lie below lo, not in block b. -/
theorem Ens.keep {w w' : World} {lo b : Nat} {A : Option Addr} {c : Nat} {l : List (Int × Int)} (h : Ens w A c l) (hlo : w.heap.size ≤ lo) (hb : ∃ es clock, w.heap[b]? = some (.map es clock)) (hk : Keep lo b w w') : Ens w' A c l := by
  refine ⟨fun hn => ?_, h.cap⟩
  obtain ⟨q, o, e, hq, hc⟩ := h.rd hn
  have hqb : q ≠ b := by
    rintro rfl
    obtain ⟨es, clock, hm⟩ := hb
    obtain ⟨x, r, hxr⟩ := List.exists_cons_of_ne_nil hn
    have := hc 0 x (by rw [hxr]; rfl)
    simp [World.cell?, hm] at this
  exact ⟨q, o, e, Nat.lt_of_lt_of_le hq hk.size, fun j u hu => (World.cell?_of_block (hk.block q (by omega) hqb)).trans (hc j u hu)⟩
theorem MapV.isMap {w : World} {k : TypeId} {b n : Nat} {g : Value → Option Value} (h : MapV w k b n g) : ∃ es clock, w.heap[b]? = some (.map es clock) := by
  obtain ⟨D, ⟨es, clock, hb, _⟩, _⟩ := h
  exact ⟨es, clock, hb⟩
end Go.Proofs.Ytgjjdmkoamjdpaa
/- JoS, what this seat can fill of it. -/
namespace Go.Proofs.Ytgjjdmkoamjdpaa
/- join.with: the rows of one atom more. -/
open Go.RowKit Go.Maps

/-- Rows that the call has made. -/
structure RowsAt (wr : World) (lo : Nat) (v : Value) (us : List TV) : Prop where
  row : OwnT wr lo v us
  tup : ∀ u ∈ us, OwnI wr lo u ∧ u.l.length ≤ 100
theorem RowsAt.nil (w : World) (lo : Nat) : RowsAt w lo (.slice none 0 0) [] := ⟨World.ownsRow_nil _ _ _ _, fun _ h => nomatch h⟩
theorem RowsAt.kept {w w' : World} {lo : Nat} {v : Value} {us : List TV} (h : RowsAt w lo v us) (hb : Below w.heap.size w w') : RowsAt w' lo v us :=
  ⟨OwnT.below h.row hb, fun u hu => ⟨(h.tup u hu).1.below hb, (h.tup u hu).2⟩⟩
/-- A row more. -/
theorem RowsAt.push {w : World} {lo : Nat} {v : Value} {us : List TV} {u : TV} (h : RowsAt w lo v us) (hu : OwnI w lo u) (hul : u.l.length ≤ 100) (hl : us.length ≤ 5000) (hlo : lo ≤ w.heap.size) :
    ∃ A5 c5 w5, (Builtin.append_ #[35, 35] 35 #[v, .slice (some ⟨w.heap.size, 0, none⟩) 1 1]).run Try.prog (w.alloc (.cells #[.slice u.A u.l.length u.c] 63)) = .ok (.slice A5 (us.length + 1) c5) w5 ∧ RowsAt w5 lo (.slice A5 (us.length + 1) c5) (us ++ [u]) ∧ Below lo w w5 := by
  obtain ⟨i0, hi, hz0, hz1, hz2⟩ := info_parts infoTup
  have hb4 : Below w.heap.size w (w.alloc (.cells #[.slice u.A u.l.length u.c] 63)) := (Below.refl _ _).alloc (Nat.le_refl _) _
  have h4 := h.kept hb4
  have hu4 := hu.below hb4
  have hrd : Rd (w.alloc (.cells #[.slice u.A u.l.length u.c] 63)) (w.heap.size + 1) (some ⟨w.heap.size, 0, none⟩) (vals [u]) := Rd.new w #[.slice u.A u.l.length u.c] 63 (0, 0)
  obtain ⟨v5, w5, hrun, g1, g2, g3⟩ := run_appR (P := Try.prog) _ lo 35 35 63 i0 _ 1 24 Try.underlying35 hi hz0 hz1 hz2 rfl (by omega) v us.length (vals us) h4.row (w.heap.size + 1) (some ⟨w.heap.size, 0, none⟩) 1 1 (vals [u]) rfl hrd (vals_one _) (by omega) (by omega) (Nat.le_trans hlo hb4.size)
  rw [← vals_app] at g1
  obtain ⟨A, c, rfl, _, _, _⟩ := own_shape g1
  have hfr := fr_grown g2
  refine ⟨A, c, w5, hrun, ⟨by unfold OwnT; rw [List.length_append]; exact g1, fun t ht => ?_⟩, (lower' hb4 hlo).trans (hfr.below (Nat.le_trans hlo hb4.size) (own_ge h4.row))⟩
  have hap : ∀ t : TV, OwnI (w.alloc (.cells #[.slice u.A u.l.length u.c] 63)) lo t → ∀ a, t.A = some a → a.block ∉ v.ownBlock.toList := fun t ht a ha hm =>
    own_apart ht h4.row (by decide) a.block (by unfold TV.val; rw [ha]; simp [Value.ownBlock]) hm
  rcases List.mem_append.1 ht with ht | ht
  · exact ⟨(h4.tup t ht).1.fr hfr (hap t (h4.tup t ht).1), (h4.tup t ht).2⟩
  · rw [List.mem_singleton.1 ht]
    exact ⟨hu4.fr hfr (hap u hu4), hul⟩
theorem RowsAt.ok {w : World} {lo : Nat} {A : Option Addr} {n c : Nat} {us : List TV} (h : RowsAt w lo (.slice A n c) us) (hl : us.length ≤ 5000) : n = us.length ∧ LV.Ok w ⟨A, us, c⟩ := by
  obtain ⟨A', c', e, h1, _, h2⟩ := own_shape h.row
  injection e with e1 e2 e3
  subst e1 e2 e3
  exact ⟨rfl, h2, fun t ht => (h.tup t ht).1.ok (by have := (h.tup t ht).2; omega), h1, hl⟩
theorem withL_at {s : Stp} {ahead : List Tu} {es : List Ed} {k : Nat} (h : k < ahead.length) : withL s ahead es = withL s (ahead.take k) es ++ (foundL s es (tellsS s ahead[k])).map (withS s ahead[k]) ++ withL s (ahead.drop (k + 1)) es := by
  unfold withL
  rw [← List.flatMap_singleton (f := fun row => (foundL s es (tellsS s row)).map (withS s row)) ahead[k], ← List.flatMap_append, ← List.flatMap_append]
  congr 1
  rw [List.append_assoc, List.singleton_append, ← List.drop_eq_getElem_cons h, List.take_append_drop]
theorem withL_take {s : Stp} {ahead : List Tu} {es : List Ed} {k : Nat} (h : k < ahead.length) : withL s (ahead.take (k + 1)) es = withL s (ahead.take k) es ++ (foundL s es (tellsS s ahead[k])).map (withS s ahead[k]) := by
  unfold withL
  rw [List.take_succ_eq_append_getElem h, List.flatMap_append, List.flatMap_singleton]
theorem tells_i64 {s : Stp} {row : Tu} (h : ∀ v ∈ row, I64 v) : I64 (tellsS s row).1 ∧ I64 (tellsS s row).2 := by
  have h0 : I64 0 := by unfold I64; omega
  have hg : ∀ i, I64 (row.getD i 0) := fun i => by
    rw [List.getD_eq_getElem?_getD]
    rcases hi : row[i]? with _ | v
    · exact h0
    · exact h v (List.mem_of_getElem? hi)
  unfold tellsS
  constructor
  · dsimp only; split
    · exact hg _
    · exact h0
  · dsimp only; split
    · exact hg _
    · exact h0
theorem told_i64 {s : Stp} {e : Int × Int} (h1 : I64 e.1) (h2 : I64 e.2) : I64 (toldS s e).1 ∧ I64 (toldS s e).2 := by
  have h0 : I64 0 := by unfold I64; omega
  unfold toldS
  constructor
  · dsimp only; split
    · exact h0
    · exact h1
  · dsimp only; split
    · exact h0
    · exact h2
theorem fit_i64 {s : Stp} {es : List Ed} (h : ∀ e ∈ es, e.Ok) : ∀ e ∈ fitL s es, I64 e.1 ∧ I64 e.2 := by
  intro e he
  unfold fitL at he
  obtain ⟨d, hd, rfl⟩ := List.mem_map.1 he
  have := h d (List.mem_filter.1 hd).1
  exact ⟨this.f, this.t⟩
end Go.Proofs.Ytgjjdmkoamjdpaa
/- JoU, what this seat can fill of it. -/
namespace Go.Proofs.Ytgjjdmkoamjdpaa
/- join.with: the walk. -/
open Go.RowKit Go.Maps

end Go.Proofs.Ytgjjdmkoamjdpaa
/- JoV, what this seat can fill of it. -/
namespace Go.Proofs.Ytgjjdmkoamjdpaa
/- join.rowsOf, join.Rows. -/
open Go.RowKit Go.Maps

theorem with_i64 {s : Stp} {ahead : List Tu} {es : List Ed} (he : ∀ e ∈ es, e.Ok) (ha : ∀ r ∈ ahead, ∀ v ∈ r, I64 v) : ∀ r ∈ withL s ahead es, ∀ v ∈ r, I64 v := by
  intro r hr v hv
  unfold withL at hr
  obtain ⟨q, hq, hr⟩ := List.mem_flatMap.1 hr
  obtain ⟨e, hm, rfl⟩ := List.mem_map.1 hr
  have hi := fit_i64 (s := s) he e (List.mem_filter.1 hm).1
  have hp : ∀ (row : Tu) (p : Nat) (z : Int), v ∈ push1 row p z → v ∈ row ∨ v = z := by
    intro row p z h
    unfold push1 at h
    split at h
    · rcases List.mem_append.1 h with h | h
      · exact .inl h
      · exact .inr (by simpa using h)
    · exact .inl h
  unfold withS at hv
  rcases hp _ _ _ hv with h | h
  · rcases hp _ _ _ h with h | h
    · exact ha q hq v h
    · rw [h]; exact hi.1
  · rw [h]; exact hi.2
/-- Where rowsOf is, behind k steps. -/
structure RoAt (w wr : World) (ats : List Atm) (es : List Ed) (k : Nat) (y : LV) : Prop where
  ok : y.Ok wr
  rows : rowsN (onceL es) ((stepsL ats).drop k) (tus y.ts) = rowsOfL ats es
  kn : ∃ kn, ChainOk kn ((stepsL ats).drop k) ∧ knEnd kn ((stepsL ats).drop k) ≤ 16 ∧ ∀ r ∈ tus y.ts, r.length = kn
  i64 : ∀ r ∈ tus y.ts, ∀ v ∈ r, I64 v
  low : y.ts.length ≤ 3000
  below : Below w.heap.size w wr
theorem stepsC_cell {w : World} {A : Option Addr} {ss : List Stp} (h : Rd w w.heap.size A (stsC ss)) {k : Nat} (hk : k < ss.length) : ∃ b o, A = some ⟨b, o, none⟩ ∧ b < w.heap.size ∧ w.cell? ⟨b, o + k * 4, none⟩ = some (.string ⟨ss[k].lab.toArray⟩) ∧ w.cell? ⟨b, o + k * 4 + 1, none⟩ = some (.int .i64 (ss[k].fr : Int)) ∧ w.cell? ⟨b, o + k * 4 + 2, none⟩ = some (.int .i64 (ss[k].to : Int)) ∧ w.cell? ⟨b, o + k * 4 + 3, none⟩ = some (.int .i64 (ss[k].kn : Int)) := by
  have hne : stsC ss ≠ [] := fun e => by have := stsC_len ss; rw [e] at this; simp at this; omega
  obtain ⟨b, o, e, hb, hc⟩ := h hne
  have hat := fun j hj => flat4_at stC (fun _ => rfl) ss k j hk hj
  refine ⟨b, o, e, hb, hc (k * 4) _ (hat 0 (by omega)), ?_, ?_, ?_⟩
  · rw [Nat.add_assoc]; exact hc (k * 4 + 1) _ (hat 1 (by omega))
  · rw [Nat.add_assoc]; exact hc (k * 4 + 2) _ (hat 2 (by omega))
  · rw [Nat.add_assoc]; exact hc (k * 4 + 3) _ (hat 3 (by omega))
end Go.Proofs.Ytgjjdmkoamjdpaa
/- JoW, what this seat can fill of it. -/
namespace Go.Proofs.Ytgjjdmkoamjdpaa
/- join.Rows. -/
open Go.RowKit Go.Maps

/-- The rows' code and list. -/
def rowsC (v : Vw) (es : List Ed) : Int := if goodP v = true then (if (rowsOfL v.atoms es).length ≤ 3000 then 0 else 5) else 1
def rowsR (v : Vw) (es : List Ed) : List Tu := if goodP v = true then (if (rowsOfL v.atoms es).length ≤ 3000 then setL (rowsOfL v.atoms es) else []) else []
theorem rowsR_len (v : Vw) (es : List Ed) : (rowsR v es).length ≤ 3000 := by
  unfold rowsR
  split
  · split
    · have := setL_len (rowsOfL v.atoms es); omega
    · simp
  · simp
/-- What Rows answers. -/
def RoPost (w : World) (code : Int) (R : List Tu) (e : Ending) (w' : World) : Prop := ∃ y : LV, e = .returned (.tuple #[.slice y.A y.ts.length y.c, .int .i64 code]) ∧ OwnL w' w.heap.size y.val y.ts ∧ y.Ok w' ∧ tus y.ts = R ∧ Below w.heap.size w w'
theorem ownL_nil (w : World) (lo : Nat) : OwnL w lo (LV.val ⟨none, [], 0⟩) [] := ⟨World.ownsRow_nil _ _ _ _, fun _ h => (nomatch h), fun _ h => (nomatch h), .nil⟩
theorem okL_nil (w : World) : LV.Ok w ⟨none, [], 0⟩ := ⟨Rd.emp _ _ _, fun _ h => (nomatch h), Nat.le_refl _, by simp⟩
end Go.Proofs.Ytgjjdmkoamjdpaa
/- JoX, what this seat can fill of it. -/
namespace Go.Proofs.Ytgjjdmkoamjdpaa
/- slices.BinarySearchFunc of tuples, by tuple.Cmp, for one that is there. -/
open Go.RowKit Go.Maps

end Go.Proofs.Ytgjjdmkoamjdpaa
/- JoY, what this seat can fill of it. -/
namespace Go.Proofs.Ytgjjdmkoamjdpaa
/- join.outputsOf. -/
open Go.RowKit Go.Maps

/-- append of one number to a tuple of the call's own: what else stays. -/
theorem run_app1F (w : World) (lo : Nat) (u : TV) (x : Int) (h : OwnI w lo u) (hb : lo ≤ w.heap.size) (hl : u.l.length ≤ 900) :
    ∃ u' : TV, ∃ w', (Builtin.append_ #[63, 63] 63 #[.slice u.A u.l.length u.c, .slice (some ⟨w.heap.size, 0, none⟩) 1 1]).run Try.prog (w.alloc (.cells #[.int .i64 x] 3)) = .ok (.slice u'.A u'.l.length u'.c) w' ∧ u'.l = u.l ++ [x] ∧ OwnI w' lo u' ∧ Fr (w.alloc (.cells #[.int .i64 x] 3)) w' u.val.ownBlock.toList ∧ (u'.val.ownBlock = u.val.ownBlock ∨ u'.val.ownBlock = some (w.heap.size + 1)) := by
  obtain ⟨i, hi, hz0, hz1, hz2⟩ := info_parts infoInt
  have hb4 : Below w.heap.size w (w.alloc (.cells #[.int .i64 x] 3)) := (Below.refl _ _).alloc (Nat.le_refl _) _
  have hr4 := own_below h hb4 (Nat.le_refl _)
  have hrd : Rd (w.alloc (.cells #[.int .i64 x] 3)) (w.heap.size + 1) (some ⟨w.heap.size, 0, none⟩) (intsV [x]) := Rd.new w #[.int .i64 x] 3 (0, 0)
  obtain ⟨v5, w5, hrun, g1, g2, g3⟩ := run_appR (P := Try.prog) _ lo 63 63 3 i _ 1 8 Try.underlying63 hi hz0 hz1 hz2 rfl (by omega) u.val u.l.length (intsV u.l) hr4 (w.heap.size + 1) (some ⟨w.heap.size, 0, none⟩) 1 1 (intsV [x]) rfl hrd (intsV_one _) (by omega) (by omega) (Nat.le_trans hb hb4.size)
  have e1 : intsV u.l ++ intsV [x] = intsV (u.l ++ [x]) := (List.map_append).symm
  rw [e1] at g1
  rw [alloc1_size] at g3
  obtain ⟨A, c, rfl, _, _, _⟩ := own_shape g1
  refine ⟨⟨A, u.l ++ [x], c⟩, w5, ?_, rfl, ?_, fr_grown g2, ?_⟩
  · rw [List.length_append]
    exact hrun
  · unfold OwnI TV.val
    rw [List.length_append]
    exact g1
  · rcases g3 with g3 | g3
    · exact .inl (by unfold TV.val; rw [List.length_append]; exact g3)
    · exact .inr (by unfold TV.val; rw [List.length_append]; exact g3)
theorem LV.Ok.cell' {w : World} {x : LV} (h : x.Ok w) {k : Nat} (hk : k < x.ts.length) : ∃ b o, x.A = some ⟨b, o, none⟩ ∧ b < w.heap.size ∧ w.cell? ⟨b, o + k, none⟩ = some (.slice x.ts[k].A x.ts[k].l.length x.ts[k].c) := Lst.cell h hk
/-- Where outputsOf is: the tuples that are done, the one under way. -/
structure OuAt (lo : Nat) (wr : World) (g n : Nat) (us : List TV) (cu : TV) : Prop where
  lt : us.length < n
  row : wr.ownsRow lo 63 1 (.slice (some ⟨g, 0, none⟩) n n) n (vals us ++ cu.val :: List.replicate (n - us.length - 1) nilV)
  tup : ∀ u ∈ us, OwnI wr lo u
  own : OwnI wr lo cu
  off : ∀ u ∈ us, ∀ q ∈ u.val.ownBlock.toList, q ∉ cu.val.ownBlock.toList
theorem OuAt.cell {lo : Nat} {wr : World} {g n : Nat} {us : List TV} {cu : TV} (h : OuAt lo wr g n us cu) : wr.cell? ⟨g, us.length, none⟩ = some (.slice cu.A cu.l.length cu.c) ∧ wr.frozen? ⟨g, us.length, none⟩ = false := by
  refine ⟨?_, World.ownsRow.frozenAt h.row us.length⟩
  rw [World.ownsRow.cellAt h.row us.length (by rw [Nat.mul_one]; exact h.lt), List.getElem?_append_right (by rw [vals_len]; exact Nat.le_refl _), vals_len, Nat.sub_self]
  rfl
theorem OuAt.kept {lo : Nat} {wr w' : World} {g n : Nat} {us : List TV} {cu : TV} (h : OuAt lo wr g n us cu) (hb : Below wr.heap.size wr w') : OuAt lo w' g n us cu :=
  ⟨h.lt, own_below h.row hb (Nat.le_refl _), fun u hu => (h.tup u hu).below hb, h.own.below hb, h.off⟩
/-- One number more. -/
theorem OuAt.push {lo : Nat} {wr : World} {g n : Nat} {us : List TV} {cu : TV} (h : OuAt lo wr g n us cu) (hlo : lo ≤ wr.heap.size) (hl : cu.l.length ≤ 900) (x : Int) :
    ∃ u' : TV, ∃ w', (Builtin.append_ #[63, 63] 63 #[.slice cu.A cu.l.length cu.c, .slice (some ⟨wr.heap.size, 0, none⟩) 1 1]).run Try.prog (wr.alloc (.cells #[.int .i64 x] 3)) = .ok (.slice u'.A u'.l.length u'.c) w' ∧ u'.l = cu.l ++ [x] ∧ w'.cell? ⟨g, us.length, none⟩ = some (.slice cu.A cu.l.length cu.c) ∧ w'.frozen? ⟨g, us.length, none⟩ = false ∧
      OuAt lo (w'.setCell ⟨g, us.length, none⟩ (.slice u'.A u'.l.length u'.c)) g n us u' ∧ Below lo wr (w'.setCell ⟨g, us.length, none⟩ (.slice u'.A u'.l.length u'.c)) ∧ Below lo wr w' := by
  obtain ⟨u', w', hrun, hul, ho, hf, hbk⟩ := run_app1F wr lo cu x h.own hlo hl
  have hb4 : Below wr.heap.size wr (wr.alloc (.cells #[.int .i64 x] 3)) := (Below.refl _ _).alloc (Nat.le_refl _) _
  have h4 := h.kept hb4
  have hrw := rowFrS h4.row hf (own_apart h4.row h4.own (by decide))
  have htw : ∀ u ∈ us, OwnI w' lo u := fun u hu => rowFrS (h4.tup u hu) hf (h4.off u hu)
  have hc : w'.cell? ⟨g, us.length, none⟩ = some (.slice cu.A cu.l.length cu.c) := by
    rw [World.ownsRow.cellAt hrw us.length (by rw [Nat.mul_one]; exact h.lt), List.getElem?_append_right (by rw [vals_len]; exact Nat.le_refl _), vals_len, Nat.sub_self]
    rfl
  obtain ⟨hst, hgr⟩ := World.ownsRow.stored hrw us.length u'.val
  have hfr := Fr.of_grown hgr
  have hap : ∀ t : TV, OwnI w' lo t → ∀ s ∈ t.val.ownBlock.toList, s ∉ [g] := fun t ht s hs hm => by
    have := own_apart ht hrw (by decide) s hs
    exact this (by simp [Value.ownBlock] at hm ⊢; exact hm)
  refine ⟨u', w', hrun, hul, hc, World.ownsRow.frozenAt hrw us.length, ⟨h.lt, ?_, fun u hu => rowFrS (htw u hu) hfr (hap u (htw u hu)), rowFrS ho hfr (hap u' ho), fun u hu q hq hm => ?_⟩, ?_⟩
  · have e : (vals us ++ cu.val :: List.replicate (n - us.length - 1) nilV).set us.length u'.val = vals us ++ u'.val :: List.replicate (n - us.length - 1) nilV := by
      rw [List.set_append, if_neg (by rw [vals_len]; omega), vals_len, Nat.sub_self, List.set_cons_zero]
    rw [← e]
    exact hst
  · rcases hbk with e | e
    · rw [e] at hm
      exact h.off u hu q hq hm
    · rw [e] at hm
      have h5 := own_lt' (h.tup u hu) q hq
      simp at hm
      omega
  · have h1 : Below lo (wr.alloc (.cells #[.int .i64 x] 3)) w' := hf.below (Nat.le_trans hlo hb4.size) (own_ge h4.own)
    have h2 := (World.ownsRow.lt hrw g rfl).1
    exact ⟨((lower' hb4 hlo).trans h1).setCell h2 _, (lower' hb4 hlo).trans h1⟩
/-- Tuples that are done, and room for the others. -/
def OuRow (lo : Nat) (wr : World) (g n : Nat) (us : List TV) : Prop := wr.ownsRow lo 63 1 (.slice (some ⟨g, 0, none⟩) n n) n (vals us ++ List.replicate (n - us.length) nilV) ∧ ∀ u ∈ us, OwnI wr lo u
theorem OuRow.start {lo : Nat} {wr : World} {g n : Nat} {us : List TV} (h : OuRow lo wr g n us) (hl : us.length < n) : OuAt lo wr g n us ⟨none, [], 0⟩ := by
  refine ⟨hl, ?_, h.2, World.ownsRow_nil _ _ _ _, fun u hu q hq hm => by simp [TV.val, Value.ownBlock] at hm⟩
  have e : n - us.length = (n - us.length - 1) + 1 := by omega
  have h1 := h.1
  rw [e, List.replicate_succ] at h1
  exact h1
theorem OuAt.done {lo : Nat} {wr : World} {g n : Nat} {us : List TV} {cu : TV} (h : OuAt lo wr g n us cu) : OuRow lo wr g n (us ++ [cu]) := by
  refine ⟨?_, fun u hu => ?_⟩
  · rw [vals_app, List.append_assoc, List.length_append]
    exact h.row
  · rcases List.mem_append.1 hu with hu | hu
    · exact h.tup u hu
    · rw [List.mem_singleton.1 hu]; exact h.own
theorem OuRow.made (w : World) (n : Nat) (hn : n ≤ 20000) : OuRow w.heap.size (w.alloc (.cells (Array.replicate n nilV) 63)) w.heap.size n [] := by
  refine ⟨?_, fun _ h => nomatch h⟩
  have := World.ownsRow_lit (base := w.heap.size) (size := 1) (e := 63) w (Array.replicate n nilV) n (Nat.le_refl _) (by simp [maxLen]; omega) (by simp)
  simpa [vals] using this
theorem OuRow.kept {lo : Nat} {wr w' : World} {g n : Nat} {us : List TV} (h : OuRow lo wr g n us) (hb : Below wr.heap.size wr w') : OuRow lo w' g n us := ⟨own_below h.1 hb (Nat.le_refl _), fun u hu => (h.2 u hu).below hb⟩
theorem index_at {l : List Nm} {s : Nm} (h : s ∈ l) : indexL l s = (l.idxOf s : Int) := if_pos h
end Go.Proofs.Ytgjjdmkoamjdpaa
/- JoZ, what this seat can fill of it. -/
namespace Go.Proofs.Ytgjjdmkoamjdpaa
/- join.Result. -/
open Go.RowKit Go.Maps

/-- How many of the tuples are each of a set. -/
def cnt (R all : List Tu) : List Int := R.map fun t => ((all.filter fun u => decide (u = t)).length : Int)
theorem cnt_len (R all : List Tu) : (cnt R all).length = R.length := List.length_map _
theorem cnt_nil (R : List Tu) : cnt R [] = List.replicate R.length 0 := by
  unfold cnt
  rw [List.eq_replicate_iff]
  exact ⟨List.length_map _, fun x hx => by obtain ⟨t, _, rfl⟩ := List.mem_map.1 hx; rfl⟩
theorem cnt_at {R all : List Tu} {p : Nat} (h : p < R.length) : (cnt R all)[p]'(by rw [cnt_len]; exact h) = ((all.filter fun u => decide (u = R[p])).length : Int) := by simp [cnt]
theorem cnt_snoc {R all : List Tu} {t : Tu} {p : Nat} (hn : R.Nodup) (h : p < R.length) (ht : R[p] = t) : cnt R (all ++ [t]) = (cnt R all).set p ((cnt R all)[p]'(by rw [cnt_len]; exact h) + 1) := by
  apply List.ext_getElem
  · rw [cnt_len, List.length_set, cnt_len]
  · intro j h1 h2
    rw [cnt_len] at h1
    rw [List.getElem_set, cnt_at h1]
    by_cases e : p = j
    · subst e
      rw [if_pos rfl, cnt_at h, List.filter_append, ht]
      simp
    · rw [if_neg e, cnt_at h1, List.filter_append]
      have : decide (t = R[j]) = false := decide_eq_false fun h3 => e ((List.getElem_inj hn).1 (ht.trans h3))
      simp [this]
theorem cnt_le (R all : List Tu) : ∀ x ∈ cnt R all, 0 ≤ x ∧ x ≤ all.length := by
  intro x hx
  obtain ⟨t, _, rfl⟩ := List.mem_map.1 hx
  have := List.length_filter_le (fun u => decide (u = t)) all
  omega
def outsOf (v : Vw) (es : List Ed) : List Tu := (rowsR v es).map (outL (varsL v.atoms) v.out)
def resR (v : Vw) (es : List Ed) : List Tu := if rowsC v es = 0 then setL (outsOf v es) else []
def resN (v : Vw) (es : List Ed) : List Int := if rowsC v es = 0 then countsL (outsOf v es) else []
theorem countsL_eq (all : List Tu) : countsL all = cnt (setL all) all := rfl
/-- What Result answers. -/
def RePost (w : World) (code : Int) (R : List Tu) (C : List Int) (e : Ending) (w' : World) : Prop := ∃ (y : LV) (n : TV), e = .returned (.tuple #[.slice y.A y.ts.length y.c, .slice n.A n.l.length n.c, .int .i64 code]) ∧ OwnL w' w.heap.size y.val y.ts ∧ y.Ok w' ∧ tus y.ts = R ∧ OwnI w' w.heap.size n ∧ n.Ok w' ∧ n.l = C ∧ Below w.heap.size w w'
theorem madeI (n : Nat) : madeCells #[.int .i64 0] n = (intsV (List.replicate n 0)).toArray := by
  apply Array.toList_inj.1
  rw [toList_madeCells_one, List.toList_toArray]
  simp [intsV, List.map_replicate]
theorem makeI (n : Nat) (hn : n ≤ 20000) (w : World) : (Instr.makeSlice 25 (.int .i64 (n : Int)) (.int .i64 (n : Int))).run Try.prog w = .ok (.slice (some ⟨w.heap.size, 0, none⟩) n n) (w.alloc (.cells (intsV (List.replicate n 0)).toArray 3)) := by
  have h := run_make_row' (P := Try.prog) 25 3 (.int .i64 0) 8 Try.underlying25 infoInt rfl .i64 .i64 n (by omega) (by omega) w
  rw [madeI] at h
  exact h
theorem rows_good {v : Vw} {es : List Ed} (h : rowsC v es = 0) : goodP v = true := by
  unfold rowsC at h
  by_cases hg : goodP v = true
  · exact hg
  · rw [if_neg hg] at h; omega
theorem rowsR_lens {v : Vw} {es : List Ed} : ∀ r ∈ rowsR v es, r.length = (varsL v.atoms).length := by
  intro r hr
  unfold rowsR at hr
  split at hr
  · split at hr
    · rename_i hl
      rw [mem_set] at hr
      have h1 := lowP_iff.2 hl
      unfold rowsOfL at hr
      rw [rowsN_low _ _ h1] at hr
      exact (mem_rows.1 hr).1
    · cases hr
  · cases hr
theorem rowsC_rng (v : Vw) (es : List Ed) : rowsC v es = 0 ∨ rowsC v es = 1 ∨ rowsC v es = 5 := by
  unfold rowsC
  split
  · split <;> simp
  · simp
/-- Where Result counts. -/
structure CnAt (lo : Nat) (wr : World) (g : Nat) (C : List Int) : Prop where
  row : OwnI wr lo ⟨some ⟨g, 0, none⟩, C, C.length⟩
theorem CnAt.step {lo : Nat} {wr : World} {g : Nat} {C : List Int} (h : CnAt lo wr g C) {p : Nat} (hp : p < C.length) (v : Int) :
    wr.cell? ⟨g, p, none⟩ = some (.int .i64 C[p]) ∧ wr.frozen? ⟨g, p, none⟩ = false ∧ CnAt lo (wr.setCell ⟨g, p, none⟩ (.int .i64 v)) g (C.set p v) ∧ Below lo wr (wr.setCell ⟨g, p, none⟩ (.int .i64 v)) := by
  have h0 := h.row
  unfold OwnI TV.val at h0
  dsimp only at h0
  obtain ⟨hst, hgr⟩ := World.ownsRow.stored h0 p (.int .i64 v)
  have hlo := (World.ownsRow.lt h0 g rfl).1
  refine ⟨?_, World.ownsRow.frozenAt h0 p, ⟨?_⟩, (Below.refl lo wr).setCell hlo _⟩
  · rw [World.ownsRow.cellAt h0 p (by rw [Nat.mul_one]; exact hp), intsV_at C p hp]
  · unfold OwnI TV.val
    dsimp only
    rw [List.length_set]
    have e : (intsV C).set p (.int .i64 v) = intsV (C.set p v) := by unfold intsV; rw [List.map_set]
    rw [← e]
    exact hst
theorem CnAt.made (w : World) (n : Nat) (hn : n ≤ 20000) : CnAt w.heap.size (w.alloc (.cells (intsV (List.replicate n 0)).toArray 3)) w.heap.size (List.replicate n 0) := by
  refine ⟨?_⟩
  unfold OwnI TV.val
  dsimp only
  rw [List.length_replicate]
  have hl : (intsV (List.replicate n 0)).toArray.size = n := by simp [intsV]
  have := World.ownsRow_lit (base := w.heap.size) (size := 1) (e := 3) w (intsV (List.replicate n 0)).toArray n (Nat.le_refl _) (by simp [maxLen]; omega) (by rw [hl]; omega)
  simpa using this
theorem nodup_ris {l : List Tu} (h : Ris l) : l.Nodup := by
  unfold Ris at h
  exact h.imp fun hc e => by rw [e, cmpI_refl] at hc; omega
theorem nodup_set (l : List Tu) : (setL l).Nodup := nodup_ris (ris_set l)
end Go.Proofs.Ytgjjdmkoamjdpaa
