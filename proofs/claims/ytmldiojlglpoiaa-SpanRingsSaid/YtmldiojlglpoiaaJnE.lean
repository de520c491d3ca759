/- Joined: JoO JoP JoQ JoR JoS JoU JoV JoW JoX JoY JoZ. -/
import Derived.Test.YtmldiojlglpoiaaJnD
import Derived.Test.YtmldiojlglpoiaaJoTZ
import Derived.WideKeyEntry
import Derived.Laws.Shifts
import Derived.Test.YtmldiojlglpoiaaOrdM
/- JoO, what this seat can fill of it. -/
namespace Go.Proofs.Ytmldiojlglpoiaa
/- A step's calls: Told, Tells. -/
open Go.RowKit Go.Maps

theorem new3 (w : World) (a b c : Obj) : (((w.alloc a).alloc b).alloc c).heap[w.heap.size + 1 + 1]? = some c ∧ (((w.alloc a).alloc b).alloc c).heap[w.heap.size + 1]? = some b ∧ Below w.heap.size w (((w.alloc a).alloc b).alloc c) := by
  have h1 := heap_alloc_new ((w.alloc a).alloc b) c
  rw [alloc1_size, alloc1_size] at h1
  have h2 := two_new w a b
  refine ⟨h1, (Below.heap_alloc _ _ _ (heap_lt h2.2)).trans h2.2, ?_⟩
  exact (((Below.refl _ _).alloc (Nat.le_refl _) a).alloc (by simp) b).alloc (by simp; omega) c
end Go.Proofs.Ytmldiojlglpoiaa
/- JoP, what this seat can fill of it. -/
namespace Go.Proofs.Ytmldiojlglpoiaa
/- A step's With. -/
open Go.RowKit Go.Maps

/-- What a call answers that makes a tuple of its own. -/
def TuPost (w : World) (l : Tu) (e : Ending) (w' : World) : Prop := ∃ u : TV, e = .returned (.slice u.A u.l.length u.c) ∧ OwnI w' w.heap.size u ∧ u.l = l ∧ Below w.heap.size w w'
theorem isNil_any (w : World) (n c : Nat) : (binOp BinOp.eql 32 (.slice none n c) (.slice none 0 0)).run Try.prog w = .ok (.bool true) w := Lib.run_eql_slice_nil w _ _ none n c 0 0 Try.underlying32
theorem notNil_any (w : World) (p : Addr) (n c : Nat) : (binOp BinOp.eql 32 (.slice (some p) n c) (.slice none 0 0)).run Try.prog w = .ok (.bool false) w := Lib.run_eql_slice_nil w _ _ (some p) n c 0 0 Try.underlying32
/-- append of one number to a tuple of the call's own. -/
theorem run_app1I (w : World) (lo : Nat) (u : TV) (x : Int) (h : OwnI w lo u) (hb : lo ≤ w.heap.size) (hl : u.l.length ≤ 900) :
    ∃ u' : TV, ∃ w', (Builtin.append_ #[32, 32] 32 #[.slice u.A u.l.length u.c, .slice (some ⟨w.heap.size, 0, none⟩) 1 1]).run Try.prog (w.alloc (.cells #[.int .i64 x] 3)) = .ok (.slice u'.A u'.l.length u'.c) w' ∧ u'.l = u.l ++ [x] ∧ OwnI w' lo u' ∧ Below lo w w' := by
  obtain ⟨i, hi, hz0, hz1, hz2⟩ := info_parts infoInt
  have hb4 : Below w.heap.size w (w.alloc (.cells #[.int .i64 x] 3)) := (Below.refl _ _).alloc (Nat.le_refl _) _
  have hr4 := own_below h hb4 (Nat.le_refl _)
  have hrd : Rd (w.alloc (.cells #[.int .i64 x] 3)) (w.heap.size + 1) (some ⟨w.heap.size, 0, none⟩) (intsV [x]) := Rd.new w #[.int .i64 x] 3 (0, 0)
  obtain ⟨v5, w5, hrun, g1, g2, g3⟩ := run_appR (P := Try.prog) _ lo 32 32 3 i _ 1 8 Try.underlying32 hi hz0 hz1 hz2 rfl (by omega) u.val u.l.length (intsV u.l) hr4 (w.heap.size + 1) (some ⟨w.heap.size, 0, none⟩) 1 1 (intsV [x]) rfl hrd (intsV_one _) (by omega) (by omega) (Nat.le_trans hb hb4.size)
  have e1 : intsV u.l ++ intsV [x] = intsV (u.l ++ [x]) := (List.map_append).symm
  rw [e1] at g1
  obtain ⟨A, c, rfl, _, _, _⟩ := own_shape g1
  refine ⟨⟨A, u.l ++ [x], c⟩, w5, ?_, rfl, ?_, (lower' hb4 hb).trans (grown_below' g2 (fun z hz => (World.ownsRow.lt hr4 z hz).1) (Nat.le_trans hb hb4.size))⟩
  · rw [List.length_append]
    exact hrun
  · unfold OwnI TV.val
    rw [List.length_append]
    exact g1
theorem push_yes {row : Tu} {p : Nat} {x : Int} (h : p = row.length) : push1 row p x = row ++ [x] := if_pos h
theorem push_no {row : Tu} {p : Nat} {x : Int} (h : ¬ p = row.length) : push1 row p x = row := if_neg h
end Go.Proofs.Ytmldiojlglpoiaa
/- JoQ, what this seat can fill of it. -/
namespace Go.Proofs.Ytmldiojlglpoiaa
/- An entry of a map, taken and stored: m[k] = append(m[k], ..); groups of ends in a map. -/
open Go.RowKit Go.Maps Go.WideElems
open Go.ChangeMaps (heap_setBlock_same)

theorem MapV.move {w w' : World} {k : TypeId} {b n : Nat} {g : Value → Option Value} (h : MapV w k b n g) (e : w'.heap[b]? = w.heap[b]?) : MapV w' k b n g := by
  obtain ⟨D, ⟨es, clock, hb, r⟩, hg⟩ := h
  exact ⟨D, ⟨es, clock, e.trans hb, r⟩, hg⟩
set_option maxRecDepth 100000 in
/-- m[key] as an entry: what it holds; and what is stored there later. -/
theorem MapV.entry {w : World} {k e t : TypeId} {b n : Nat} {g : Value → Option Value} {key z : Value} {kl : Lit} (h : MapV w k b n g) (K : WideMaps.KeyLaw Try.prog k) (ht : Try.prog.underlying t = some (.map k e)) (hz : ∀ u : World, (zeroValue e).run Try.prog u = .ok z u) (hk : keyOf Try.prog k key = some kl) (hn : n < maxLen) :
    ∃ (st : Nat) (w1 : World), (Instr.mapEntry t (.map (some b)) key).run Try.prog w = .ok (.tuple #[(g key).getD z, .int .i64 (st : Int)]) w1 ∧ Fr w w1 [b] ∧ b < w1.heap.size ∧
      ∀ (val : Value) (w2 : World) (g' : Value → Option Value), w2.heap[b]? = w1.heap[b]? → g' key = some val → (∀ q, q ≠ key → g' q = g q) → ∃ w3, (Instr.entryStore t (.map (some b)) (.int .i64 (st : Int)) val).run Try.prog w2 = .ok () w3 ∧ MapV w3 k b (n + 1) g' ∧ Fr w2 w3 [b] := by
  have hV := h
  obtain ⟨D, ⟨es, clock, hb, F, hs, hD⟩, hg⟩ := h
  obtain ⟨v0, st, es1, clock1, h1, h2, h3⟩ := entry_then_store K ht hz hb F hk
  have hv0 : v0 = (g key).getD z := by
    have hat := Go.WideShapes.atKey_sorted (es.toList.map (rg Try.prog k rawR)) (Maps.fit_rising (Keyed.of_law K) F) kl ((Keyed.of_law K).key hk)
    have hgk := (hg key kl hk).2 z
    rw [hD] at hgk
    rcases h2 with ⟨e0, hm0, hk0, rfl⟩ | ⟨hno, rfl⟩
    · obtain ⟨y0, hy0⟩ := F.reads e0 hm0
      obtain ⟨zv, hzv, hd⟩ := rd_val hy0
      have m0 := rd_key hy0
      rw [hk0, hk] at m0
      have := hat.2 (rg Try.prog k rawR e0) (List.mem_map.2 ⟨e0, hm0, rfl⟩) (by rw [rg_of hy0]; exact (Option.some.inj m0).symm) (.held z)
      rw [this, rg_of hy0, hd] at hgk
      unfold rawR at hzv
      rw [← Option.some.inj hzv] at hgk
      exact DataW.held.inj hgk
    · have := hat.1 (fun p hp e1 => by
        obtain ⟨x, hx, rfl⟩ := List.mem_map.1 hp
        obtain ⟨y, hy⟩ := F.reads x hx
        have m1 := rd_key hy
        rw [rg_of hy] at e1
        rw [e1] at m1
        exact hno x hx (K.inj m1 hk)) (.held v0)
      rw [this] at hgk
      exact DataW.held.inj hgk
  rw [← hv0]
  refine ⟨st, _, h1, Fr.of_grown (World.mapTurned.grown ⟨es, clock, es1, clock1, hb, rfl⟩), heap_lt (heap_setBlock_same hb _), fun val w2 g' hw2 hg1 hg2 => ?_⟩
  rw [heap_setBlock_same hb] at hw2
  obtain ⟨es', clock', k1, k2⟩ := h3 w2 val hw2
  obtain ⟨w', m1, m2, _⟩ := hV.store (Keyed.of_law K) ht hn hk val g' hg1 hg2
  rw [k2] at m1
  injection m1 with _ m1
  subst m1
  exact ⟨_, k1, m2.move ((heap_setBlock_same hw2 _).trans (heap_setBlock_same hb _).symm), Fr.of_grown (World.mapTurned.grown ⟨_, _, es', clock', hw2, rfl⟩)⟩
end Go.Proofs.Ytmldiojlglpoiaa
/- JoR, what this seat can fill of it. -/
namespace Go.Proofs.Ytmldiojlglpoiaa
/- Groups of ends in a map: by what a row tells of them. -/
open Go.RowKit Go.Maps

def nilE : Value := .slice none 0 0
def grp (s : Stp) (F : List (Int × Int)) (key : Int × Int) : List (Int × Int) := F.filter fun e => decide (toldS s e = key)
theorem grp_same (s : Stp) (F : List (Int × Int)) (e : Int × Int) : grp s (F ++ [e]) (toldS s e) = grp s F (toldS s e) ++ [e] := by
  unfold grp
  rw [List.filter_append]
  simp
theorem grp_other {s : Stp} {F : List (Int × Int)} {e key : Int × Int} (h : key ≠ toldS s e) : grp s (F ++ [e]) key = grp s F key := by
  unfold grp
  rw [List.filter_append]
  have : decide (toldS s e = key) = false := decide_eq_false (fun h2 => h h2.symm)
  simp [this]
theorem grp_len (s : Stp) (F : List (Int × Int)) (key : Int × Int) : (grp s F key).length ≤ F.length := List.length_filter_le _ _
/-- Below lo all but block b stays. -/
structure Keep (lo b : Nat) (w w' : World) : Prop where
  os : w'.os = w.os
  tape : w'.tape = w.tape
  output : w'.output = w.output
  size : w.heap.size ≤ w'.heap.size
  block : ∀ q, q < lo → q ≠ b → w'.heap[q]? = w.heap[q]?
theorem Keep.refl (lo b : Nat) (w : World) : Keep lo b w w := ⟨rfl, rfl, rfl, Nat.le_refl _, fun _ _ _ => rfl⟩
theorem Keep.trans {lo b : Nat} {x y z : World} (h : Keep lo b x y) (k : Keep lo b y z) : Keep lo b x z :=
  ⟨k.os.trans h.os, k.tape.trans h.tape, k.output.trans h.output, Nat.le_trans h.size k.size, fun q h1 h2 => (k.block q h1 h2).trans (h.block q h1 h2)⟩
theorem Keep.of_below {lo b B : Nat} {x y : World} (h : Below B x y) (hB : lo ≤ B) : Keep lo b x y := ⟨h.os, h.tape, h.output, h.size, fun q h1 _ => h.block q (Nat.lt_of_lt_of_le h1 hB)⟩
theorem Keep.of_fr {lo b : Nat} {x y : World} {S : List Nat} (h : Fr x y S) (hlo : lo ≤ x.heap.size) (hS : ∀ q ∈ S, lo ≤ q ∨ q = b) : Keep lo b x y :=
  ⟨h.os, h.tape, h.output, h.size, fun q h1 h2 => h.block q (Nat.lt_of_lt_of_le h1 hlo) (fun hm => by rcases hS q hm with h | h <;> omega)⟩
theorem Keep.below {lo b B : Nat} {x y : World} (h : Keep lo b x y) (h1 : B ≤ lo) (h2 : B ≤ b) : Below B x y := ⟨h.os, h.tape, h.output, h.size, fun q hq => h.block q (by omega) (by omega)⟩
/-- Ends that lie below lo, not in block b. -/
theorem Ens.keep {w w' : World} {lo b : Nat} {A : Option Addr} {c : Nat} {l : List (Int × Int)} (h : Ens w A c l) (hlo : w.heap.size ≤ lo) (hb : ∃ es clock, w.heap[b]? = some (.map es clock)) (hk : Keep lo b w w') : Ens w' A c l := by
  refine ⟨fun hn => ?_, h.cap⟩
  obtain ⟨q, o, e, hq, hc⟩ := h.rd hn
  have hqb : q ≠ b := by
    rintro rfl
    obtain ⟨es, clock, hm⟩ := hb
    obtain ⟨x, r, hxr⟩ := List.exists_cons_of_ne_nil hn
    have := hc 0 x (by rw [hxr]; rfl)
    simp [World.cell?, hm] at this
  exact ⟨q, o, e, Nat.lt_of_lt_of_le hq hk.size, fun j u hu => (World.cell?_of_block (hk.block q (by omega) hqb)).trans (hc j u hu)⟩
theorem MapV.isMap {w : World} {k : TypeId} {b n : Nat} {g : Value → Option Value} (h : MapV w k b n g) : ∃ es clock, w.heap[b]? = some (.map es clock) := by
  obtain ⟨D, ⟨es, clock, hb, _⟩, _⟩ := h
  exact ⟨es, clock, hb⟩
end Go.Proofs.Ytmldiojlglpoiaa
/- JoS, what this seat can fill of it. -/
namespace Go.Proofs.Ytmldiojlglpoiaa
/- join.with: the rows of one atom more. -/
open Go.RowKit Go.Maps

/-- Rows that the call has made. -/
structure RowsAt (wr : World) (lo : Nat) (v : Value) (us : List TV) : Prop where
  row : OwnT wr lo v us
  tup : ∀ u ∈ us, OwnI wr lo u ∧ u.l.length ≤ 100
theorem RowsAt.nil (w : World) (lo : Nat) : RowsAt w lo (.slice none 0 0) [] := ⟨World.ownsRow_nil _ _ _ _, fun _ h => nomatch h⟩
theorem RowsAt.kept {w w' : World} {lo : Nat} {v : Value} {us : List TV} (h : RowsAt w lo v us) (hb : Below w.heap.size w w') : RowsAt w' lo v us :=
  ⟨OwnT.below h.row hb, fun u hu => ⟨(h.tup u hu).1.below hb, (h.tup u hu).2⟩⟩
/-- A row more. -/
theorem RowsAt.push {w : World} {lo : Nat} {v : Value} {us : List TV} {u : TV} (h : RowsAt w lo v us) (hu : OwnI w lo u) (hul : u.l.length ≤ 100) (hl : us.length ≤ 5000) (hlo : lo ≤ w.heap.size) :
    ∃ A5 c5 w5, (Builtin.append_ #[24, 24] 24 #[v, .slice (some ⟨w.heap.size, 0, none⟩) 1 1]).run Try.prog (w.alloc (.cells #[.slice u.A u.l.length u.c] 32)) = .ok (.slice A5 (us.length + 1) c5) w5 ∧ RowsAt w5 lo (.slice A5 (us.length + 1) c5) (us ++ [u]) ∧ Below lo w w5 := by
  obtain ⟨i0, hi, hz0, hz1, hz2⟩ := info_parts infoTup
  have hb4 : Below w.heap.size w (w.alloc (.cells #[.slice u.A u.l.length u.c] 32)) := (Below.refl _ _).alloc (Nat.le_refl _) _
  have h4 := h.kept hb4
  have hu4 := hu.below hb4
  have hrd : Rd (w.alloc (.cells #[.slice u.A u.l.length u.c] 32)) (w.heap.size + 1) (some ⟨w.heap.size, 0, none⟩) (vals [u]) := Rd.new w #[.slice u.A u.l.length u.c] 32 (0, 0)
  obtain ⟨v5, w5, hrun, g1, g2, g3⟩ := run_appR (P := Try.prog) _ lo 24 24 32 i0 _ 1 24 Try.underlying24 hi hz0 hz1 hz2 rfl (by omega) v us.length (vals us) h4.row (w.heap.size + 1) (some ⟨w.heap.size, 0, none⟩) 1 1 (vals [u]) rfl hrd (vals_one _) (by omega) (by omega) (Nat.le_trans hlo hb4.size)
  rw [← vals_app] at g1
  obtain ⟨A, c, rfl, _, _, _⟩ := own_shape g1
  have hfr := fr_grown g2
  refine ⟨A, c, w5, hrun, ⟨by unfold OwnT; rw [List.length_append]; exact g1, fun t ht => ?_⟩, (lower' hb4 hlo).trans (hfr.below (Nat.le_trans hlo hb4.size) (own_ge h4.row))⟩
  have hap : ∀ t : TV, OwnI (w.alloc (.cells #[.slice u.A u.l.length u.c] 32)) lo t → ∀ a, t.A = some a → a.block ∉ v.ownBlock.toList := fun t ht a ha hm =>
    own_apart ht h4.row (by decide) a.block (by unfold TV.val; rw [ha]; simp [Value.ownBlock]) hm
  rcases List.mem_append.1 ht with ht | ht
  · exact ⟨(h4.tup t ht).1.fr hfr (hap t (h4.tup t ht).1), (h4.tup t ht).2⟩
  · rw [List.mem_singleton.1 ht]
    exact ⟨hu4.fr hfr (hap u hu4), hul⟩
theorem RowsAt.ok {w : World} {lo : Nat} {A : Option Addr} {n c : Nat} {us : List TV} (h : RowsAt w lo (.slice A n c) us) (hl : us.length ≤ 5000) : n = us.length ∧ LV.Ok w ⟨A, us, c⟩ := by
  obtain ⟨A', c', e, h1, _, h2⟩ := own_shape h.row
  injection e with e1 e2 e3
  subst e1 e2 e3
  exact ⟨rfl, h2, fun t ht => (h.tup t ht).1.ok (by have := (h.tup t ht).2; omega), h1, hl⟩
theorem withL_at {s : Stp} {ahead : List Tu} {es : List Ed} {k : Nat} (h : k < ahead.length) : withL s ahead es = withL s (ahead.take k) es ++ (foundL s es (tellsS s ahead[k])).map (withS s ahead[k]) ++ withL s (ahead.drop (k + 1)) es := by
  unfold withL
  rw [← List.flatMap_singleton (f := fun row => (foundL s es (tellsS s row)).map (withS s row)) ahead[k], ← List.flatMap_append, ← List.flatMap_append]
  congr 1
  rw [List.append_assoc, List.singleton_append, ← List.drop_eq_getElem_cons h, List.take_append_drop]
theorem withL_take {s : Stp} {ahead : List Tu} {es : List Ed} {k : Nat} (h : k < ahead.length) : withL s (ahead.take (k + 1)) es = withL s (ahead.take k) es ++ (foundL s es (tellsS s ahead[k])).map (withS s ahead[k]) := by
  unfold withL
  rw [List.take_succ_eq_append_getElem h, List.flatMap_append, List.flatMap_singleton]
theorem tells_i64 {s : Stp} {row : Tu} (h : ∀ v ∈ row, I64 v) : I64 (tellsS s row).1 ∧ I64 (tellsS s row).2 := by
  have h0 : I64 0 := by unfold I64; omega
  have hg : ∀ i, I64 (row.getD i 0) := fun i => by
    rw [List.getD_eq_getElem?_getD]
    rcases hi : row[i]? with _ | v
    · exact h0
    · exact h v (List.mem_of_getElem? hi)
  unfold tellsS
  constructor
  · dsimp only; split
    · exact hg _
    · exact h0
  · dsimp only; split
    · exact hg _
    · exact h0
theorem told_i64 {s : Stp} {e : Int × Int} (h1 : I64 e.1) (h2 : I64 e.2) : I64 (toldS s e).1 ∧ I64 (toldS s e).2 := by
  have h0 : I64 0 := by unfold I64; omega
  unfold toldS
  constructor
  · dsimp only; split
    · exact h0
    · exact h1
  · dsimp only; split
    · exact h0
    · exact h2
theorem fit_i64 {s : Stp} {es : List Ed} (h : ∀ e ∈ es, e.Ok) : ∀ e ∈ fitL s es, I64 e.1 ∧ I64 e.2 := by
  intro e he
  unfold fitL at he
  obtain ⟨d, hd, rfl⟩ := List.mem_map.1 he
  have := h d (List.mem_filter.1 hd).1
  exact ⟨this.f, this.t⟩
end Go.Proofs.Ytmldiojlglpoiaa
/- JoU, what this seat can fill of it. -/
namespace Go.Proofs.Ytmldiojlglpoiaa
/- join.with: the walk. -/
open Go.RowKit Go.Maps

end Go.Proofs.Ytmldiojlglpoiaa
/- JoV, what this seat can fill of it. -/
namespace Go.Proofs.Ytmldiojlglpoiaa
/- join.rowsOf, join.Rows. -/
open Go.RowKit Go.Maps

theorem with_i64 {s : Stp} {ahead : List Tu} {es : List Ed} (he : ∀ e ∈ es, e.Ok) (ha : ∀ r ∈ ahead, ∀ v ∈ r, I64 v) : ∀ r ∈ withL s ahead es, ∀ v ∈ r, I64 v := by
  intro r hr v hv
  unfold withL at hr
  obtain ⟨q, hq, hr⟩ := List.mem_flatMap.1 hr
  obtain ⟨e, hm, rfl⟩ := List.mem_map.1 hr
  have hi := fit_i64 (s := s) he e (List.mem_filter.1 hm).1
  have hp : ∀ (row : Tu) (p : Nat) (z : Int), v ∈ push1 row p z → v ∈ row ∨ v = z := by
    intro row p z h
    unfold push1 at h
    split at h
    · rcases List.mem_append.1 h with h | h
      · exact .inl h
      · exact .inr (by simpa using h)
    · exact .inl h
  unfold withS at hv
  rcases hp _ _ _ hv with h | h
  · rcases hp _ _ _ h with h | h
    · exact ha q hq v h
    · rw [h]; exact hi.1
  · rw [h]; exact hi.2
/-- Where rowsOf is, behind k steps. -/
structure RoAt (w wr : World) (ats : List Atm) (es : List Ed) (k : Nat) (y : LV) : Prop where
  ok : y.Ok wr
  rows : rowsN (onceL es) ((stepsL ats).drop k) (tus y.ts) = rowsOfL ats es
  kn : ∃ kn, ChainOk kn ((stepsL ats).drop k) ∧ knEnd kn ((stepsL ats).drop k) ≤ 16 ∧ ∀ r ∈ tus y.ts, r.length = kn
  i64 : ∀ r ∈ tus y.ts, ∀ v ∈ r, I64 v
  low : y.ts.length ≤ 3000
  below : Below w.heap.size w wr
theorem stepsC_cell {w : World} {A : Option Addr} {ss : List Stp} (h : Rd w w.heap.size A (stsC ss)) {k : Nat} (hk : k < ss.length) : ∃ b o, A = some ⟨b, o, none⟩ ∧ b < w.heap.size ∧ w.cell? ⟨b, o + k * 4, none⟩ = some (.string ⟨ss[k].lab.toArray⟩) ∧ w.cell? ⟨b, o + k * 4 + 1, none⟩ = some (.int .i64 (ss[k].fr : Int)) ∧ w.cell? ⟨b, o + k * 4 + 2, none⟩ = some (.int .i64 (ss[k].to : Int)) ∧ w.cell? ⟨b, o + k * 4 + 3, none⟩ = some (.int .i64 (ss[k].kn : Int)) := by
  have hne : stsC ss ≠ [] := fun e => by have := stsC_len ss; rw [e] at this; simp at this; omega
  obtain ⟨b, o, e, hb, hc⟩ := h hne
  have hat := fun j hj => flat4_at stC (fun _ => rfl) ss k j hk hj
  refine ⟨b, o, e, hb, hc (k * 4) _ (hat 0 (by omega)), ?_, ?_, ?_⟩
  · rw [Nat.add_assoc]; exact hc (k * 4 + 1) _ (hat 1 (by omega))
  · rw [Nat.add_assoc]; exact hc (k * 4 + 2) _ (hat 2 (by omega))
  · rw [Nat.add_assoc]; exact hc (k * 4 + 3) _ (hat 3 (by omega))
end Go.Proofs.Ytmldiojlglpoiaa
/- JoW, what this seat can fill of it. -/
namespace Go.Proofs.Ytmldiojlglpoiaa
/- join.Rows. -/
open Go.RowKit Go.Maps

/-- The rows' code and list. -/
def rowsC (v : Vw) (es : List Ed) : Int := if goodP v = true then (if (rowsOfL v.atoms es).length ≤ 3000 then 0 else 5) else 1
def rowsR (v : Vw) (es : List Ed) : List Tu := if goodP v = true then (if (rowsOfL v.atoms es).length ≤ 3000 then setL (rowsOfL v.atoms es) else []) else []
theorem rowsR_len (v : Vw) (es : List Ed) : (rowsR v es).length ≤ 3000 := by
  unfold rowsR
  split
  · split
    · have := setL_len (rowsOfL v.atoms es); omega
    · simp
  · simp
/-- What Rows answers. -/
def RoPost (w : World) (code : Int) (R : List Tu) (e : Ending) (w' : World) : Prop := ∃ y : LV, e = .returned (.tuple #[.slice y.A y.ts.length y.c, .int .i64 code]) ∧ OwnL w' w.heap.size y.val y.ts ∧ y.Ok w' ∧ tus y.ts = R ∧ Below w.heap.size w w'
theorem ownL_nil (w : World) (lo : Nat) : OwnL w lo (LV.val ⟨none, [], 0⟩) [] := ⟨World.ownsRow_nil _ _ _ _, fun _ h => (nomatch h), fun _ h => (nomatch h), .nil⟩
theorem okL_nil (w : World) : LV.Ok w ⟨none, [], 0⟩ := ⟨Rd.emp _ _ _, fun _ h => (nomatch h), Nat.le_refl _, by simp⟩
end Go.Proofs.Ytmldiojlglpoiaa
/- JoX, what this seat can fill of it. -/
namespace Go.Proofs.Ytmldiojlglpoiaa
/- slices.BinarySearchFunc of tuples, by tuple.Cmp, for one that is there. -/
open Go.RowKit Go.Maps

end Go.Proofs.Ytmldiojlglpoiaa
/- JoY, what this seat can fill of it. -/
namespace Go.Proofs.Ytmldiojlglpoiaa
/- join.outputsOf. -/
open Go.RowKit Go.Maps

/-- append of one number to a tuple of the call's own: what else stays. -/
theorem run_app1F (w : World) (lo : Nat) (u : TV) (x : Int) (h : OwnI w lo u) (hb : lo ≤ w.heap.size) (hl : u.l.length ≤ 900) :
    ∃ u' : TV, ∃ w', (Builtin.append_ #[32, 32] 32 #[.slice u.A u.l.length u.c, .slice (some ⟨w.heap.size, 0, none⟩) 1 1]).run Try.prog (w.alloc (.cells #[.int .i64 x] 3)) = .ok (.slice u'.A u'.l.length u'.c) w' ∧ u'.l = u.l ++ [x] ∧ OwnI w' lo u' ∧ Fr (w.alloc (.cells #[.int .i64 x] 3)) w' u.val.ownBlock.toList ∧ (u'.val.ownBlock = u.val.ownBlock ∨ u'.val.ownBlock = some (w.heap.size + 1)) := by
  obtain ⟨i, hi, hz0, hz1, hz2⟩ := info_parts infoInt
  have hb4 : Below w.heap.size w (w.alloc (.cells #[.int .i64 x] 3)) := (Below.refl _ _).alloc (Nat.le_refl _) _
  have hr4 := own_below h hb4 (Nat.le_refl _)
  have hrd : Rd (w.alloc (.cells #[.int .i64 x] 3)) (w.heap.size + 1) (some ⟨w.heap.size, 0, none⟩) (intsV [x]) := Rd.new w #[.int .i64 x] 3 (0, 0)
  obtain ⟨v5, w5, hrun, g1, g2, g3⟩ := run_appR (P := Try.prog) _ lo 32 32 3 i _ 1 8 Try.underlying32 hi hz0 hz1 hz2 rfl (by omega) u.val u.l.length (intsV u.l) hr4 (w.heap.size + 1) (some ⟨w.heap.size, 0, none⟩) 1 1 (intsV [x]) rfl hrd (intsV_one _) (by omega) (by omega) (Nat.le_trans hb hb4.size)
  have e1 : intsV u.l ++ intsV [x] = intsV (u.l ++ [x]) := (List.map_append).symm
  rw [e1] at g1
  rw [alloc1_size] at g3
  obtain ⟨A, c, rfl, _, _, _⟩ := own_shape g1
  refine ⟨⟨A, u.l ++ [x], c⟩, w5, ?_, rfl, ?_, fr_grown g2, ?_⟩
  · rw [List.length_append]
    exact hrun
  · unfold OwnI TV.val
    rw [List.length_append]
    exact g1
  · rcases g3 with g3 | g3
    · exact .inl (by unfold TV.val; rw [List.length_append]; exact g3)
    · exact .inr (by unfold TV.val; rw [List.length_append]; exact g3)
theorem LV.Ok.cell' {w : World} {x : LV} (h : x.Ok w) {k : Nat} (hk : k < x.ts.length) : ∃ b o, x.A = some ⟨b, o, none⟩ ∧ b < w.heap.size ∧ w.cell? ⟨b, o + k, none⟩ = some (.slice x.ts[k].A x.ts[k].l.length x.ts[k].c) := Lst.cell h hk
/-- Where outputsOf is: the tuples that are done, the one under way. -/
structure OuAt (lo : Nat) (wr : World) (g n : Nat) (us : List TV) (cu : TV) : Prop where
  lt : us.length < n
  row : wr.ownsRow lo 32 1 (.slice (some ⟨g, 0, none⟩) n n) n (vals us ++ cu.val :: List.replicate (n - us.length - 1) nilV)
  tup : ∀ u ∈ us, OwnI wr lo u
  own : OwnI wr lo cu
  off : ∀ u ∈ us, ∀ q ∈ u.val.ownBlock.toList, q ∉ cu.val.ownBlock.toList
theorem OuAt.cell {lo : Nat} {wr : World} {g n : Nat} {us : List TV} {cu : TV} (h : OuAt lo wr g n us cu) : wr.cell? ⟨g, us.length, none⟩ = some (.slice cu.A cu.l.length cu.c) ∧ wr.frozen? ⟨g, us.length, none⟩ = false := by
  refine ⟨?_, World.ownsRow.frozenAt h.row us.length⟩
  rw [World.ownsRow.cellAt h.row us.length (by rw [Nat.mul_one]; exact h.lt), List.getElem?_append_right (by rw [vals_len]; exact Nat.le_refl _), vals_len, Nat.sub_self]
  rfl
theorem OuAt.kept {lo : Nat} {wr w' : World} {g n : Nat} {us : List TV} {cu : TV} (h : OuAt lo wr g n us cu) (hb : Below wr.heap.size wr w') : OuAt lo w' g n us cu :=
  ⟨h.lt, own_below h.row hb (Nat.le_refl _), fun u hu => (h.tup u hu).below hb, h.own.below hb, h.off⟩
/-- One number more. -/
theorem OuAt.push {lo : Nat} {wr : World} {g n : Nat} {us : List TV} {cu : TV} (h : OuAt lo wr g n us cu) (hlo : lo ≤ wr.heap.size) (hl : cu.l.length ≤ 900) (x : Int) :
    ∃ u' : TV, ∃ w', (Builtin.append_ #[32, 32] 32 #[.slice cu.A cu.l.length cu.c, .slice (some ⟨wr.heap.size, 0, none⟩) 1 1]).run Try.prog (wr.alloc (.cells #[.int .i64 x] 3)) = .ok (.slice u'.A u'.l.length u'.c) w' ∧ u'.l = cu.l ++ [x] ∧ w'.cell? ⟨g, us.length, none⟩ = some (.slice cu.A cu.l.length cu.c) ∧ w'.frozen? ⟨g, us.length, none⟩ = false ∧
      OuAt lo (w'.setCell ⟨g, us.length, none⟩ (.slice u'.A u'.l.length u'.c)) g n us u' ∧ Below lo wr (w'.setCell ⟨g, us.length, none⟩ (.slice u'.A u'.l.length u'.c)) ∧ Below lo wr w' := by
  obtain ⟨u', w', hrun, hul, ho, hf, hbk⟩ := run_app1F wr lo cu x h.own hlo hl
  have hb4 : Below wr.heap.size wr (wr.alloc (.cells #[.int .i64 x] 3)) := (Below.refl _ _).alloc (Nat.le_refl _) _
  have h4 := h.kept hb4
  have hrw := rowFrS h4.row hf (own_apart h4.row h4.own (by decide))
  have htw : ∀ u ∈ us, OwnI w' lo u := fun u hu => rowFrS (h4.tup u hu) hf (h4.off u hu)
  have hc : w'.cell? ⟨g, us.length, none⟩ = some (.slice cu.A cu.l.length cu.c) := by
    rw [World.ownsRow.cellAt hrw us.length (by rw [Nat.mul_one]; exact h.lt), List.getElem?_append_right (by rw [vals_len]; exact Nat.le_refl _), vals_len, Nat.sub_self]
    rfl
  obtain ⟨hst, hgr⟩ := World.ownsRow.stored hrw us.length u'.val
  have hfr := Fr.of_grown hgr
  have hap : ∀ t : TV, OwnI w' lo t → ∀ s ∈ t.val.ownBlock.toList, s ∉ [g] := fun t ht s hs hm => by
    have := own_apart ht hrw (by decide) s hs
    exact this (by simp [Value.ownBlock] at hm ⊢; exact hm)
  refine ⟨u', w', hrun, hul, hc, World.ownsRow.frozenAt hrw us.length, ⟨h.lt, ?_, fun u hu => rowFrS (htw u hu) hfr (hap u (htw u hu)), rowFrS ho hfr (hap u' ho), fun u hu q hq hm => ?_⟩, ?_⟩
  · have e : (vals us ++ cu.val :: List.replicate (n - us.length - 1) nilV).set us.length u'.val = vals us ++ u'.val :: List.replicate (n - us.length - 1) nilV := by
      rw [List.set_append, if_neg (by rw [vals_len]; omega), vals_len, Nat.sub_self, List.set_cons_zero]
    rw [← e]
    exact hst
  · rcases hbk with e | e
    · rw [e] at hm
      exact h.off u hu q hq hm
    · rw [e] at hm
      have h5 := own_lt' (h.tup u hu) q hq
      simp at hm
      omega
  · have h1 : Below lo (wr.alloc (.cells #[.int .i64 x] 3)) w' := hf.below (Nat.le_trans hlo hb4.size) (own_ge h4.own)
    have h2 := (World.ownsRow.lt hrw g rfl).1
    exact ⟨((lower' hb4 hlo).trans h1).setCell h2 _, (lower' hb4 hlo).trans h1⟩
/-- Tuples that are done, and room for the others. -/
def OuRow (lo : Nat) (wr : World) (g n : Nat) (us : List TV) : Prop := wr.ownsRow lo 32 1 (.slice (some ⟨g, 0, none⟩) n n) n (vals us ++ List.replicate (n - us.length) nilV) ∧ ∀ u ∈ us, OwnI wr lo u
theorem OuRow.start {lo : Nat} {wr : World} {g n : Nat} {us : List TV} (h : OuRow lo wr g n us) (hl : us.length < n) : OuAt lo wr g n us ⟨none, [], 0⟩ := by
  refine ⟨hl, ?_, h.2, World.ownsRow_nil _ _ _ _, fun u hu q hq hm => by simp [TV.val, Value.ownBlock] at hm⟩
  have e : n - us.length = (n - us.length - 1) + 1 := by omega
  have h1 := h.1
  rw [e, List.replicate_succ] at h1
  exact h1
theorem OuAt.done {lo : Nat} {wr : World} {g n : Nat} {us : List TV} {cu : TV} (h : OuAt lo wr g n us cu) : OuRow lo wr g n (us ++ [cu]) := by
  refine ⟨?_, fun u hu => ?_⟩
  · rw [vals_app, List.append_assoc, List.length_append]
    exact h.row
  · rcases List.mem_append.1 hu with hu | hu
    · exact h.tup u hu
    · rw [List.mem_singleton.1 hu]; exact h.own
theorem OuRow.made (w : World) (n : Nat) (hn : n ≤ 20000) : OuRow w.heap.size (w.alloc (.cells (Array.replicate n nilV) 32)) w.heap.size n [] := by
  refine ⟨?_, fun _ h => nomatch h⟩
  have := World.ownsRow_lit (base := w.heap.size) (size := 1) (e := 32) w (Array.replicate n nilV) n (Nat.le_refl _) (by simp [maxLen]; omega) (by simp)
  simpa [vals] using this
theorem OuRow.kept {lo : Nat} {wr w' : World} {g n : Nat} {us : List TV} (h : OuRow lo wr g n us) (hb : Below wr.heap.size wr w') : OuRow lo w' g n us := ⟨own_below h.1 hb (Nat.le_refl _), fun u hu => (h.2 u hu).below hb⟩
theorem index_at {l : List Nm} {s : Nm} (h : s ∈ l) : indexL l s = (l.idxOf s : Int) := if_pos h
end Go.Proofs.Ytmldiojlglpoiaa
/- JoZ, what this seat can fill of it. -/
namespace Go.Proofs.Ytmldiojlglpoiaa
/- join.Result. -/
open Go.RowKit Go.Maps

/-- How many of the tuples are each of a set. -/
def cnt (R all : List Tu) : List Int := R.map fun t => ((all.filter fun u => decide (u = t)).length : Int)
theorem cnt_len (R all : List Tu) : (cnt R all).length = R.length := List.length_map _
theorem cnt_nil (R : List Tu) : cnt R [] = List.replicate R.length 0 := by
  unfold cnt
  rw [List.eq_replicate_iff]
  exact ⟨List.length_map _, fun x hx => by obtain ⟨t, _, rfl⟩ := List.mem_map.1 hx; rfl⟩
theorem cnt_at {R all : List Tu} {p : Nat} (h : p < R.length) : (cnt R all)[p]'(by rw [cnt_len]; exact h) = ((all.filter fun u => decide (u = R[p])).length : Int) := by simp [cnt]
theorem cnt_snoc {R all : List Tu} {t : Tu} {p : Nat} (hn : R.Nodup) (h : p < R.length) (ht : R[p] = t) : cnt R (all ++ [t]) = (cnt R all).set p ((cnt R all)[p]'(by rw [cnt_len]; exact h) + 1) := by
  apply List.ext_getElem
  · rw [cnt_len, List.length_set, cnt_len]
  · intro j h1 h2
    rw [cnt_len] at h1
    rw [List.getElem_set, cnt_at h1]
    by_cases e : p = j
    · subst e
      rw [if_pos rfl, cnt_at h, List.filter_append, ht]
      simp
    · rw [if_neg e, cnt_at h1, List.filter_append]
      have : decide (t = R[j]) = false := decide_eq_false fun h3 => e ((List.getElem_inj hn).1 (ht.trans h3))
      simp [this]
theorem cnt_le (R all : List Tu) : ∀ x ∈ cnt R all, 0 ≤ x ∧ x ≤ all.length := by
  intro x hx
  obtain ⟨t, _, rfl⟩ := List.mem_map.1 hx
  have := List.length_filter_le (fun u => decide (u = t)) all
  omega
def outsOf (v : Vw) (es : List Ed) : List Tu := (rowsR v es).map (outL (varsL v.atoms) v.out)
def resR (v : Vw) (es : List Ed) : List Tu := if rowsC v es = 0 then setL (outsOf v es) else []
def resN (v : Vw) (es : List Ed) : List Int := if rowsC v es = 0 then countsL (outsOf v es) else []
theorem countsL_eq (all : List Tu) : countsL all = cnt (setL all) all := rfl
/-- What Result answers. -/
def RePost (w : World) (code : Int) (R : List Tu) (C : List Int) (e : Ending) (w' : World) : Prop := ∃ (y : LV) (n : TV), e = .returned (.tuple #[.slice y.A y.ts.length y.c, .slice n.A n.l.length n.c, .int .i64 code]) ∧ OwnL w' w.heap.size y.val y.ts ∧ y.Ok w' ∧ tus y.ts = R ∧ OwnI w' w.heap.size n ∧ n.Ok w' ∧ n.l = C ∧ Below w.heap.size w w'
theorem madeI (n : Nat) : madeCells #[.int .i64 0] n = (intsV (List.replicate n 0)).toArray := by
  apply Array.toList_inj.1
  rw [toList_madeCells_one, List.toList_toArray]
  simp [intsV, List.map_replicate]
theorem makeI (n : Nat) (hn : n ≤ 20000) (w : World) : (Instr.makeSlice 31 (.int .i64 (n : Int)) (.int .i64 (n : Int))).run Try.prog w = .ok (.slice (some ⟨w.heap.size, 0, none⟩) n n) (w.alloc (.cells (intsV (List.replicate n 0)).toArray 3)) := by
  have h := run_make_row' (P := Try.prog) 31 3 (.int .i64 0) 8 Try.underlying31 infoInt rfl .i64 .i64 n (by omega) (by omega) w
  rw [madeI] at h
  exact h
theorem rows_good {v : Vw} {es : List Ed} (h : rowsC v es = 0) : goodP v = true := by
  unfold rowsC at h
  by_cases hg : goodP v = true
  · exact hg
  · rw [if_neg hg] at h; omega
theorem rowsR_lens {v : Vw} {es : List Ed} : ∀ r ∈ rowsR v es, r.length = (varsL v.atoms).length := by
  intro r hr
  unfold rowsR at hr
  split at hr
  · split at hr
    · rename_i hl
      rw [mem_set] at hr
      have h1 := lowP_iff.2 hl
      unfold rowsOfL at hr
      rw [rowsN_low _ _ h1] at hr
      exact (mem_rows.1 hr).1
    · cases hr
  · cases hr
theorem rowsC_rng (v : Vw) (es : List Ed) : rowsC v es = 0 ∨ rowsC v es = 1 ∨ rowsC v es = 5 := by
  unfold rowsC
  split
  · split <;> simp
  · simp
/-- Where Result counts. -/
structure CnAt (lo : Nat) (wr : World) (g : Nat) (C : List Int) : Prop where
  row : OwnI wr lo ⟨some ⟨g, 0, none⟩, C, C.length⟩
theorem CnAt.step {lo : Nat} {wr : World} {g : Nat} {C : List Int} (h : CnAt lo wr g C) {p : Nat} (hp : p < C.length) (v : Int) :
    wr.cell? ⟨g, p, none⟩ = some (.int .i64 C[p]) ∧ wr.frozen? ⟨g, p, none⟩ = false ∧ CnAt lo (wr.setCell ⟨g, p, none⟩ (.int .i64 v)) g (C.set p v) ∧ Below lo wr (wr.setCell ⟨g, p, none⟩ (.int .i64 v)) := by
  have h0 := h.row
  unfold OwnI TV.val at h0
  dsimp only at h0
  obtain ⟨hst, hgr⟩ := World.ownsRow.stored h0 p (.int .i64 v)
  have hlo := (World.ownsRow.lt h0 g rfl).1
  refine ⟨?_, World.ownsRow.frozenAt h0 p, ⟨?_⟩, (Below.refl lo wr).setCell hlo _⟩
  · rw [World.ownsRow.cellAt h0 p (by rw [Nat.mul_one]; exact hp), intsV_at C p hp]
  · unfold OwnI TV.val
    dsimp only
    rw [List.length_set]
    have e : (intsV C).set p (.int .i64 v) = intsV (C.set p v) := by unfold intsV; rw [List.map_set]
    rw [← e]
    exact hst
theorem CnAt.made (w : World) (n : Nat) (hn : n ≤ 20000) : CnAt w.heap.size (w.alloc (.cells (intsV (List.replicate n 0)).toArray 3)) w.heap.size (List.replicate n 0) := by
  refine ⟨?_⟩
  unfold OwnI TV.val
  dsimp only
  rw [List.length_replicate]
  have hl : (intsV (List.replicate n 0)).toArray.size = n := by simp [intsV]
  have := World.ownsRow_lit (base := w.heap.size) (size := 1) (e := 3) w (intsV (List.replicate n 0)).toArray n (Nat.le_refl _) (by simp [maxLen]; omega) (by rw [hl]; omega)
  simpa using this
theorem nodup_ris {l : List Tu} (h : Ris l) : l.Nodup := by
  unfold Ris at h
  exact h.imp fun hc e => by rw [e, cmpI_refl] at hc; omega
theorem nodup_set (l : List Tu) : (setL l).Nodup := nodup_ris (ris_set l)
end Go.Proofs.Ytmldiojlglpoiaa
