/- Joined: JoO JoP JoQ JoR JoS. -/
import Derived.Test.YtmldiojlglpoiaaJnD
import Derived.Test.YtmldiojlglpoiaaJoTZ
import Derived.WideKeyEntry
/- JoO, what this seat can fill of it. -/
namespace Go.Proofs.Ytmldiojlglpoiaa
/- A step's calls: Told, Tells. -/
open Go.RowKit Go.Maps

theorem new3 (w : World) (a b c : Obj) : (((w.alloc a).alloc b).alloc c).heap[w.heap.size + 1 + 1]? = some c ∧ (((w.alloc a).alloc b).alloc c).heap[w.heap.size + 1]? = some b ∧ Below w.heap.size w (((w.alloc a).alloc b).alloc c) := by
  have h1 := heap_alloc_new ((w.alloc a).alloc b) c
  rw [alloc1_size, alloc1_size] at h1
  have h2 := two_new w a b
  refine ⟨h1, (Below.heap_alloc _ _ _ (heap_lt h2.2)).trans h2.2, ?_⟩
  exact (((Below.refl _ _).alloc (Nat.le_refl _) a).alloc (by simp) b).alloc (by simp; omega) c
end Go.Proofs.Ytmldiojlglpoiaa
/- JoP, what this seat can fill of it. -/
namespace Go.Proofs.Ytmldiojlglpoiaa
/- A step's With. -/
open Go.RowKit Go.Maps

/-- What a call answers that makes a tuple of its own. -/
def TuPost (w : World) (l : Tu) (e : Ending) (w' : World) : Prop := ∃ u : TV, e = .returned (.slice u.A u.l.length u.c) ∧ OwnI w' w.heap.size u ∧ u.l = l ∧ Below w.heap.size w w'
theorem isNil_any (w : World) (n c : Nat) : (binOp BinOp.eql 32 (.slice none n c) (.slice none 0 0)).run Try.prog w = .ok (.bool true) w := Lib.run_eql_slice_nil w _ _ none n c 0 0 Try.underlying32
theorem notNil_any (w : World) (p : Addr) (n c : Nat) : (binOp BinOp.eql 32 (.slice (some p) n c) (.slice none 0 0)).run Try.prog w = .ok (.bool false) w := Lib.run_eql_slice_nil w _ _ (some p) n c 0 0 Try.underlying32
/-- append of one number to a tuple of the call's own. -/
theorem run_app1I (w : World) (lo : Nat) (u : TV) (x : Int) (h : OwnI w lo u) (hb : lo ≤ w.heap.size) (hl : u.l.length ≤ 900) :
    ∃ u' : TV, ∃ w', (Builtin.append_ #[32, 32] 32 #[.slice u.A u.l.length u.c, .slice (some ⟨w.heap.size, 0, none⟩) 1 1]).run Try.prog (w.alloc (.cells #[.int .i64 x] 3)) = .ok (.slice u'.A u'.l.length u'.c) w' ∧ u'.l = u.l ++ [x] ∧ OwnI w' lo u' ∧ Below lo w w' := by
  obtain ⟨i, hi, hz0, hz1, hz2⟩ := info_parts infoInt
  have hb4 : Below w.heap.size w (w.alloc (.cells #[.int .i64 x] 3)) := (Below.refl _ _).alloc (Nat.le_refl _) _
  have hr4 := own_below h hb4 (Nat.le_refl _)
  have hrd : Rd (w.alloc (.cells #[.int .i64 x] 3)) (w.heap.size + 1) (some ⟨w.heap.size, 0, none⟩) (intsV [x]) := Rd.new w #[.int .i64 x] 3 (0, 0)
  obtain ⟨v5, w5, hrun, g1, g2, g3⟩ := run_appR (P := Try.prog) _ lo 32 32 3 i _ 1 8 Try.underlying32 hi hz0 hz1 hz2 rfl (by omega) u.val u.l.length (intsV u.l) hr4 (w.heap.size + 1) (some ⟨w.heap.size, 0, none⟩) 1 1 (intsV [x]) rfl hrd (intsV_one _) (by omega) (by omega) (Nat.le_trans hb hb4.size)
  have e1 : intsV u.l ++ intsV [x] = intsV (u.l ++ [x]) := (List.map_append).symm
  rw [e1] at g1
  obtain ⟨A, c, rfl, _, _, _⟩ := own_shape g1
  refine ⟨⟨A, u.l ++ [x], c⟩, w5, ?_, rfl, ?_, (lower' hb4 hb).trans (grown_below' g2 (fun z hz => (World.ownsRow.lt hr4 z hz).1) (Nat.le_trans hb hb4.size))⟩
  · rw [List.length_append]
    exact hrun
  · unfold OwnI TV.val
    rw [List.length_append]
    exact g1
theorem push_yes {row : Tu} {p : Nat} {x : Int} (h : p = row.length) : push1 row p x = row ++ [x] := if_pos h
theorem push_no {row : Tu} {p : Nat} {x : Int} (h : ¬ p = row.length) : push1 row p x = row := if_neg h
end Go.Proofs.Ytmldiojlglpoiaa
/- JoQ, what this seat can fill of it. -/
namespace Go.Proofs.Ytmldiojlglpoiaa
/- An entry of a map, taken and stored: m[k] = append(m[k], ..); groups of ends in a map. -/
open Go.RowKit Go.Maps Go.WideElems
open Go.ChangeMaps (heap_setBlock_same)

theorem MapV.move {w w' : World} {k : TypeId} {b n : Nat} {g : Value → Option Value} (h : MapV w k b n g) (e : w'.heap[b]? = w.heap[b]?) : MapV w' k b n g := by
  obtain ⟨D, ⟨es, clock, hb, r⟩, hg⟩ := h
  exact ⟨D, ⟨es, clock, e.trans hb, r⟩, hg⟩
set_option maxRecDepth 100000 in
/-- m[key] as an entry: what it holds; and what is stored there later. -/
theorem MapV.entry {w : World} {k e t : TypeId} {b n : Nat} {g : Value → Option Value} {key z : Value} {kl : Lit} (h : MapV w k b n g) (K : WideMaps.KeyLaw Try.prog k) (ht : Try.prog.underlying t = some (.map k e)) (hz : ∀ u : World, (zeroValue e).run Try.prog u = .ok z u) (hk : keyOf Try.prog k key = some kl) (hn : n < maxLen) :
    ∃ (st : Nat) (w1 : World), (Instr.mapEntry t (.map (some b)) key).run Try.prog w = .ok (.tuple #[(g key).getD z, .int .i64 (st : Int)]) w1 ∧ Fr w w1 [b] ∧ b < w1.heap.size ∧
      ∀ (val : Value) (w2 : World) (g' : Value → Option Value), w2.heap[b]? = w1.heap[b]? → g' key = some val → (∀ q, q ≠ key → g' q = g q) → ∃ w3, (Instr.entryStore t (.map (some b)) (.int .i64 (st : Int)) val).run Try.prog w2 = .ok () w3 ∧ MapV w3 k b (n + 1) g' ∧ Fr w2 w3 [b] := by
  have hV := h
  obtain ⟨D, ⟨es, clock, hb, F, hs, hD⟩, hg⟩ := h
  obtain ⟨v0, st, es1, clock1, h1, h2, h3⟩ := entry_then_store K ht hz hb F hk
  have hv0 : v0 = (g key).getD z := by
    have hat := Go.WideShapes.atKey_sorted (es.toList.map (rg Try.prog k rawR)) (Maps.fit_rising (Keyed.of_law K) F) kl ((Keyed.of_law K).key hk)
    have hgk := (hg key kl hk).2 z
    rw [hD] at hgk
    rcases h2 with ⟨e0, hm0, hk0, rfl⟩ | ⟨hno, rfl⟩
    · obtain ⟨y0, hy0⟩ := F.reads e0 hm0
      obtain ⟨zv, hzv, hd⟩ := rd_val hy0
      have m0 := rd_key hy0
      rw [hk0, hk] at m0
      have := hat.2 (rg Try.prog k rawR e0) (List.mem_map.2 ⟨e0, hm0, rfl⟩) (by rw [rg_of hy0]; exact (Option.some.inj m0).symm) (.held z)
      rw [this, rg_of hy0, hd] at hgk
      unfold rawR at hzv
      rw [← Option.some.inj hzv] at hgk
      exact DataW.held.inj hgk
    · have := hat.1 (fun p hp e1 => by
        obtain ⟨x, hx, rfl⟩ := List.mem_map.1 hp
        obtain ⟨y, hy⟩ := F.reads x hx
        have m1 := rd_key hy
        rw [rg_of hy] at e1
        rw [e1] at m1
        exact hno x hx (K.inj m1 hk)) (.held v0)
      rw [this] at hgk
      exact DataW.held.inj hgk
  rw [← hv0]
  refine ⟨st, _, h1, Fr.of_grown (World.mapTurned.grown ⟨es, clock, es1, clock1, hb, rfl⟩), heap_lt (heap_setBlock_same hb _), fun val w2 g' hw2 hg1 hg2 => ?_⟩
  rw [heap_setBlock_same hb] at hw2
  obtain ⟨es', clock', k1, k2⟩ := h3 w2 val hw2
  obtain ⟨w', m1, m2, _⟩ := hV.store (Keyed.of_law K) ht hn hk val g' hg1 hg2
  rw [k2] at m1
  injection m1 with _ m1
  subst m1
  exact ⟨_, k1, m2.move ((heap_setBlock_same hw2 _).trans (heap_setBlock_same hb _).symm), Fr.of_grown (World.mapTurned.grown ⟨_, _, es', clock', hw2, rfl⟩)⟩
end Go.Proofs.Ytmldiojlglpoiaa
/- JoR, what this seat can fill of it. -/
namespace Go.Proofs.Ytmldiojlglpoiaa
/- Groups of ends in a map: by what a row tells of them. -/
open Go.RowKit Go.Maps

def nilE : Value := .slice none 0 0
def grp (s : Stp) (F : List (Int × Int)) (key : Int × Int) : List (Int × Int) := F.filter fun e => decide (toldS s e = key)
theorem grp_same (s : Stp) (F : List (Int × Int)) (e : Int × Int) : grp s (F ++ [e]) (toldS s e) = grp s F (toldS s e) ++ [e] := by
  unfold grp
  rw [List.filter_append]
  simp
theorem grp_other {s : Stp} {F : List (Int × Int)} {e key : Int × Int} (h : key ≠ toldS s e) : grp s (F ++ [e]) key = grp s F key := by
  unfold grp
  rw [List.filter_append]
  have : decide (toldS s e = key) = false := decide_eq_false (fun h2 => h h2.symm)
  simp [this]
theorem grp_len (s : Stp) (F : List (Int × Int)) (key : Int × Int) : (grp s F key).length ≤ F.length := List.length_filter_le _ _
/-- Below lo all but block b stays. -/
structure Keep (lo b : Nat) (w w' : World) : Prop where
  os : w'.os = w.os
  tape : w'.tape = w.tape
  output : w'.output = w.output
  size : w.heap.size ≤ w'.heap.size
  block : ∀ q, q < lo → q ≠ b → w'.heap[q]? = w.heap[q]?
theorem Keep.refl (lo b : Nat) (w : World) : Keep lo b w w := ⟨rfl, rfl, rfl, Nat.le_refl _, fun _ _ _ => rfl⟩
theorem Keep.trans {lo b : Nat} {x y z : World} (h : Keep lo b x y) (k : Keep lo b y z) : Keep lo b x z :=
  ⟨k.os.trans h.os, k.tape.trans h.tape, k.output.trans h.output, Nat.le_trans h.size k.size, fun q h1 h2 => (k.block q h1 h2).trans (h.block q h1 h2)⟩
theorem Keep.of_below {lo b B : Nat} {x y : World} (h : Below B x y) (hB : lo ≤ B) : Keep lo b x y := ⟨h.os, h.tape, h.output, h.size, fun q h1 _ => h.block q (Nat.lt_of_lt_of_le h1 hB)⟩
theorem Keep.of_fr {lo b : Nat} {x y : World} {S : List Nat} (h : Fr x y S) (hlo : lo ≤ x.heap.size) (hS : ∀ q ∈ S, lo ≤ q ∨ q = b) : Keep lo b x y :=
  ⟨h.os, h.tape, h.output, h.size, fun q h1 h2 => h.block q (Nat.lt_of_lt_of_le h1 hlo) (fun hm => by rcases hS q hm with h | h <;> omega)⟩
theorem Keep.below {lo b B : Nat} {x y : World} (h : Keep lo b x y) (h1 : B ≤ lo) (h2 : B ≤ b) : Below B x y := ⟨h.os, h.tape, h.output, h.size, fun q hq => h.block q (by omega) (by omega)⟩
/-- Ends that lie below lo, not in block b. -/
theorem Ens.keep {w w' : World} {lo b : Nat} {A : Option Addr} {c : Nat} {l : List (Int × Int)} (h : Ens w A c l) (hlo : w.heap.size ≤ lo) (hb : ∃ es clock, w.heap[b]? = some (.map es clock)) (hk : Keep lo b w w') : Ens w' A c l := by
  refine ⟨fun hn => ?_, h.cap⟩
  obtain ⟨q, o, e, hq, hc⟩ := h.rd hn
  have hqb : q ≠ b := by
    rintro rfl
    obtain ⟨es, clock, hm⟩ := hb
    obtain ⟨x, r, hxr⟩ := List.exists_cons_of_ne_nil hn
    have := hc 0 x (by rw [hxr]; rfl)
    simp [World.cell?, hm] at this
  exact ⟨q, o, e, Nat.lt_of_lt_of_le hq hk.size, fun j u hu => (World.cell?_of_block (hk.block q (by omega) hqb)).trans (hc j u hu)⟩
theorem MapV.isMap {w : World} {k : TypeId} {b n : Nat} {g : Value → Option Value} (h : MapV w k b n g) : ∃ es clock, w.heap[b]? = some (.map es clock) := by
  obtain ⟨D, ⟨es, clock, hb, _⟩, _⟩ := h
  exact ⟨es, clock, hb⟩
end Go.Proofs.Ytmldiojlglpoiaa
/- JoS, what this seat can fill of it. -/
namespace Go.Proofs.Ytmldiojlglpoiaa
/- join.with: the rows of one atom more. -/
open Go.RowKit Go.Maps

/-- Rows that the call has made. -/
structure RowsAt (wr : World) (lo : Nat) (v : Value) (us : List TV) : Prop where
  row : OwnT wr lo v us
  tup : ∀ u ∈ us, OwnI wr lo u ∧ u.l.length ≤ 100
theorem RowsAt.nil (w : World) (lo : Nat) : RowsAt w lo (.slice none 0 0) [] := ⟨World.ownsRow_nil _ _ _ _, fun _ h => nomatch h⟩
theorem RowsAt.kept {w w' : World} {lo : Nat} {v : Value} {us : List TV} (h : RowsAt w lo v us) (hb : Below w.heap.size w w') : RowsAt w' lo v us :=
  ⟨OwnT.below h.row hb, fun u hu => ⟨(h.tup u hu).1.below hb, (h.tup u hu).2⟩⟩
/-- A row more. -/
theorem RowsAt.push {w : World} {lo : Nat} {v : Value} {us : List TV} {u : TV} (h : RowsAt w lo v us) (hu : OwnI w lo u) (hul : u.l.length ≤ 100) (hl : us.length ≤ 5000) (hlo : lo ≤ w.heap.size) :
    ∃ A5 c5 w5, (Builtin.append_ #[24, 24] 24 #[v, .slice (some ⟨w.heap.size, 0, none⟩) 1 1]).run Try.prog (w.alloc (.cells #[.slice u.A u.l.length u.c] 32)) = .ok (.slice A5 (us.length + 1) c5) w5 ∧ RowsAt w5 lo (.slice A5 (us.length + 1) c5) (us ++ [u]) ∧ Below lo w w5 := by
  obtain ⟨i0, hi, hz0, hz1, hz2⟩ := info_parts infoTup
  have hb4 : Below w.heap.size w (w.alloc (.cells #[.slice u.A u.l.length u.c] 32)) := (Below.refl _ _).alloc (Nat.le_refl _) _
  have h4 := h.kept hb4
  have hu4 := hu.below hb4
  have hrd : Rd (w.alloc (.cells #[.slice u.A u.l.length u.c] 32)) (w.heap.size + 1) (some ⟨w.heap.size, 0, none⟩) (vals [u]) := Rd.new w #[.slice u.A u.l.length u.c] 32 (0, 0)
  obtain ⟨v5, w5, hrun, g1, g2, g3⟩ := run_appR (P := Try.prog) _ lo 24 24 32 i0 _ 1 24 Try.underlying24 hi hz0 hz1 hz2 rfl (by omega) v us.length (vals us) h4.row (w.heap.size + 1) (some ⟨w.heap.size, 0, none⟩) 1 1 (vals [u]) rfl hrd (vals_one _) (by omega) (by omega) (Nat.le_trans hlo hb4.size)
  rw [← vals_app] at g1
  obtain ⟨A, c, rfl, _, _, _⟩ := own_shape g1
  have hfr := fr_grown g2
  refine ⟨A, c, w5, hrun, ⟨by unfold OwnT; rw [List.length_append]; exact g1, fun t ht => ?_⟩, (lower' hb4 hlo).trans (hfr.below (Nat.le_trans hlo hb4.size) (own_ge h4.row))⟩
  have hap : ∀ t : TV, OwnI (w.alloc (.cells #[.slice u.A u.l.length u.c] 32)) lo t → ∀ a, t.A = some a → a.block ∉ v.ownBlock.toList := fun t ht a ha hm =>
    own_apart ht h4.row (by decide) a.block (by unfold TV.val; rw [ha]; simp [Value.ownBlock]) hm
  rcases List.mem_append.1 ht with ht | ht
  · exact ⟨(h4.tup t ht).1.fr hfr (hap t (h4.tup t ht).1), (h4.tup t ht).2⟩
  · rw [List.mem_singleton.1 ht]
    exact ⟨hu4.fr hfr (hap u hu4), hul⟩
theorem RowsAt.ok {w : World} {lo : Nat} {A : Option Addr} {n c : Nat} {us : List TV} (h : RowsAt w lo (.slice A n c) us) (hl : us.length ≤ 5000) : n = us.length ∧ LV.Ok w ⟨A, us, c⟩ := by
  obtain ⟨A', c', e, h1, _, h2⟩ := own_shape h.row
  injection e with e1 e2 e3
  subst e1 e2 e3
  exact ⟨rfl, h2, fun t ht => (h.tup t ht).1.ok (by have := (h.tup t ht).2; omega), h1, hl⟩
theorem withL_at {s : Stp} {ahead : List Tu} {es : List Ed} {k : Nat} (h : k < ahead.length) : withL s ahead es = withL s (ahead.take k) es ++ (foundL s es (tellsS s ahead[k])).map (withS s ahead[k]) ++ withL s (ahead.drop (k + 1)) es := by
  unfold withL
  rw [← List.flatMap_singleton (f := fun row => (foundL s es (tellsS s row)).map (withS s row)) ahead[k], ← List.flatMap_append, ← List.flatMap_append]
  congr 1
  rw [List.append_assoc, List.singleton_append, ← List.drop_eq_getElem_cons h, List.take_append_drop]
theorem withL_take {s : Stp} {ahead : List Tu} {es : List Ed} {k : Nat} (h : k < ahead.length) : withL s (ahead.take (k + 1)) es = withL s (ahead.take k) es ++ (foundL s es (tellsS s ahead[k])).map (withS s ahead[k]) := by
  unfold withL
  rw [List.take_succ_eq_append_getElem h, List.flatMap_append, List.flatMap_singleton]
theorem tells_i64 {s : Stp} {row : Tu} (h : ∀ v ∈ row, I64 v) : I64 (tellsS s row).1 ∧ I64 (tellsS s row).2 := by
  have h0 : I64 0 := by unfold I64; omega
  have hg : ∀ i, I64 (row.getD i 0) := fun i => by
    rw [List.getD_eq_getElem?_getD]
    rcases hi : row[i]? with _ | v
    · exact h0
    · exact h v (List.mem_of_getElem? hi)
  unfold tellsS
  constructor
  · dsimp only; split
    · exact hg _
    · exact h0
  · dsimp only; split
    · exact hg _
    · exact h0
theorem told_i64 {s : Stp} {e : Int × Int} (h1 : I64 e.1) (h2 : I64 e.2) : I64 (toldS s e).1 ∧ I64 (toldS s e).2 := by
  have h0 : I64 0 := by unfold I64; omega
  unfold toldS
  constructor
  · dsimp only; split
    · exact h0
    · exact h1
  · dsimp only; split
    · exact h0
    · exact h2
theorem fit_i64 {s : Stp} {es : List Ed} (h : ∀ e ∈ es, e.Ok) : ∀ e ∈ fitL s es, I64 e.1 ∧ I64 e.2 := by
  intro e he
  unfold fitL at he
  obtain ⟨d, hd, rfl⟩ := List.mem_map.1 he
  have := h d (List.mem_filter.1 hd).1
  exact ⟨this.f, this.t⟩
end Go.Proofs.Ytmldiojlglpoiaa
