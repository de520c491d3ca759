/- Groups of ends in a map: by what a row tells of them. -/
import Derived.Test.YtgldcahhliokeaaJoQ
namespace Go.Proofs.Ytgldcahhliokeaa
open Go.RowKit Go.Maps

def nilE : Value := .slice none 0 0
def grp (s : Stp) (F : List (Int × Int)) (key : Int × Int) : List (Int × Int) := F.filter fun e => decide (toldS s e = key)
theorem grp_same (s : Stp) (F : List (Int × Int)) (e : Int × Int) : grp s (F ++ [e]) (toldS s e) = grp s F (toldS s e) ++ [e] := by
  unfold grp
  rw [List.filter_append]
  simp
theorem grp_other {s : Stp} {F : List (Int × Int)} {e key : Int × Int} (h : key ≠ toldS s e) : grp s (F ++ [e]) key = grp s F key := by
  unfold grp
  rw [List.filter_append]
  have : decide (toldS s e = key) = false := decide_eq_false (fun h2 => h h2.symm)
  simp [this]
theorem grp_len (s : Stp) (F : List (Int × Int)) (key : Int × Int) : (grp s F key).length ≤ F.length := List.length_filter_le _ _
theorem zeroEnds (w : World) : (zeroValue 117).run Try.prog w = .ok nilE w := by kernel_rfl
/-- Groups in the map of block b, each in a row of its own from lo on. -/
def Grps (wr : World) (lo b : Nat) (s : Stp) (F : List (Int × Int)) : Prop :=
  ∃ g n, MapV wr 120 b n g ∧ n ≤ F.length ∧ (∀ key, wr.ownsRow lo 120 2 ((g (enV key)).getD nilE) (grp s F key).length (ensC (grp s F key))) ∧
    ∀ key key' q, key ≠ key' → q ∈ ((g (enV key)).getD nilE).ownBlock.toList → q ∉ ((g (enV key')).getD nilE).ownBlock.toList
theorem Grps.made (w : World) (lo : Nat) (s : Stp) : Grps (w.alloc (.map #[] 0)) lo w.heap.size s [] :=
  ⟨_, 0, MapV.made w _, Nat.zero_le _, fun _ => World.ownsRow_nil _ _ _ _, fun _ _ q _ h => by simp [nilE, Value.ownBlock] at h⟩
theorem Grps.kept {wr w' : World} {lo b : Nat} {s : Stp} {F : List (Int × Int)} (h : Grps wr lo b s F) (hb : Below wr.heap.size wr w') : Grps w' lo b s F := by
  obtain ⟨g, n, h1, h2, h3, h4⟩ := h
  exact ⟨g, n, h1.below hb, h2, fun key => own_below (h3 key) hb (Nat.le_refl _), h4⟩
theorem Grps.lt {wr : World} {lo b : Nat} {s : Stp} {F : List (Int × Int)} (h : Grps wr lo b s F) : b < wr.heap.size := by
  obtain ⟨g, n, h1, _⟩ := h
  exact h1.lt
theorem ends_key {k : Int × Int} (h1 : I64 k.1) (h2 : I64 k.2) : ∃ kl, keyOf Try.prog 120 (enV k) = some kl := keyEnds h1 h2
/-- Below lo all but block b stays. -/
structure Keep (lo b : Nat) (w w' : World) : Prop where
  os : w'.os = w.os
  tape : w'.tape = w.tape
  output : w'.output = w.output
  size : w.heap.size ≤ w'.heap.size
  block : ∀ q, q < lo → q ≠ b → w'.heap[q]? = w.heap[q]?
theorem Keep.refl (lo b : Nat) (w : World) : Keep lo b w w := ⟨rfl, rfl, rfl, Nat.le_refl _, fun _ _ _ => rfl⟩
theorem Keep.trans {lo b : Nat} {x y z : World} (h : Keep lo b x y) (k : Keep lo b y z) : Keep lo b x z :=
  ⟨k.os.trans h.os, k.tape.trans h.tape, k.output.trans h.output, Nat.le_trans h.size k.size, fun q h1 h2 => (k.block q h1 h2).trans (h.block q h1 h2)⟩
theorem Keep.of_below {lo b B : Nat} {x y : World} (h : Below B x y) (hB : lo ≤ B) : Keep lo b x y := ⟨h.os, h.tape, h.output, h.size, fun q h1 _ => h.block q (Nat.lt_of_lt_of_le h1 hB)⟩
theorem Keep.of_fr {lo b : Nat} {x y : World} {S : List Nat} (h : Fr x y S) (hlo : lo ≤ x.heap.size) (hS : ∀ q ∈ S, lo ≤ q ∨ q = b) : Keep lo b x y :=
  ⟨h.os, h.tape, h.output, h.size, fun q h1 h2 => h.block q (Nat.lt_of_lt_of_le h1 hlo) (fun hm => by rcases hS q hm with h | h <;> omega)⟩
theorem Keep.below {lo b B : Nat} {x y : World} (h : Keep lo b x y) (h1 : B ≤ lo) (h2 : B ≤ b) : Below B x y := ⟨h.os, h.tape, h.output, h.size, fun q hq => h.block q (by omega) (by omega)⟩
/-- One more in its group. -/
theorem Grps.put {wr : World} {lo b : Nat} {s : Stp} {F : List (Int × Int)} (h : Grps wr lo b s F) (e : Int × Int) (k1 : I64 (toldS s e).1) (k2 : I64 (toldS s e).2) (hF : F.length ≤ 900) (hlo : lo ≤ wr.heap.size) :
    ∃ v0 st w1, (Instr.mapEntry 116 (.map (some b)) (enV (toldS s e))).run Try.prog (wr.alloc (.cells #[.int .i64 e.1, .int .i64 e.2] 120)) = .ok (.tuple #[v0, .int .i64 (st : Int)]) w1 ∧
      ∃ v5 w5, (Builtin.append_ #[117, 117] 117 #[v0, .slice (some ⟨wr.heap.size, 0, none⟩) 1 1]).run Try.prog w1 = .ok v5 w5 ∧
      ∃ w6, (Instr.entryStore 116 (.map (some b)) (.int .i64 (st : Int)) v5).run Try.prog w5 = .ok () w6 ∧ Grps w6 lo b s (F ++ [e]) ∧ Keep lo b wr w6 := by
  have hb0 : Below wr.heap.size wr (wr.alloc (.cells #[.int .i64 e.1, .int .i64 e.2] 120)) := (Below.refl _ _).alloc (Nat.le_refl _) _
  have hlt := h.lt
  obtain ⟨g, n, h1, h2, h3, h4⟩ := h.kept hb0
  have hcell := heap_alloc_new wr (.cells #[.int .i64 e.1, .int .i64 e.2] 120)
  have hsz := alloc1_size wr (.cells #[.int .i64 e.1, .int .i64 e.2] 120)
  generalize wr.alloc (.cells #[.int .i64 e.1, .int .i64 e.2] 120) = W at hb0 h1 h3 hcell hsz ⊢
  obtain ⟨kl, hk⟩ := ends_key k1 k2
  obtain ⟨st, w1, hE, hf1, hb1, hS⟩ := h1.entry lawEnds Try.underlying116 zeroEnds hk (by simp only [maxLen]; omega)
  obtain ⟨v0, hv0⟩ : ∃ v, v = (g (enV (toldS s e))).getD nilE := ⟨_, rfl⟩
  have hr0 := h3 (toldS s e)
  have ha0 := h1.apart hr0
  rw [← hv0] at hE hr0 ha0
  have hr1 := rowFrS hr0 hf1 (fun x hx hm => ha0 (by rw [List.mem_singleton.1 hm] at hx; exact hx))
  have hc1 := (hf1.block _ (heap_lt hcell) (by simp; omega)).trans hcell
  have hrd : Rd w1 w1.heap.size (some ⟨wr.heap.size, 0, none⟩) (ensC [e]) := fun _ => ⟨_, _, rfl, heap_lt hc1, fun j u hu => by
    rw [Nat.zero_add, cell_of_row w1 wr.heap.size j _ _ _ hc1, ← hu]
    show _ = (#[Value.int .i64 e.1, Value.int .i64 e.2] : Array Value).toList[j]?
    rw [Array.getElem?_toList]⟩
  have hs1 := hf1.size
  have hlo1 : lo ≤ w1.heap.size := by omega
  obtain ⟨i, hi, hz0, hz1, hz2⟩ := info_parts infoEnds
  have hgl := grp_len s F (toldS s e)
  obtain ⟨v5, w5, hrun, g1, g2, g3⟩ := run_appR (P := Try.prog) w1 lo 117 117 120 i _ 2 16 Try.underlying117 hi hz0 hz1 hz2 rfl (by omega) v0 _ _ hr1 w1.heap.size (some ⟨wr.heap.size, 0, none⟩) 1 1 (ensC [e]) (by rw [ensC_len]; rfl) hrd (ensC_one _) (by omega) (by omega) hlo1
  have hf5 := fr_grown g2
  have hb5 : w5.heap[b]? = w1.heap[b]? := hf5.block b hb1 ha0
  obtain ⟨w6, hT, m6, hf6⟩ := hS v5 w5 (fun v => open Classical in if v = enV (toldS s e) then some v5 else g v) hb5 (if_pos rfl) (fun q hq => if_neg hq)
  have hbv5 : b ∉ v5.ownBlock.toList := by
    rcases g3 with e' | e'
    · rw [e']; exact ha0
    · rw [e']; simp; omega
  refine ⟨v0, st, w1, hE, v5, w5, hrun, w6, hT, ⟨_, n + 1, m6, by rw [List.length_append]; simp; omega, fun key => ?_, ?_⟩, ?_⟩
  · by_cases hkey : key = toldS s e
    · subst hkey
      rw [if_pos rfl, grp_same, ensC_app, List.length_append]
      exact rowFrS g1 hf6 (fun x hx hm => hbv5 (by rw [List.mem_singleton.1 hm] at hx; exact hx))
    · rw [if_neg (fun h => hkey (enV_inj h)), grp_other hkey]
      have hr := h3 key
      have ha := h1.apart hr
      have r1 := rowFrS hr hf1 (fun x hx hm => ha (by rw [List.mem_singleton.1 hm] at hx; exact hx))
      have r5 := rowFrS r1 hf5 (fun x hx hm => h4 key (toldS s e) x hkey hx (by rw [← hv0]; exact hm))
      exact rowFrS r5 hf6 (fun x hx hm => ha (by rw [List.mem_singleton.1 hm] at hx; exact hx))
  · have hnew : ∀ key, key ≠ toldS s e → ∀ q, q ∈ v5.ownBlock.toList → q ∉ ((g (enV key)).getD nilE).ownBlock.toList := by
      intro key hkey q hq hm
      rcases g3 with e' | e'
      · rw [e', hv0] at hq
        exact h4 (toldS s e) key q (Ne.symm hkey) hq hm
      · rw [e'] at hq
        have h9 := own_lt' (h3 key) q hm
        simp at hq
        omega
    intro key key' q hne hq
    by_cases hkey : key = toldS s e
    · subst hkey
      rw [if_pos rfl] at hq
      rw [if_neg (fun h => hne (enV_inj h).symm)]
      exact hnew key' (Ne.symm hne) q hq
    · rw [if_neg (fun h => hkey (enV_inj h))] at hq
      by_cases hkey' : key' = toldS s e
      · subst hkey'
        rw [if_pos rfl]
        exact fun hm => hnew key hkey q hm hq
      · rw [if_neg (fun h => hkey' (enV_inj h))]
        exact h4 key key' q hne hq
  · have k6 : Keep lo b w5 w6 := Keep.of_fr hf6 (by have := hf5.size; omega) (by simp)
    have k5 : Keep lo b w1 w5 := Keep.of_fr hf5 hlo1 (fun q hq => .inl (own_ge hr1 q hq))
    have kW : Keep lo b W w1 := Keep.of_fr hf1 (by omega) (by simp)
    exact (Keep.of_below hb0 hlo).trans (kW.trans (k5.trans k6))
/-- The group of a row. -/
theorem Grps.look {wr : World} {lo b : Nat} {s : Stp} {F : List (Int × Int)} (h : Grps wr lo b s F) {k : Int × Int} (h1 : I64 k.1) (h2 : I64 k.2) :
    ∃ A c, (Instr.lookup 116 (.map (some b)) (enV k) false).run Try.prog wr = .ok (.slice A (grp s F k).length c) wr ∧ Ens wr A c (grp s F k) := by
  obtain ⟨g, n, g1, g2, g3, g4⟩ := h
  obtain ⟨kl, hk⟩ := ends_key h1 h2
  have hl := g1.at (Keyed.of_law lawEnds) Try.underlying116 (zeroEnds wr) hk
  obtain ⟨A, c, e, hc, _, hr⟩ := own_shape (g3 k)
  rw [e] at hl
  exact ⟨A, c, hl, hr, hc⟩
/-- The group of a row, in each later world. -/
theorem Grps.look2 {wr : World} {lo b : Nat} {s : Stp} {F : List (Int × Int)} (h : Grps wr lo b s F) {k : Int × Int} (h1 : I64 k.1) (h2 : I64 k.2) :
    ∃ A c, ∀ w', Below wr.heap.size wr w' → (Instr.lookup 116 (.map (some b)) (enV k) false).run Try.prog w' = .ok (.slice A (grp s F k).length c) w' ∧ Ens w' A c (grp s F k) := by
  obtain ⟨g, n, g1, g2, g3, g4⟩ := h
  obtain ⟨kl, hk⟩ := ends_key h1 h2
  obtain ⟨A, c, e, hc, _, hr⟩ := own_shape (g3 k)
  refine ⟨A, c, fun w' hb => ?_⟩
  have hl := (g1.below hb).at (Keyed.of_law lawEnds) Try.underlying116 (zeroEnds w') hk
  rw [e] at hl
  exact ⟨hl, (Ens.mk hr hc).below hb⟩
/-- Ends that lie below lo, not in block b. -/
theorem Ens.keep {w w' : World} {lo b : Nat} {A : Option Addr} {c : Nat} {l : List (Int × Int)} (h : Ens w A c l) (hlo : w.heap.size ≤ lo) (hb : ∃ es clock, w.heap[b]? = some (.map es clock)) (hk : Keep lo b w w') : Ens w' A c l := by
  refine ⟨fun hn => ?_, h.cap⟩
  obtain ⟨q, o, e, hq, hc⟩ := h.rd hn
  have hqb : q ≠ b := by
    rintro rfl
    obtain ⟨es, clock, hm⟩ := hb
    obtain ⟨x, r, hxr⟩ := List.exists_cons_of_ne_nil hn
    have := hc 0 x (by rw [hxr]; rfl)
    simp [World.cell?, hm] at this
  exact ⟨q, o, e, Nat.lt_of_lt_of_le hq hk.size, fun j u hu => (World.cell?_of_block (hk.block q (by omega) hqb)).trans (hc j u hu)⟩
theorem MapV.isMap {w : World} {k : TypeId} {b n : Nat} {g : Value → Option Value} (h : MapV w k b n g) : ∃ es clock, w.heap[b]? = some (.map es clock) := by
  obtain ⟨D, ⟨es, clock, hb, _⟩, _⟩ := h
  exact ⟨es, clock, hb⟩
theorem Grps.isMap {wr : World} {lo b : Nat} {s : Stp} {F : List (Int × Int)} (h : Grps wr lo b s F) : ∃ es clock, wr.heap[b]? = some (.map es clock) := by
  obtain ⟨g, n, h1, _⟩ := h
  exact h1.isMap
end Go.Proofs.Ytgldcahhliokeaa
