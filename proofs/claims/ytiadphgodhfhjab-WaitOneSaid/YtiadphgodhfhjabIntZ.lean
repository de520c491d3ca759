/- A row of numbers (ints) of the call's own: read, appended to, cut at its end. -/
import Derived.Test.YtiadphgodhfhjabFr
namespace Go.Proofs.Ytiadphgodhfhjab
open Go.RowKit

def intsZ (L : List Int) : List Value := L.map fun i => Value.int .i64 i
theorem intsZ_len (L : List Int) : (intsZ L).length = L.length := by simp [intsZ]
/-- A row of numbers of the call's own. -/
def OwnZ (w : World) (base : Nat) (v : Value) (l : List Int) : Prop := w.ownsRow base 3 1 v l.length (intsZ l)
theorem OwnZ.nil (w : World) (base : Nat) : OwnZ w base (.slice none 0 0) [] := World.ownsRow_nil _ _ _ _
theorem OwnZ.below {w w' : World} {base : Nat} {v : Value} {l : List Int} (h : OwnZ w base v l) (hb : Below w.heap.size w w') : OwnZ w' base v l := own_below h hb (Nat.le_refl _)
theorem OwnZ.low {w : World} {base base' : Nat} {v : Value} {l : List Int} (h : OwnZ w base v l) (hb : base' ≤ base) : OwnZ w base' v l := by
  refine ⟨h.1, ?_⟩
  rcases h.2 with k | ⟨g, cap, cur, hv, hg, hr⟩
  · exact .inl k
  · exact .inr ⟨g, cap, cur, hv, Nat.le_trans hb hg, hr⟩
theorem OwnZ.fr {w w' : World} {base : Nat} {v : Value} {l : List Int} {S : List Nat} (h : OwnZ w base v l) (hf : Fr w w' S) (hS : ∀ a, v.ownBlock = some a → a ∉ S) : OwnZ w' base v l := by
  refine ⟨h.1, ?_⟩
  rcases h.2 with k | ⟨g, cap, cur, hv, hg, hh, hr⟩
  · exact .inl k
  · exact .inr ⟨g, cap, cur, hv, hg, (hf.block g (heap_lt hh) (hS g (by rw [hv]; rfl))).trans hh, hr⟩
theorem OwnZ.form {w : World} {base : Nat} {v : Value} {l : List Int} (h : OwnZ w base v l) : ∃ A c, v = .slice A l.length c := by
  rcases h.2 with ⟨h1, h2⟩ | ⟨g, cap, cur, hv, _⟩
  · exact ⟨none, 0, by rw [h1, h2]⟩
  · exact ⟨some ⟨g, 0, none⟩, cap, hv⟩
theorem OwnZ.at {w : World} {base n c : Nat} {A : Option Addr} {l : List Int} (h : OwnZ w base (.slice A n c) l) (hn : 0 < l.length) : ∃ g, A = some ⟨g, 0, none⟩ ∧ base ≤ g ∧ g < w.heap.size ∧ l.length ≤ c ∧ ∀ k (hk : k < l.length), w.cell? ⟨g, k, none⟩ = some (.int .i64 l[k]) := by
  have h' := h
  rcases h.2 with ⟨_, h0⟩ | ⟨g, cap, cur, hv, hg, hh, hle, hm, hr⟩
  · omega
  · injection hv with e1 e2 e3
    subst e1 e2 e3
    refine ⟨g, rfl, hg, heap_lt hh, hle, fun k hk => ?_⟩
    have := World.ownsRow.cellAt h' k (by rw [Nat.mul_one]; exact hk)
    rw [this]
    simp [intsZ]
theorem OwnZ.apart {w : World} {base b : Nat} {v : Value} {l : List Int} {cs : Array Value} {T : TypeId} {f : Nat × Nat} (h : OwnZ w base v l) (hb : w.heap[b]? = some (.cells cs T f)) (hT : T ≠ 3) : b ∉ v.ownBlock.toList := by
  intro hm
  rcases h.2 with ⟨hv, _⟩ | ⟨g, cap, cur, hv, hg, hh, _⟩
  · rw [hv] at hm; cases hm
  · rw [hv] at hm
    have e : b = g := by simpa [Value.ownBlock] using hm
    subst e
    rw [hh] at hb
    injection hb with hb
    injection hb with _ hb _
    exact hT hb.symm
theorem OwnZ.pop {w : World} {base n c : Nat} {A : Option Addr} {l : List Int} (h : OwnZ w base (.slice A (n + 1) c) l) : OwnZ w base (.slice A n c) l.dropLast := by
  rcases h.2 with ⟨hv, h0⟩ | ⟨g, cap, cur, hv, hg, hh, hle, hm, hs, hr⟩
  · injection hv with _ e
    omega
  · injection hv with e1 e2 e3
    subst e1 e3
    refine ⟨by rw [intsZ_len, Nat.mul_one], .inr ⟨g, c, cur, by rw [List.length_dropLast]; congr 1; omega, hg, hh, by rw [List.length_dropLast]; omega, hm, hs, ?_⟩⟩
    rw [Nat.mul_one] at hr ⊢
    rw [List.length_dropLast]
    have e2 : cur.toList.take (l.length - 1) = (cur.toList.take l.length).take (l.length - 1) := by rw [List.take_take]; congr 1; omega
    rw [e2, hr]
    unfold intsZ
    rw [← List.map_take, List.dropLast_eq_take]
theorem OwnZ.new {w : World} {base g : Nat} {x : Int} (h : w.heap[g]? = some (.cells #[.int .i64 x] 3 (0, 0))) (hg : base ≤ g) : OwnZ w base (.slice (some ⟨g, 0, none⟩) 1 1) [x] :=
  ⟨rfl, .inr ⟨g, 1, #[.int .i64 x], rfl, hg, h, Nat.le_refl _, by simp [maxLen], rfl, rfl⟩⟩
/-- A list of numbers in memory. -/
structure IntL (w : World) (A : Option Addr) (c : Nat) (l : List Int) : Prop where
  rd : Rd w w.heap.size A (intsZ l)
  cap : l.length ≤ c
theorem IntL.below {w w' : World} {A : Option Addr} {c : Nat} {l : List Int} (h : IntL w A c l) (hb : Below w.heap.size w w') : IntL w' A c l := ⟨(h.rd.below hb (Nat.le_refl _)).more hb.size, h.cap⟩
theorem IntL.cell {w : World} {A : Option Addr} {c : Nat} {l : List Int} (h : IntL w A c l) {k : Nat} (hk : k < l.length) : ∃ b o, A = some ⟨b, o, none⟩ ∧ b < w.heap.size ∧ w.cell? ⟨b, o + k, none⟩ = some (.int .i64 l[k]) := by
  obtain ⟨b, o, e, hb, hc⟩ := h.rd.get (k := k) (by rw [intsZ_len]; exact hk)
  refine ⟨b, o, e, hb, ?_⟩
  rw [hc]
  simp [intsZ]
theorem OwnZ.il {w : World} {base : Nat} {v : Value} {l : List Int} (h : OwnZ w base v l) : ∃ A c, v = .slice A l.length c ∧ IntL w A c l := by
  obtain ⟨A, c, e, h1, h2, h3⟩ := own_shape h
  exact ⟨A, c, e, h3, h1⟩
theorem app_intZ (w : World) (base : Nat) (v : Value) (l : List Int) (hown : OwnZ w base v l) (hB : base ≤ w.heap.size) (x : Int) (hl : l.length ≤ 5000) :
    ∃ A5 c5 w5, (Builtin.append_ #[25, 25] 25 #[v, .slice (some ⟨w.heap.size, 0, none⟩) 1 1]).run Try.prog (w.alloc (.cells #[.int .i64 x] 3)) = .ok (.slice A5 (l.length + 1) c5) w5 ∧ OwnZ w5 base (.slice A5 (l.length + 1) c5) (l ++ [x]) ∧ Fr w w5 v.ownBlock.toList ∧ (∀ s ∈ (Value.slice A5 (l.length + 1) c5).ownBlock.toList, s ∈ v.ownBlock.toList ∨ w.heap.size ≤ s) ∧ Below base w w5 := by
  obtain ⟨i, hi, hz0, hz1, hz2⟩ := info_parts infoInt
  have hr : Rd (w.alloc (.cells #[.int .i64 x] 3)) (w.alloc (.cells #[.int .i64 x] 3)).heap.size (some ⟨w.heap.size, 0, none⟩) (intsZ [x]) := by
    rw [alloc1_size]
    exact Rd.new w #[.int .i64 x] 3 (0, 0)
  obtain ⟨v', w', hrun, h1, h2, h3⟩ := run_appR (P := Try.prog) (w.alloc (.cells #[.int .i64 x] 3)) base 25 25 3 i _ 1 8 Try.underlying25 hi hz0 hz1 hz2 rfl (by omega) v l.length (intsZ l) (World.ownsRow.alloc hown _) (w.alloc (.cells #[.int .i64 x] 3)).heap.size (some ⟨w.heap.size, 0, none⟩) 1 1 (intsZ [x]) rfl hr (fun u hu => by simp [intsZ] at hu; subst hu; rfl) (by omega) (by omega) (by rw [alloc1_size]; omega)
  obtain ⟨A5, c5, rfl, _, _, _⟩ := own_shape h1
  have e : intsZ l ++ intsZ [x] = intsZ (l ++ [x]) := by simp [intsZ]
  rw [e] at h1
  refine ⟨A5, c5, w', hrun, ?_, ?_, fun s hs => ?_, ((Below.refl base w).alloc hB _).trans (grown_below' h2 (fun z hz => (World.ownsRow.lt hown z hz).1) (by rw [alloc1_size]; omega))⟩
  · unfold OwnZ
    rw [List.length_append]
    exact h1
  · have ha : Fr w (w.alloc (.cells #[.int .i64 x] 3)) v.ownBlock.toList := Fr.of_below ((Below.refl w.heap.size w).alloc (Nat.le_refl _) _) _
    refine ha.trans ?_
    cases hv : v.ownBlock with
    | none => rw [hv] at h2; exact Fr.of_grown0 h2 _
    | some b => rw [hv] at h2; exact Fr.of_grown h2
  · rcases h3 with h3 | h3
    · rw [h3] at hs; exact .inl hs
    · rw [h3, alloc1_size] at hs
      simp at hs
      exact .inr (by omega)
/-- append([]int{}, l..). -/
theorem copy_intZ (w : World) {A : Option Addr} {c : Nat} {l : List Int} (h : IntL w A c l) (hl : l.length ≤ 17592186044416) :
    ∃ A5 c5 w5, (Builtin.append_ #[25, 25] 25 #[.slice (some ⟨w.heap.size, 0, none⟩) 0 0, .slice A l.length c]).run Try.prog (w.alloc (.cells #[] 3)) = .ok (.slice A5 l.length c5) w5 ∧ IntL w5 A5 c5 l ∧ Below w.heap.size w w5 := by
  have hb0 : Below w.heap.size w (w.alloc (.cells #[] 3)) := (Below.refl _ _).alloc (Nat.le_refl _) _
  have how : OwnZ (w.alloc (.cells #[] 3)) w.heap.size (.slice (some ⟨w.heap.size, 0, none⟩) 0 0) [] := own_lit0 w (Nat.le_refl _)
  obtain ⟨i, hi, hz0, hz1, hz2⟩ := info_parts infoInt
  obtain ⟨v', w', hrun, h1, h2, h3⟩ := run_appR (P := Try.prog) (w.alloc (.cells #[] 3)) w.heap.size 25 25 3 i _ 1 8 Try.underlying25 hi hz0 hz1 hz2 rfl (by omega) (.slice (some ⟨w.heap.size, 0, none⟩) 0 0) 0 [] how (w.alloc (.cells #[] 3)).heap.size A l.length c (intsZ l) (by rw [intsZ_len]; omega) (h.below hb0).rd (fun u hu => by unfold intsZ at hu; obtain ⟨x, _, rfl⟩ := List.mem_map.1 hu; rfl) (by omega) (by omega) hb0.size
  have h1' : OwnZ w' w.heap.size v' l := by
    rw [Nat.zero_add, List.nil_append] at h1
    exact h1
  obtain ⟨A5, c5, e5, hil⟩ := h1'.il
  subst e5
  exact ⟨A5, c5, w', hrun, hil, hb0.trans ((Below.refl w.heap.size _).grown h2 hb0.size (fun z hz => (World.ownsRow.lt how z hz).1))⟩
theorem wpL_appK {ops : Array Oper} {rest : List Oper} {o : Oper} {a : Act} {Q : Exit → Act → World → Prop} (w : World) (hgd : o.guard = none) (s x : Operand) (t : TypeId)
    (ho : o.op = .call { callee := .builtin .append, args := #[s, x], argTypes := #[t, t] }) (hty : o.type = t) (v y v' : Value) (w' : World) (hs : a.eval s = v) (hx : a.eval x = y)
    (hrun : (Builtin.append_ #[t, t] t #[v, y]).run Try.prog w = .ok v' w') (h : wpList Try.prog ops Q rest (a.put o.dst v') w') : wpList Try.prog ops Q (o :: rest) a w := by
  refine wpList_plain hgd fun K hK => ?_
  exact step_appK' w s x t ho hty v y v' w' hs hx hrun (hK _ _ h)
end Go.Proofs.Ytiadphgodhfhjab
