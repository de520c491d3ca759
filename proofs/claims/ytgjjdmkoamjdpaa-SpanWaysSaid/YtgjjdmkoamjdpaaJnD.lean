/- Joined: JoK OrdM JoL JoM JoN JoTS JoTT JoTU. -/
import Derived.Test.YtgjjdmkoamjdpaaJnB
import Derived.Test.YtgjjdmkoamjdpaaJnC
import Derived.Test.YtgjjdmkoamjdpaaFr
import Derived.Deep.RegionHeld
import Derived.ProofKit
import Derived.SizedLaws
import Derived.Deep.Slices
import Derived.Deep.Grids
import Derived.ChangeSame
import Derived.OpenShut
/- JoK, what this seat can fill of it. -/
namespace Go.Proofs.Ytgjjdmkoamjdpaa
/- query.Vars. -/
open Go.RowKit Go.Maps

theorem goodP_names {v : Vw} (h : goodP v = true) : v.kind = 1 ∧ v.atoms.length ≤ 8 ∧ v.out.length ≤ 6 ∧ (∀ a ∈ v.atoms, a.fr.length ≤ 16 ∧ a.lab.length ≤ 16 ∧ a.to.length ≤ 16) ∧ (∀ o ∈ v.out, o ∈ varsL v.atoms) ∧ 1 ≤ v.atoms.length := by
  unfold goodP patOk atsOk outsOk at h
  simp only [Bool.and_eq_true, decide_eq_true_eq, List.all_eq_true] at h
  obtain ⟨_, ⟨⟨h1, _⟩, ⟨⟨h2', h2⟩, h3⟩⟩, ⟨_, h4⟩, h5⟩ := h
  refine ⟨h1, h2, h4, fun a ha => ?_, ?_, h2'⟩
  · have h6 := h3 a ha
    unfold atOk at h6
    simp only [Bool.and_eq_true] at h6
    exact ⟨(isNm_len h6.1.1).2, (isNm_len h6.1.2).2, (isNm_len h6.2).2⟩
  · have hgo : ∀ (l pre : List Nm), outsGo v.atoms pre l = true → ∀ o ∈ l, o ∈ varsL v.atoms := by
      intro l
      induction l with
      | nil => intro pre _ o ho; cases ho
      | cons q r ih =>
        intro pre hq o ho
        unfold outsGo at hq
        simp only [Bool.and_eq_true] at hq
        rcases List.mem_cons.1 ho with rfl | ho
        · exact boundB_iff.1 hq.1.2
        · exact ih _ hq.2 o ho
    exact hgo _ _ h5
theorem varsL_take {ats : List Atm} {k : Nat} (h : k < ats.length) : varsL (ats.take (k + 1)) = vars1 (varsL (ats.take k)) ats[k] := by
  unfold varsL varsFrom
  rw [List.take_succ_eq_append_getElem h, List.foldl_append]
  rfl
theorem take_len_vars {ats : List Atm} {k : Nat} (h : k ≤ 8) : (varsL (ats.take k)).length ≤ 16 := by
  have h1 := varsL_len (ats.take k)
  rw [List.length_take] at h1
  omega
theorem own_lt' {w : World} {base size n : Nat} {e : TypeId} {v : Value} {xs : List Value} (h : w.ownsRow base e size v n xs) : ∀ s ∈ v.ownBlock.toList, s < w.heap.size := fun s hs => (World.ownsRow.lt h s (by simpa using hs)).2
theorem SeenS.ne {w : World} {b : Nat} {vs : List Nm} (h : SeenS w b vs) {q : Nat} {cs : Array Value} {t : TypeId} {fr : Nat × Nat} (hq : w.heap[q]? = some (.cells cs t fr)) : b ≠ q := by
  rintro rfl
  obtain ⟨g, ⟨D, ⟨es, clock, hb, _⟩, _⟩, _⟩ := h
  rw [hb] at hq
  cases hq
/-- What Vars answers. -/
def VaPost (w : World) (vs : List Nm) (e : Ending) (w' : World) : Prop := ∃ A c, e = .returned (.slice A vs.length c) ∧ w'.ownsRow w.heap.size 9 1 (.slice A vs.length c) vs.length (strs vs) ∧ Sts w' A c vs ∧ Below w.heap.size w w'
end Go.Proofs.Ytgjjdmkoamjdpaa
/- A region that draws its order, whose loads are taken first under a condition on the world that holds till they are all done: what comes behind them (a store into what they read) need not keep it. -/
namespace Go.Proofs.Ytgjjdmkoamjdpaa
open Go.RowKit Go.Maps

section
variable {P : Program} {ops : Array Oper} {Q : Exit → Act → World → Prop} {md : Region.Mode} {S : World → Prop} {pre : Nat → Bool}
/-- Whatever order is picked from here on, and S holds behind each operation that 'pre' names. -/
def wpAnyM (P : Program) (md : Region.Mode) (ops : Array Oper) (Q : Exit → Act → World → Prop) (S : World → Prop) (pre : Nat → Bool) : Nat → Array Bool → Act → World → Prop
  | 0, listed, a, w => Region.ready md ops listed = [] ∧ Q .normal a w
  | fuel + 1, listed, a, w =>
    (Region.ready md ops listed = [] → Q .normal a w) ∧
    ∀ i ∈ Region.ready md ops listed, wpOp P ops Q i (fun a' w' => (pre i = true → S w') ∧ wpAnyM P md ops Q S pre fuel (listed.setIfInBounds i true) a' w') a w
theorem wpAny_of_M : ∀ (fuel : Nat) (listed : Array Bool) (a : Act) (w : World), wpAnyM P md ops Q S pre fuel listed a w → wpAny P md ops Q fuel listed a w
  | 0, _, _, _, h => h
  | fuel + 1, _, _, _, h => ⟨h.1, fun i hi => wpOp_mono (fun a' w' h' => wpAny_of_M fuel _ a' w' h'.2) (h.2 i hi)⟩
/-- Number j waits for number i, over at most n others. -/
def waits (md : Region.Mode) (ops : Array Oper) (i : Nat) : Nat → Nat → Bool
  | 0, _ => false
  | n + 1, j => match ops[j]? with
    | some o => o.after.any fun e => Region.binds md e && (e.on == i || waits md ops i n e.on)
    | none => false
def Closed (md : Region.Mode) (ops : Array Oper) (listed : Array Bool) : Prop := ∀ k ok, ops[k]? = some ok → listed.getD k false = true → ∀ e ∈ ok.after, Region.binds md e = true → listed.getD e.on false = true
theorem getD_up {listed : Array Bool} {j k : Nat} (h : listed.getD k false = true) : (listed.setIfInBounds j true).getD k false = true := by
  by_cases hjk : j = k
  · subst hjk
    have hlt : j < listed.size := by
      rcases Nat.lt_or_ge j listed.size with h' | h'
      · exact h'
      · simp [Array.getElem?_eq_none h'] at h
    simp [hlt]
  · rw [getD_set_ne false hjk]; exact h
theorem Closed.up {listed : Array Bool} {j : Nat} {oj : Oper} (h : Closed md ops listed) (hj : ops[j]? = some oj) (hall : ∀ e ∈ oj.after, Region.binds md e = true → listed.getD e.on false = true) : Closed md ops (listed.setIfInBounds j true) := by
  intro k ok hk hl e he hb
  by_cases hjk : j = k
  · subst hjk
    rw [hj] at hk
    cases hk
    exact getD_up (hall e he hb)
  · rw [getD_set_ne false hjk] at hl
    exact getD_up (h k ok hk hl e he hb)
theorem waits_listed {listed : Array Bool} {i : Nat} (h : Closed md ops listed) : ∀ (n j : Nat) (oj : Oper), ops[j]? = some oj → (∀ e ∈ oj.after, Region.binds md e = true → listed.getD e.on false = true) → waits md ops i n j = true → listed.getD i false = true
  | 0, _, _, _, _, hw => by simp [waits] at hw
  | n + 1, j, oj, hj, hall, hw => by
    rw [waits, hj] at hw
    obtain ⟨k, hk, he⟩ := Array.any_eq_true.1 hw
    simp only [Bool.and_eq_true, Bool.or_eq_true, beq_iff_eq] at he
    have h1 := hall _ (Array.getElem_mem hk) he.1
    rcases he.2 with h2 | h2
    · rw [← h2]; exact h1
    · cases hon : ops[(oj.after[k]).on]? with
      | none =>
        cases n with
        | zero => simp [waits] at h2
        | succ n => rw [waits, hon] at h2; cases h2
      | some o2 => exact waits_listed h n _ o2 hon (h _ o2 hon h1) h2
theorem wpAnyM_first {i : Nat} {oi : Oper} {v : Value} (hi : ops[i]? = some oi) (hsel : ∀ (j : Nat) (o : Oper) cs b, ops[j]? = some o → o.op ≠ .select cs b)
    (hQ : ∀ c a w, Q (.panic c) (a.put oi.dst v) w → Q (.panic c) a w) (hpre : ∀ j oj, ops[j]? = some oj → j ≠ i → pre j = true ∨ waits md ops i ops.size j = true) :
    ∀ (fuel : Nat) (listed : Array Bool) (a : Act) (w : World),
      (∀ j oj, ops[j]? = some oj → j ≠ i → listed.getD j true = false → (∀ e ∈ oj.after, Region.binds md e = true → e.on ≠ i) → oi.apart ops oj = true) → Closed md ops listed →
      i ∈ Region.ready md ops listed → YieldsIf P ops S oi v a → S w →
      wpAnyM P md ops Q S pre fuel (listed.setIfInBounds i true) (a.put oi.dst v) w → wpAnyM P md ops Q S pre (fuel + 1) listed a w := by
  intro fuel
  induction fuel with
  | zero =>
    intro listed a w _ _ hr hy hS H
    refine ⟨fun h => (by rw [h] at hr; cases hr), fun j hj => ?_⟩
    by_cases hji : j = i
    · subst hji; exact hy.wpOp hi hS ⟨fun _ => hS, H⟩
    · have := ready_mono hj hji
      rw [H.1] at this
      cases this
  | succ fuel ih =>
    intro listed a w hfree hcl hr hy hS H
    refine ⟨fun h => (by rw [h] at hr; cases hr), fun j hj => ?_⟩
    by_cases hji : j = i
    · subst hji; exact hy.wpOp hi hS ⟨fun _ => hS, H⟩
    · have h1 := H.2 j (ready_mono hj hji)
      obtain ⟨hjun, oj, hoj, hall⟩ := mem_ready.1 hj
      have hun0 : listed.getD i false = true → False := fun h1 => by
        have h0 := (mem_ready.1 hr).1
        rcases Nat.lt_or_ge i listed.size with h' | h'
        · simp [h'] at h0 h1; rw [h0] at h1; cases h1
        · simp [Array.getElem?_eq_none h'] at h1
      have hnot : ∀ e ∈ oj.after, Region.binds md e = true → e.on ≠ i := fun e he hb heq => by
        have h1 := hall e he hb
        rw [heq] at h1
        exact hun0 h1
      have h2 := wpOp_putIf hoj (hfree j oj hoj hji hjun hnot) (fun cs b => hsel i oi cs b hi) (fun cs b => hsel j oj cs b hoj) hQ hy h1
      have hfree' : ∀ k ok, ops[k]? = some ok → k ≠ i → (listed.setIfInBounds j true).getD k true = false →
          (∀ e ∈ ok.after, Region.binds md e = true → e.on ≠ i) → oi.apart ops ok = true := fun k ok hk hki hun hno => by
        refine hfree k ok hk hki ?_ hno
        by_cases hjk : j = k
        · subst hjk; exact hjun
        · rw [getD_set_ne true hjk] at hun; exact hun
      have hp : pre j = true := (hpre j oj hoj hji).resolve_right fun hw => hun0 (waits_listed hcl _ j oj hoj hall hw)
      refine wpOp_mono (fun a' w' h3 => ⟨h3.2.1, ih (listed.setIfInBounds j true) a' w' hfree' (hcl.up hoj hall) (ready_mono hr (Ne.symm hji)) h3.1 (h3.2.1 hp) ?_⟩) h2
      rw [Array.setIfInBounds_comm _ _ hji]
      exact h3.2.2
/-- Each operation that does not wait for number i is one that 'pre' names; what has come up had waited for nobody else. -/
def preOk (md : Region.Mode) (ops : Array Oper) (pre : Nat → Bool) (listed : Array Bool) (i : Nat) : Bool :=
  ((List.range ops.size).all fun j => j == i || pre j || waits md ops i ops.size j) &&
  ((List.range ops.size).all fun k => !listed.getD k false || match ops[k]? with
    | some o => o.after.all fun e => !Region.binds md e || listed.getD e.on false
    | none => true)
theorem preOk_spec {listed : Array Bool} {i : Nat} (h : preOk md ops pre listed i = true) : (∀ j oj, ops[j]? = some oj → j ≠ i → pre j = true ∨ waits md ops i ops.size j = true) ∧ Closed md ops listed := by
  obtain ⟨h1, h2⟩ := (Bool.and_eq_true _ _).mp h
  constructor
  · intro j oj hj hji
    have hlt : j < ops.size := (Array.getElem?_eq_some_iff.1 hj).1
    have h3 := List.all_eq_true.1 h1 j (List.mem_range.2 hlt)
    simpa only [Bool.or_eq_true, beq_iff_eq, hji, false_or] using h3
  · intro k ok hk hl e he hb
    have hlt : k < ops.size := (Array.getElem?_eq_some_iff.1 hk).1
    have h3 := List.all_eq_true.1 h2 k (List.mem_range.2 hlt)
    rw [hk, hl] at h3
    simp only [Bool.not_true, Bool.false_or] at h3
    obtain ⟨n, hn, rfl⟩ := Array.getElem_of_mem he
    have h4 := Array.all_eq_true.1 h3 n hn
    rw [hb] at h4
    simpa using h4
/-- Number i is taken first. -/
theorem wpAnyM_take {i : Nat} {oi : Oper} {v : Value} {fuel : Nat} {listed : Array Bool} {a : Act} {w : World} (hi : ops[i]? = some oi)
    (hs : Region.noSelect ops = true) (hf : Region.free md ops listed i = true) (hr : (Region.ready md ops listed).contains i = true) (hp : preOk md ops pre listed i = true)
    (hQ : ∀ c a w, Q (.panic c) (a.put oi.dst v) w → Q (.panic c) a w) (hy : YieldsIf P ops S oi v a) (hS : S w)
    (h : wpAnyM P md ops Q S pre fuel (listed.setIfInBounds i true) (a.put oi.dst v) w) : wpAnyM P md ops Q S pre (fuel + 1) listed a w :=
  wpAnyM_first hi (Region.noSelect_spec hs) hQ (preOk_spec hp).1 fuel listed a w (Region.free_spec hi hf) (preOk_spec hp).2 (by simpa using hr) hy hS h
/-- What yields in whatever world is taken first, and nothing is asked of the world. -/
theorem wpAnyM_value1 {i : Nat} {oi : Oper} {v : Value} (hi : ops[i]? = some oi) (hsel : ∀ (j : Nat) (o : Oper) cs b, ops[j]? = some o → o.op ≠ .select cs b)
    (hQ : ∀ c a w, Q (.panic c) (a.put oi.dst v) w → Q (.panic c) a w) (hp : pre i = false) :
    ∀ (fuel : Nat) (listed : Array Bool) (a : Act) (w : World),
      (∀ j oj, ops[j]? = some oj → j ≠ i → listed.getD j true = false → (∀ e ∈ oj.after, Region.binds md e = true → e.on ≠ i) → oi.apart ops oj = true) →
      i ∈ Region.ready md ops listed → YieldsIf P ops (fun _ => True) oi v a →
      wpAnyM P md ops Q S pre fuel (listed.setIfInBounds i true) (a.put oi.dst v) w → wpAnyM P md ops Q S pre (fuel + 1) listed a w := by
  have hno : ∀ w : World, pre i = true → S w := fun w h => by rw [hp] at h; cases h
  intro fuel
  induction fuel with
  | zero =>
    intro listed a w _ hr hy H
    refine ⟨fun h => (by rw [h] at hr; cases hr), fun j hj => ?_⟩
    by_cases hji : j = i
    · subst hji; exact hy.wpOp hi trivial ⟨hno w, H⟩
    · have := ready_mono hj hji
      rw [H.1] at this
      cases this
  | succ fuel ih =>
    intro listed a w hfree hr hy H
    refine ⟨fun h => (by rw [h] at hr; cases hr), fun j hj => ?_⟩
    by_cases hji : j = i
    · subst hji; exact hy.wpOp hi trivial ⟨hno w, H⟩
    · have h1 := H.2 j (ready_mono hj hji)
      obtain ⟨hjun, oj, hoj, hall⟩ := mem_ready.1 hj
      have hnot : ∀ e ∈ oj.after, Region.binds md e = true → e.on ≠ i := fun e he hb heq => by
        have h1 := hall e he hb
        have h0 := (mem_ready.1 hr).1
        rw [heq] at h1
        rcases Nat.lt_or_ge i listed.size with h' | h'
        · simp [h'] at h0 h1; rw [h0] at h1; cases h1
        · simp [Array.getElem?_eq_none h'] at h1
      have h2 := wpOp_putIf hoj (hfree j oj hoj hji hjun hnot) (fun cs b => hsel i oi cs b hi) (fun cs b => hsel j oj cs b hoj) hQ hy h1
      have hfree' : ∀ k ok, ops[k]? = some ok → k ≠ i → (listed.setIfInBounds j true).getD k true = false →
          (∀ e ∈ ok.after, Region.binds md e = true → e.on ≠ i) → oi.apart ops ok = true := fun k ok hk hki hun hno => by
        refine hfree k ok hk hki ?_ hno
        by_cases hjk : j = k
        · subst hjk; exact hjun
        · rw [getD_set_ne true hjk] at hun; exact hun
      refine wpOp_mono (fun a' w' h3 => ⟨h3.2.1, ih (listed.setIfInBounds j true) a' w' hfree' (ready_mono hr (Ne.symm hji)) h3.1 ?_⟩) h2
      rw [Array.setIfInBounds_comm _ _ hji]
      exact h3.2.2
theorem wpAnyM_value {i : Nat} {oi : Oper} {v : Value} {fuel : Nat} {listed : Array Bool} {a : Act} {w : World} (hi : ops[i]? = some oi)
    (hs : Region.noSelect ops = true) (hf : Region.free md ops listed i = true) (hr : (Region.ready md ops listed).contains i = true) (hp : pre i = false)
    (hQ : ∀ c a w, Q (.panic c) (a.put oi.dst v) w → Q (.panic c) a w) (hy : YieldsIf P ops (fun _ => True) oi v a)
    (h : wpAnyM P md ops Q S pre fuel (listed.setIfInBounds i true) (a.put oi.dst v) w) : wpAnyM P md ops Q S pre (fuel + 1) listed a w :=
  wpAnyM_value1 hi (Region.noSelect_spec hs) hQ hp fuel listed a w (Region.free_spec hi hf) (by simpa using hr) hy h
/-- One may come up. -/
theorem wpAnyM_one {i : Nat} {o : Oper} {fuel : Nat} {listed : Array Bool} {a : Act} {w : World} (hr : Region.ready md ops listed = [i]) (ho : ops[i]? = some o)
    (h : ∀ K' : Act → World → Prop, Shut (∀ a w, (pre i = true → S w) → wpAnyM P md ops Q S pre fuel (listed.setIfInBounds i true) a w → K' a w) → if Region.wanted o (yielded ops a.tmps) = true then Oper.wp P o a w K' Q else K' (a.put o.dst undef) w) :
    wpAnyM P md ops Q S pre (fuel + 1) listed a w := by
  refine ⟨fun h0 => (by rw [h0] at hr; cases hr), fun j hj => ?_⟩
  rw [hr] at hj
  obtain rfl : j = i := by simpa using hj
  exact wpOp_step ho (fun K' hK => h K' (fun a w hS hW => hK a w ⟨hS, hW⟩))
/-- Two may come up. -/
theorem wpAnyM_two {i j : Nat} {o o' : Oper} {fuel : Nat} {listed : Array Bool} {a : Act} {w : World} (hr : Region.ready md ops listed = [i, j]) (ho : ops[i]? = some o) (ho' : ops[j]? = some o')
    (h : ∀ K' : Act → World → Prop, Shut (∀ a w, (pre i = true → S w) → wpAnyM P md ops Q S pre fuel (listed.setIfInBounds i true) a w → K' a w) → if Region.wanted o (yielded ops a.tmps) = true then Oper.wp P o a w K' Q else K' (a.put o.dst undef) w)
    (h' : ∀ K' : Act → World → Prop, Shut (∀ a w, (pre j = true → S w) → wpAnyM P md ops Q S pre fuel (listed.setIfInBounds j true) a w → K' a w) → if Region.wanted o' (yielded ops a.tmps) = true then Oper.wp P o' a w K' Q else K' (a.put o'.dst undef) w) :
    wpAnyM P md ops Q S pre (fuel + 1) listed a w := by
  refine ⟨fun h0 => (by rw [h0] at hr; cases hr), fun k hk => ?_⟩
  rw [hr] at hk
  have hk' : k = i ∨ k = j := by simpa using hk
  by_cases hki : k = i
  · subst hki
    exact wpOp_step ho (fun K' hK => h K' (fun a w hS hW => hK a w ⟨hS, hW⟩))
  · obtain rfl : k = j := hk'.resolve_left hki
    exact wpOp_step ho' (fun K' hK => h' K' (fun a w hS hW => hK a w ⟨hS, hW⟩))
/-- All have come up. -/
theorem wpAnyM_done {listed : Array Bool} {a : Act} {w : World} (hr : Region.ready md ops listed = []) (h : Q .normal a w) :
    ∀ fuel, wpAnyM P md ops Q S pre fuel listed a w
  | 0 => ⟨hr, h⟩
  | _ + 1 => ⟨fun _ => h, by rw [hr]; simp⟩
theorem wp_region_M {id : Nat} {a : Act} {w : World} (pre : Nat → Bool) (S : World → Prop) (hm : P.follows .mixedOrders = true)
    (h : wpAnyM P .any ops Q S pre ops.size (Array.replicate ops.size false) a w.drew) : (Code.region id ops true).wp P Q a w :=
  wp_region_any hm (wpAny_of_M _ _ _ _ h)
end
end Go.Proofs.Ytgjjdmkoamjdpaa
/- JoL, what this seat can fill of it. -/
namespace Go.Proofs.Ytgjjdmkoamjdpaa
/- The steps of a pattern: step.Of. -/
open Go.RowKit Go.Maps

abbrev stV (s : Stp) : Value := .agg #[.string ⟨s.lab.toArray⟩, .int .i64 (s.fr : Int), .int .i64 (s.to : Int), .int .i64 (s.kn : Int)]
def stC (s : Stp) : List Value := [.string ⟨s.lab.toArray⟩, .int .i64 (s.fr : Int), .int .i64 (s.to : Int), .int .i64 (s.kn : Int)]
def stsC (l : List Stp) : List Value := l.flatMap stC
theorem stsC_app (a b : List Stp) : stsC (a ++ b) = stsC a ++ stsC b := List.flatMap_append
theorem stsC_len (l : List Stp) : (stsC l).length = l.length * 4 := by
  induction l with
  | nil => rfl
  | cons a l ih =>
    show (stC a ++ stsC l).length = _
    rw [List.length_append, ih, List.length_cons]
    show 4 + _ = _
    omega
theorem stsC_one (l : List Stp) : ∀ u ∈ stsC l, u.oneCell' = true := by
  intro u hu
  obtain ⟨s, _, hs⟩ := List.mem_flatMap.1 hu
  simp [stC] at hs
  rcases hs with rfl | rfl | rfl | rfl <;> rfl
theorem flat4_at {α : Type} (f : α → List Value) (hf : ∀ a, (f a).length = 4) : ∀ (l : List α) (k j : Nat) (hk : k < l.length), j < 4 → (l.flatMap f)[k * 4 + j]? = (f l[k])[j]?
  | [], k, _, hk, _ => absurd hk (by simp)
  | a :: l, 0, j, _, hj => by
    rw [List.flatMap_cons, Nat.zero_mul, Nat.zero_add, List.getElem?_append_left (by rw [hf]; exact hj)]
    rfl
  | a :: l, k + 1, j, hk, hj => by
    rw [List.flatMap_cons, List.getElem?_append_right (by rw [hf]; omega), hf]
    have e : (k + 1) * 4 + j - 4 = k * 4 + j := by omega
    rw [e, flat4_at f hf l k j (by simpa using hk) hj]
    rfl
theorem steps_at (vs : List Nm) : ∀ (ats : List Atm) (kn k : Nat) (hk : k < ats.length), (stepsK vs kn ats)[k]? = some (stepOf vs (knEnd kn ((stepsK vs kn ats).take k)) ats[k]) ∧ knEnd kn ((stepsK vs kn ats).take (k + 1)) = (stepOf vs (knEnd kn ((stepsK vs kn ats).take k)) ats[k]).next
  | [], _, k, hk => absurd hk (by simp)
  | a :: r, kn, 0, _ => ⟨rfl, rfl⟩
  | a :: r, kn, k + 1, hk => by
    have := steps_at vs r (stepOf vs kn a).next k (by simpa using hk)
    exact this
theorem steps_take {ats : List Atm} {k : Nat} (hk : k < ats.length) : (stepsL ats).take (k + 1) = (stepsL ats).take k ++ [stepOf (varsL ats) (knEnd 0 ((stepsL ats).take k)) ats[k]] := by
  have h := (steps_at (varsL ats) ats 0 k hk).1
  have hl : k < (stepsL ats).length := by unfold stepsL; rw [stepsK_len]; exact hk
  rw [List.take_succ_eq_append_getElem hl]
  congr 2
  have h2 := List.getElem?_eq_getElem hl
  unfold stepsL at h2 hl ⊢
  rw [h2] at h
  exact Option.some.inj h
theorem kn_take {ats : List Atm} {k : Nat} (hk : k < ats.length) : knEnd 0 ((stepsL ats).take (k + 1)) = (stepOf (varsL ats) (knEnd 0 ((stepsL ats).take k)) ats[k]).next := (steps_at (varsL ats) ats 0 k hk).2
theorem kn_le {ats : List Atm} (k : Nat) : knEnd 0 ((stepsL ats).take k) ≤ (varsL ats).length := by
  have h : ∀ (ss : List Stp) (kn k : Nat), ChainOk kn ss → knEnd kn (ss.take k) ≤ knEnd kn ss := by
    intro ss
    induction ss with
    | nil => intro kn k _; simp
    | cons s r ih =>
      intro kn k hc
      cases k with
      | zero =>
        show kn ≤ knEnd s.next r
        have h1 := knEnd_le r s.next hc.2.2.2
        have h2 : kn ≤ s.next := by have := hc.1; unfold Stp.next; omega
        omega
      | succ k => exact ih s.next k hc.2.2.2
  have := h (stepsL ats) 0 k (chain_ok ats)
  rw [knEnd_ok] at this
  exact this
theorem sts_own {w : World} {base c : Nat} {A : Option Addr} {l : List Nm} (h : w.ownsRow base 9 1 (.slice A l.length c) l.length (strs l)) (hl : l.length ≤ 100) : Sts w A c l := by
  obtain ⟨A', c', e, h1, _, h2⟩ := own_shape h
  injection e with e1 _ e2
  subst e1 e2
  exact ⟨h2, h1, hl⟩
theorem fr_grown {w w' : World} {v : Value} (h : w.grownBy w' v.ownBlock) : Fr w w' v.ownBlock.toList := by
  rcases ho : v.ownBlock with _ | g
  · rw [ho] at h; exact Fr.of_grown0 h _
  · rw [ho] at h; exact Fr.of_grown h
theorem set4c {w : World} {b : Nat} {t : TypeId} {x0 x1 x2 x3 : Value} (h : w.heap[b]? = some (.cells #[x0, x1, x2, x3] t (0, 0))) (v0 v1 v2 v3 : Value) :
    ((((w.setCell ⟨b, 0, none⟩ v0).setCell ⟨b, 1, none⟩ v1).setCell ⟨b, 2, none⟩ v2).setCell ⟨b, 3, none⟩ v3).heap[b]? = some (.cells #[v0, v1, v2, v3] t (0, 0)) :=
  heap_setCell_same _ b 3 _ _ v3 (heap_setCell_same _ b 2 _ _ v2 (heap_setCell_same _ b 1 _ _ v1 (heap_setCell_same _ b 0 _ _ v0 h)))
/-- A box just made is filled. -/
theorem box4 {W1 w : World} {b : Nat} {t : TypeId} {x0 x1 x2 x3 v0 v1 v2 v3 : Value} (hb : Below W1.heap.size W1 w) (h : w.heap[b]? = some (.cells #[x0, x1, x2, x3] t (0, 0)) ∧ W1.heap.size ≤ b) :
    ((((w.setCell ⟨b, 0, none⟩ v0).setCell ⟨b, 1, none⟩ v1).setCell ⟨b, 2, none⟩ v2).setCell ⟨b, 3, none⟩ v3).heap[b]? = some (.cells #[v0, v1, v2, v3] t (0, 0)) ∧ Below W1.heap.size W1 ((((w.setCell ⟨b, 0, none⟩ v0).setCell ⟨b, 1, none⟩ v1).setCell ⟨b, 2, none⟩ v2).setCell ⟨b, 3, none⟩ v3) :=
  ⟨set4c h.1 v0 v1 v2 v3, ((((hb.setCell h.2 _).setCell h.2 _).setCell h.2 _).setCell h.2 _)⟩
/-- What Of answers. -/
def OfPost (w : World) (ss : List Stp) (e : Ending) (w' : World) : Prop := ∃ A c, e = .returned (.slice A ss.length c) ∧ Rd w' w'.heap.size A (stsC ss) ∧ ss.length ≤ c ∧ Below w.heap.size w w'
end Go.Proofs.Ytgjjdmkoamjdpaa
/- JoM, what this seat can fill of it. -/
namespace Go.Proofs.Ytgjjdmkoamjdpaa
/- Edges in memory; join.once. -/
open Go.RowKit Go.Maps

def edC (e : Ed) : List Value := [.int .i64 e.f, .string ⟨e.lab.toArray⟩, .int .i64 e.t]
def edsC (l : List Ed) : List Value := l.flatMap edC
theorem edsC_app (a b : List Ed) : edsC (a ++ b) = edsC a ++ edsC b := List.flatMap_append
theorem edsC_len (l : List Ed) : (edsC l).length = l.length * 3 := by
  induction l with
  | nil => rfl
  | cons a l ih =>
    show (edC a ++ edsC l).length = _
    rw [List.length_append, ih, List.length_cons]
    show 3 + _ = _
    omega
theorem edsC_one (l : List Ed) : ∀ u ∈ edsC l, u.oneCell' = true := by
  intro u hu
  obtain ⟨s, _, hs⟩ := List.mem_flatMap.1 hu
  simp [edC] at hs
  rcases hs with rfl | rfl | rfl <;> rfl
/-- A list of edges in memory. -/
structure Eds (w : World) (A : Option Addr) (c : Nat) (l : List Ed) : Prop where
  rd : Rd w w.heap.size A (edsC l)
  cap : l.length ≤ c
  ok : ∀ e ∈ l, e.Ok
  sm : l.length ≤ 200
theorem Eds.below {w w' : World} {A : Option Addr} {c : Nat} {l : List Ed} (h : Eds w A c l) (hb : Below w.heap.size w w') : Eds w' A c l :=
  ⟨(h.rd.below hb (Nat.le_refl _)).more hb.size, h.cap, h.ok, h.sm⟩
theorem Eds.drewN {w : World} {A : Option Addr} {c : Nat} {l : List Ed} (h : Eds w A c l) (n : Nat) : Eds (w.drewN n) A c l := ⟨h.rd, h.cap, h.ok, h.sm⟩
theorem Eds.cell {w : World} {A : Option Addr} {c : Nat} {l : List Ed} (h : Eds w A c l) {k : Nat} (hk : k < l.length) : ∃ b o, A = some ⟨b, o, none⟩ ∧ b < w.heap.size ∧ w.cell? ⟨b, o + k * 3, none⟩ = some (.int .i64 l[k].f) ∧ w.cell? ⟨b, o + k * 3 + 1, none⟩ = some (.string ⟨l[k].lab.toArray⟩) ∧ w.cell? ⟨b, o + k * 3 + 2, none⟩ = some (.int .i64 l[k].t) := by
  have hne : edsC l ≠ [] := fun e => by have := edsC_len l; rw [e] at this; simp at this; omega
  obtain ⟨b, o, e, hb, hc⟩ := h.rd hne
  have hat := fun j hj => flat3_at edC (fun _ => rfl) l k j hk hj
  refine ⟨b, o, e, hb, hc (k * 3) _ (hat 0 (by omega)), ?_, ?_⟩
  · rw [Nat.add_assoc]; exact hc (k * 3 + 1) _ (hat 1 (by omega))
  · rw [Nat.add_assoc]; exact hc (k * 3 + 2) _ (hat 2 (by omega))
theorem infoEdge : (Try.prog.info? 34).map (fun i => (i.zero, i.size, i.bytes)) = some (some (.agg #[.int .i64 0, .string .empty, .int .i64 0]), 3, 32) := by kernel_rfl
/-- A set of edges in a map. -/
def SeenE (w : World) (b : Nat) (l : List Ed) : Prop := ∃ g, MapV w 34 b l.length g ∧ ∀ e : Ed, g (edV e) = if e ∈ l then some (.agg #[]) else none
theorem SeenE.made (w : World) : SeenE (w.alloc (.map #[] 0)) w.heap.size [] := ⟨_, MapV.made w _, fun _ => rfl⟩
theorem SeenE.fr {w w' : World} {b : Nat} {l : List Ed} {S : List Nat} (h : SeenE w b l) (hf : Fr w w' S) (hS : b ∉ S) : SeenE w' b l := by
  obtain ⟨g, h, hg⟩ := h
  exact ⟨g, h.fr hf hS, hg⟩
theorem SeenE.below {w w' : World} {b : Nat} {l : List Ed} (h : SeenE w b l) (hb : Below w.heap.size w w') : SeenE w' b l := h.fr (Fr.of_below hb []) (by simp)
theorem SeenE.ne {w : World} {b : Nat} {l : List Ed} (h : SeenE w b l) {q : Nat} {cs : Array Value} {t : TypeId} {fr : Nat × Nat} (hq : w.heap[q]? = some (.cells cs t fr)) : b ≠ q := by
  rintro rfl
  obtain ⟨g, ⟨D, ⟨es, clock, hb, _⟩, _⟩, _⟩ := h
  rw [hb] at hq
  cases hq
/-- Where once is. -/
structure OnceAt (w wr : World) (b : Nat) (v : Value) (l : List Ed) : Prop where
  row : wr.ownsRow w.heap.size 34 3 v l.length (edsC l)
  seen : SeenE wr b l
  lo : w.heap.size ≤ b
  below : Below w.heap.size w wr
theorem OnceAt.kept {w wr w' : World} {b : Nat} {v : Value} {l : List Ed} (h : OnceAt w wr b v l) (hb : Below wr.heap.size wr w') : OnceAt w w' b v l :=
  ⟨own_below h.row hb (Nat.le_refl _), h.seen.below hb, h.lo, h.below.trans (lower' hb h.below.size)⟩
theorem OnceAt.alloc {w wr : World} {b : Nat} {v : Value} {l : List Ed} (h : OnceAt w wr b v l) (o : Obj) : OnceAt w (wr.alloc o) b v l := h.kept ((Below.refl _ _).alloc (Nat.le_refl _) _)
/-- What once answers. -/
def OnPost (w : World) (l : List Ed) (e : Ending) (w' : World) : Prop := ∃ A c, e = .returned (.slice A l.length c) ∧ Eds w' A c l ∧ Below w.heap.size w w'
end Go.Proofs.Ytgjjdmkoamjdpaa
/- JoN, what this seat can fill of it. -/
namespace Go.Proofs.Ytgjjdmkoamjdpaa
/- A step's calls: Fitting, Told, Tells. -/
open Go.RowKit Go.Maps

def enC (e : Int × Int) : List Value := [.int .i64 e.1, .int .i64 e.2]
def ensC (l : List (Int × Int)) : List Value := l.flatMap enC
theorem ensC_app (a b : List (Int × Int)) : ensC (a ++ b) = ensC a ++ ensC b := List.flatMap_append
theorem ensC_len (l : List (Int × Int)) : (ensC l).length = l.length * 2 := by
  induction l with
  | nil => rfl
  | cons a l ih =>
    show (enC a ++ ensC l).length = _
    rw [List.length_append, ih, List.length_cons]
    show 2 + _ = _
    omega
theorem ensC_one (l : List (Int × Int)) : ∀ u ∈ ensC l, u.oneCell' = true := by
  intro u hu
  obtain ⟨s, _, hs⟩ := List.mem_flatMap.1 hu
  simp [enC] at hs
  rcases hs with rfl | rfl <;> rfl
theorem flat2_at {α : Type} (f : α → List Value) (hf : ∀ a, (f a).length = 2) : ∀ (l : List α) (k j : Nat) (hk : k < l.length), j < 2 → (l.flatMap f)[k * 2 + j]? = (f l[k])[j]?
  | [], k, _, hk, _ => absurd hk (by simp)
  | a :: l, 0, j, _, hj => by
    rw [List.flatMap_cons, Nat.zero_mul, Nat.zero_add, List.getElem?_append_left (by rw [hf]; exact hj)]
    rfl
  | a :: l, k + 1, j, hk, hj => by
    rw [List.flatMap_cons, List.getElem?_append_right (by rw [hf]; omega), hf]
    have e : (k + 1) * 2 + j - 2 = k * 2 + j := by omega
    rw [e, flat2_at f hf l k j (by simpa using hk) hj]
    rfl
/-- A list of ends in memory. -/
structure Ens (w : World) (A : Option Addr) (c : Nat) (l : List (Int × Int)) : Prop where
  rd : Rd w w.heap.size A (ensC l)
  cap : l.length ≤ c
theorem Ens.below {w w' : World} {A : Option Addr} {c : Nat} {l : List (Int × Int)} (h : Ens w A c l) (hb : Below w.heap.size w w') : Ens w' A c l := ⟨(h.rd.below hb (Nat.le_refl _)).more hb.size, h.cap⟩
theorem Ens.cell {w : World} {A : Option Addr} {c : Nat} {l : List (Int × Int)} (h : Ens w A c l) {k : Nat} (hk : k < l.length) : ∃ b o, A = some ⟨b, o, none⟩ ∧ b < w.heap.size ∧ w.cell? ⟨b, o + k * 2, none⟩ = some (.int .i64 l[k].1) ∧ w.cell? ⟨b, o + k * 2 + 1, none⟩ = some (.int .i64 l[k].2) := by
  have hne : ensC l ≠ [] := fun e => by have := ensC_len l; rw [e] at this; simp at this; omega
  obtain ⟨b, o, e, hb, hc⟩ := h.rd hne
  have hat := fun j hj => flat2_at enC (fun _ => rfl) l k j hk hj
  refine ⟨b, o, e, hb, hc (k * 2) _ (hat 0 (by omega)), ?_⟩
  rw [Nat.add_assoc]
  exact hc (k * 2 + 1) _ (hat 1 (by omega))
/-- What Fitting answers. -/
def FiPost (w : World) (l : List (Int × Int)) (e : Ending) (w' : World) : Prop := ∃ A c, e = .returned (.slice A l.length c) ∧ Ens w' A c l ∧ Below w.heap.size w w'
end Go.Proofs.Ytgjjdmkoamjdpaa
/- TupS, what this seat can fill of it. -/
namespace Go.Proofs.Ytgjjdmkoamjdpaa
/- Tuples, lists of them and deltas among the arguments, opened. -/
open Go.ChangeShapes Go.WideShapes Go.ChangeAt Go.RowKit Go.Deep
set_option maxRecDepth 100000

/-- A tuple of whatever length. -/
def TV.Raw (w : World) (t : TV) : Prop := Rd w w.heap.size t.A (intsV t.l) ∧ t.l.length ≤ t.c
theorem rd_addr {W : World} {x : Addr} {xs : List Value} (hcc : ∀ j u, xs[j]? = some u → W.cell? (x.add j) = some u) : Rd W W.heap.size (some x) xs := by
  by_cases hb : x.block < W.heap.size
  · exact Rd.ofAddr hb hcc
  · intro hn
    obtain ⟨y, r, hyr⟩ := List.exists_cons_of_ne_nil hn
    have := hcc 0 y (by rw [hyr]; rfl)
    have h2 := World.block_lt_of_cell? W _ this
    simp [Addr.add] at h2
    omega
theorem tuple_trod {H : Type} {enc : TypeId × Value → H} {W : World} {fuel : Nat} {v : Value} {y : DataW H × List MemPlace}
    (hf : DataW.trod enc Try.prog W 0 (fun _ => true) true fuel 63 [v] = some y) : ∃ t : TV, v = t.val ∧ t.Raw W := by
  rcases open_ints Try.underlying63 Try.underlying3 (by kernel_rfl) hf with ⟨hcs, _⟩ | ⟨x, len0, cap0, zs, hcs, _, hl, hm, hz, hx, hcell, hwz⟩
  · simp only [List.cons.injEq, and_true] at hcs
    subst hcs
    exact ⟨⟨none, [], 0⟩, rfl, Rd.emp _ _ _, Nat.le_refl _⟩
  · simp only [List.cons.injEq, and_true] at hcs
    subst hcs
    simp only [if_true] at hz
    have hll : (zs.take len0).length = len0 := by rw [List.length_take]; omega
    refine ⟨⟨some x, zs.take len0, cap0⟩, by unfold TV.val; rw [hll], rd_addr fun j u hu => ?_, by show (zs.take len0).length ≤ cap0; omega⟩
    have hj : j < (intsV (zs.take len0)).length := (List.getElem?_eq_some_iff.1 hu).1
    rw [intsV_len, hll] at hj
    rw [hcell j (by omega), ← hu]
    simp [intsV, hj, List.getElem?_eq_getElem (show j < zs.length by omega)]
theorem choose_rows {α : Type} [Inhabited α] {p : Nat → α → Prop} (m : Nat) (h : ∀ i, i < m → ∃ q, p i q) : ∃ L : List α, L.length = m ∧ ∀ i (hi : i < L.length), p i L[i] := by
  obtain ⟨f, hf⟩ := choose_lt h
  refine ⟨(List.range m).map f, by simp, fun i hi => ?_⟩
  simp only [List.getElem_map, List.getElem_range]
  exact hf i (by simpa using hi)
theorem tuples_trod {H : Type} {enc : TypeId × Value → H} {W : World} {fuel : Nat} {v : Value} {y : DataW H × List MemPlace}
    (hf : DataW.trod enc Try.prog W 0 (fun _ => true) true fuel 35 [v] = some y) : ∃ x : LV, v = .slice x.A x.ts.length x.c ∧ x.Raw W := by
  rcases open_slice1 Try.underlying35 (by kernel_rfl) hf with ⟨hcs, _⟩ | ⟨x, len, cap, m, n, V, D, Pl, hcs, _, hl, hm, hmm, hx, hel⟩
  · simp only [List.cons.injEq, and_true] at hcs
    subst hcs
    exact ⟨⟨none, [], 0⟩, rfl, Rd.emp _ _ _, fun _ h => (nomatch h), Nat.le_refl _⟩
  · simp only [List.cons.injEq, and_true] at hcs
    subst hcs
    simp only [if_true] at hmm
    subst hmm
    have hel2 : ∀ i, i < len → ∃ q : TV, V i = q.val ∧ q.Raw W := fun i hi => tuple_trod (hel i (by omega)).2
    obtain ⟨L, hL, hk⟩ := choose_rows len hel2
    subst hL
    refine ⟨⟨some x, L, m⟩, rfl, rd_addr fun j u hu => ?_, fun t ht => ?_, hl⟩
    · have hj : j < L.length := by have := (List.getElem?_eq_some_iff.1 hu).1; rw [vals_len] at this; exact this
      rw [(hel j (by omega)).1, ← hu, (hk j hj).1]
      simp [vals, hj]
    · obtain ⟨i, hi, rfl⟩ := List.mem_iff_getElem.1 ht
      exact (hk i hi).2
theorem open_tuple {H : Type} {enc : TypeId × Value → H} {W : World} {base : Nat} {v : Value} {d : DataW H} {p : List MemPlace} (hv : Value.okWide Try.prog W .any base 63 v)
    (h : DataW.Trod enc Try.prog W 0 (fun _ => true) true 63 v d p) : ∃ t : TV, v = .slice t.A t.l.length t.c ∧ t.Raw W := by
  obtain ⟨a0, len0, cap0, rfl⟩ := okWide_slice Try.underlying63 hv
  obtain ⟨fuel, hf⟩ := h
  exact tuple_trod hf
theorem open_tuples {H : Type} {enc : TypeId × Value → H} {W : World} {base : Nat} {v : Value} {d : DataW H} {p : List MemPlace} (hv : Value.okWide Try.prog W .any base 35 v)
    (h : DataW.Trod enc Try.prog W 0 (fun _ => true) true 35 v d p) : ∃ x : LV, v = .slice x.A x.ts.length x.c ∧ x.Raw W := by
  obtain ⟨a0, len0, cap0, rfl⟩ := okWide_slice Try.underlying35 hv
  obtain ⟨fuel, hf⟩ := h
  exact tuples_trod hf
theorem trod_struct2 {H : Type} {enc : TypeId × Value → H} {P : Program} {w : World} {base : Nat} {spare : Nat → Bool} {held : Bool} {t : TypeId} {f0 f1 : Field} {fuel : Nat} {cs : List Value} {x : DataW H × List MemPlace}
    (ht : P.underlying t = some (.struct #[f0, f1])) (h : DataW.trod enc P w base spare held fuel t cs = some x) :
    ∃ y0 y1 n, DataW.trod enc P w base spare held n f0.type ((cs.drop f0.offset).take (P.cellsOf f0.type)) = some y0 ∧
      DataW.trod enc P w base spare held n f1.type ((cs.drop f1.offset).take (P.cellsOf f1.type)) = some y1 := by
  obtain ⟨xs, n, _, rfl, hl, hlen, hf⟩ := DataW.trod_struct ht h
  match xs, hlen with
  | [y0, y1], _ => exact ⟨y0, y1, n, by simpa using hf 0 f0 rfl, by simpa using hf 1 f1 rfl⟩
end Go.Proofs.Ytgjjdmkoamjdpaa
/- TupT, what this seat can fill of it. -/
namespace Go.Proofs.Ytgjjdmkoamjdpaa
/- The law's spoil. -/
open Go.RowKit Go.Maps

/-- spoil's state: a list of the call's own, some of its tuples turned; of the elder blocks just those of S have turned. -/
structure SpAt (w wr : World) (lo : Nat) (v : Value) (S : List Nat) (us : List TV) : Prop where
  row : OwnT wr lo v us
  tup : ∀ u ∈ us, OwnI wr lo u
  off : us.Pairwise Off
  fr : Fr w wr S
  inS : ∀ u ∈ us, ∀ a, u.A = some a → a.block ∈ S ∨ w.heap.size ≤ a.block
  rowS : ∀ s ∈ v.ownBlock.toList, s ∈ S
theorem off_get {us : List TV} (h : us.Pairwise Off) {i j : Nat} (hi : i < us.length) (hj : j < us.length) (hne : i ≠ j) : Off us[i] us[j] := by
  rw [List.pairwise_iff_getElem] at h
  rcases Nat.lt_or_gt_of_ne hne with h1 | h1
  · exact h i j hi hj h1
  · exact (h j i hj hi h1).symm
theorem mem_set_ix {us : List TV} {i : Nat} {u t : TV} (hi : i < us.length) (ht : t ∈ us.set i u) : t = u ∨ ∃ j, ∃ hj : j < us.length, j ≠ i ∧ t = us[j] := by
  obtain ⟨j, hj, rfl⟩ := List.getElem_of_mem ht
  rw [List.length_set] at hj
  by_cases e : j = i
  · subst e; left; simp
  · right; exact ⟨j, hj, e, by rw [List.getElem_set_ne (Ne.symm e)]⟩
theorem off_set {us : List TV} {i : Nat} {u : TV} (h : us.Pairwise Off) (hi : i < us.length) (hu : ∀ j (hj : j < us.length), j ≠ i → Off u us[j]) : (us.set i u).Pairwise Off := by
  rw [List.pairwise_iff_getElem]
  intro a b ha hb hab
  rw [List.length_set] at ha hb
  by_cases ea : a = i
  · subst ea
    rw [List.getElem_set_self, List.getElem_set_ne (by omega)]
    exact hu b (by simpa using hb) (by omega)
  · rw [List.getElem_set_ne (by omega)]
    by_cases eb : b = i
    · subst eb
      rw [List.getElem_set_self]
      exact (hu a (by simpa using ha) ea).symm
    · rw [List.getElem_set_ne (by omega)]
      exact off_get h (by simpa using ha) (by simpa using hb) (by omega)
theorem vals_set (us : List TV) (i : Nat) (u : TV) : vals (us.set i u) = (vals us).set i u.val := by simp [vals, List.map_set]
theorem intsV_set (l : Tu) (k : Nat) (z : Int) : intsV (l.set k z) = (intsV l).set k (.int .i64 z) := by simp [intsV, List.map_set]
/-- A number of a tuple is turned. -/
theorem SpAt.tick {w wr : World} {lo : Nat} {v : Value} {S : List Nat} {us : List TV} (h : SpAt w wr lo v S us) {i : Nat} (hi : i < us.length) {g : Nat} (hA : us[i].A = some ⟨g, 0, none⟩) (k : Nat) (z : Int) :
    SpAt w (wr.setCell ⟨g, k, none⟩ (.int .i64 z)) lo v S (us.set i ⟨us[i].A, us[i].l.set k z, us[i].c⟩) := by
  have hm := List.getElem_mem hi
  have ho : wr.ownsRow lo 3 1 (.slice (some ⟨g, 0, none⟩) us[i].l.length us[i].c) us[i].l.length (intsV us[i].l) := by
    have := h.tup _ hm
    unfold OwnI TV.val at this
    rw [hA] at this
    exact this
  obtain ⟨hst, hgr⟩ := World.ownsRow.stored ho k (.int .i64 z)
  have hfr := Fr.of_grown hgr
  have hrow := rowFrS h.row hfr fun s hs hms => own_apart ho h.row (by decide) g (by simp [Value.ownBlock]) (by rw [← List.mem_singleton.1 hms]; exact hs)
  have hval : (TV.mk us[i].A (us[i].l.set k z) us[i].c).val = us[i].val := by unfold TV.val; simp
  refine ⟨?_, fun t ht => ?_, off_set h.off hi fun j hj hne => ?_, h.fr.more hfr fun s hs => ?_, fun t ht => ?_, h.rowS⟩
  · unfold OwnT
    rw [List.length_set, vals_set, hval]
    have e : (vals us).set i us[i].val = vals us := by
      apply List.ext_getElem?
      intro j
      rw [List.getElem?_set]
      by_cases ej : i = j
      · subst ej
        simp [vals, hi]
      · rw [if_neg ej]
    rw [e]
    exact hrow
  · rcases mem_set_ix hi ht with rfl | ⟨j, hj, hne, rfl⟩
    · unfold OwnI TV.val
      dsimp only
      rw [List.length_set, intsV_set, hA]
      exact hst
    · refine (h.tup _ (List.getElem_mem hj)).fr hfr fun a ha hms => ?_
      exact off_get h.off hi hj (Ne.symm hne) _ a hA ha (List.mem_singleton.1 hms).symm
  · intro a b ha hb
    exact off_get h.off hi hj (Ne.symm hne) a b ha hb
  · rw [List.mem_singleton.1 hs]
    exact h.inS _ hm _ hA
  · rcases mem_set_ix hi ht with rfl | ⟨j, hj, hne, rfl⟩
    · exact fun a ha => h.inS _ hm a ha
    · exact h.inS _ (List.getElem_mem hj)
/-- append of a number onto a tuple of the call's own. -/
theorem run_app99 (W : World) (lo : Nat) (x : TV) (hx : OwnI W lo x) (hs : x.l.length ≤ 5000) (hl : lo ≤ W.heap.size) (z : Int) :
    ∃ u : TV, ∃ w', (Builtin.append_ #[63, 63] 63 #[.slice x.A x.l.length x.c, .slice (some ⟨W.heap.size, 0, none⟩) 1 1]).run Try.prog (W.alloc (.cells #[.int .i64 z] 3)) = .ok (.slice u.A u.l.length u.c) w' ∧ u.l = x.l ++ [z] ∧ OwnI w' lo u ∧
      (W.alloc (.cells #[.int .i64 z] 3)).grownBy w' x.val.ownBlock ∧ (u.val.ownBlock = x.val.ownBlock ∨ u.val.ownBlock = some (W.heap.size + 1)) := by
  obtain ⟨i0, hi, hz0, hz1, hz2⟩ := info_parts infoInt
  have h0 := World.ownsRow.alloc hx (.cells #[.int .i64 z] 3)
  obtain ⟨v', w', h1, h2, h3, h4⟩ := run_appR (P := Try.prog) (W.alloc (.cells #[.int .i64 z] 3)) lo 63 63 3 i0 _ 1 8 Try.underlying63 hi hz0 hz1 hz2 rfl (by omega) _ x.l.length (intsV x.l) h0 (W.heap.size + 1) (some ⟨W.heap.size, 0, none⟩) 1 1 (intsV [z]) rfl (Rd.new W #[.int .i64 z] 3 (0, 0)) (intsV_one _) (by omega) (by omega) (by simp; omega)
  obtain ⟨A, c, rfl, _, _, _⟩ := own_shape h2
  rw [alloc1_size] at h4
  refine ⟨⟨A, x.l ++ [z], c⟩, w', ?_, rfl, ?_, h3, ?_⟩
  · rw [List.length_append]; exact h1
  · unfold OwnI TV.val
    dsimp only
    rw [List.length_append]
    have e : intsV (x.l ++ [z]) = intsV x.l ++ intsV [z] := by simp [intsV]
    rw [e]
    exact h2
  · unfold TV.val
    dsimp only
    rw [List.length_append]
    exact h4
theorem SpAt.app {w wr w5 : World} {lo : Nat} {S : List Nat} {us : List TV} {gr c i : Nat} {z : Int} {u : TV} (h : SpAt w wr lo (.slice (some ⟨gr, 0, none⟩) us.length c) S us) (hi : i < us.length) (ho : OwnI w5 lo u)
    (hg : (wr.alloc (.cells #[.int .i64 z] 3)).grownBy w5 us[i].val.ownBlock) (hat : u.val.ownBlock = us[i].val.ownBlock ∨ u.val.ownBlock = some (wr.heap.size + 1)) :
    SpAt w (w5.setCell ⟨gr, i, none⟩ (.slice u.A u.l.length u.c)) lo (.slice (some ⟨gr, 0, none⟩) us.length c) S (us.set i u) := by
  have hm := List.getElem_mem hi
  have hb1 : Below wr.heap.size wr (wr.alloc (.cells #[.int .i64 z] 3)) := (Below.refl _ _).alloc (Nat.le_refl _) _
  have hf1 : Fr (wr.alloc (.cells #[.int .i64 z] 3)) w5 us[i].val.ownBlock.toList := by
    rcases e : us[i].val.ownBlock with _ | g
    · rw [e] at hg; exact Fr.of_grown0 hg _
    · rw [e] at hg; exact Fr.of_grown hg
  have hti := OwnI.below (h.tup _ hm) hb1
  have hrow5 : OwnT w5 lo (.slice (some ⟨gr, 0, none⟩) us.length c) us := rowFrS (own_below h.row hb1 (Nat.le_refl _)) hf1 fun s hs hms => own_apart hti (own_below h.row hb1 (Nat.le_refl _)) (by decide) s hms hs
  obtain ⟨hst, hgr⟩ := World.ownsRow.stored hrow5 i u.val
  have hf2 := Fr.of_grown hgr
  have hrS := h.rowS gr (by simp [Value.ownBlock])
  have hapart : ∀ t : TV, OwnI w5 lo t → ∀ a, t.A = some a → a.block ∉ [gr] := fun t ht a ha hms =>
    own_apart ht hrow5 (by decide) a.block (by unfold TV.val; rw [ha]; simp [Value.ownBlock]) (by rw [List.mem_singleton.1 hms]; simp [Value.ownBlock])
  have hblk : ∀ t : TV, ∀ b, t.val.ownBlock = some b ↔ ∃ a, t.A = some a ∧ a.block = b := fun t b => by
    unfold TV.val
    rcases t.A with _ | a <;> simp [Value.ownBlock]
  have h5j : ∀ j (hj : j < us.length), j ≠ i → OwnI w5 lo us[j] := fun j hj hne => (OwnI.below (h.tup _ (List.getElem_mem hj)) hb1).fr hf1 fun a ha hms => by
    rcases e : us[i].val.ownBlock with _ | g
    · rw [e] at hms; simp at hms
    · rw [e] at hms
      simp at hms
      obtain ⟨a', ha', hb'⟩ := (hblk us[i] g).1 e
      exact off_get h.off hi hj (Ne.symm hne) a' a ha' ha (by rw [hb', hms])
  refine ⟨?_, fun t ht => ?_, off_set h.off hi fun j hj hne => ?_, ?_, fun t ht => ?_, h.rowS⟩
  · unfold OwnT
    rw [List.length_set, vals_set]
    exact hst
  · rcases mem_set_ix hi ht with rfl | ⟨j, hj, hne, rfl⟩
    · exact ho.fr hf2 (hapart _ ho)
    · exact (h5j j hj hne).fr hf2 (hapart _ (h5j j hj hne))
  · intro a b ha hb e
    rcases hat with e1 | e1
    · obtain ⟨a', ha', hb'⟩ := (hblk us[i] a.block).1 (by rw [← e1]; exact (hblk u a.block).2 ⟨a, ha, rfl⟩)
      exact off_get h.off hi hj (Ne.symm hne) a' b ha' hb (by rw [hb', e])
    · have h2 := (hblk u a.block).2 ⟨a, ha, rfl⟩
      rw [e1] at h2
      injection h2 with h2
      have h3 := ((h.tup _ (List.getElem_mem hj)).lo b hb).2
      omega
  · have f1 : Fr wr w5 us[i].val.ownBlock.toList := (Fr.of_below hb1 _).trans hf1
    have f2 := h.fr.more f1 fun s hs => by
      obtain ⟨a, ha, hb⟩ := (hblk us[i] s).1 (by simpa using hs)
      rw [← hb]
      exact h.inS _ hm a ha
    exact f2.more hf2 fun s hs => by rw [List.mem_singleton.1 hs]; exact .inl hrS
  · rcases mem_set_ix hi ht with rfl | ⟨j, hj, hne, rfl⟩
    · intro a ha
      rcases hat with e1 | e1
      · obtain ⟨a', ha', hb'⟩ := (hblk us[i] a.block).1 (by rw [← e1]; exact (hblk t a.block).2 ⟨a, ha, rfl⟩)
        rw [← hb']
        exact h.inS _ hm a' ha'
      · have h2 := (hblk t a.block).2 ⟨a, ha, rfl⟩
        rw [e1] at h2
        injection h2 with h2
        have := h.fr.size
        exact .inr (by omega)
    · exact h.inS _ (List.getElem_mem hj)
/-- All blocks of a list and its tuples. -/
def blksL (x : LV) : List Nat := x.val.ownBlock.toList ++ x.ts.flatMap fun t => t.val.ownBlock.toList
theorem SpAt.start {w : World} {lo : Nat} {x : LV} (h : OwnL w lo x.val x.ts) : SpAt w w lo x.val (blksL x) x.ts := by
  refine ⟨h.row, h.tup, h.off, Fr.refl _ _, fun u hu a ha => .inl ?_, fun s hs => List.mem_append.2 (.inl hs)⟩
  refine List.mem_append.2 (.inr (List.mem_flatMap.2 ⟨u, hu, ?_⟩))
  unfold TV.val
  rw [ha]
  simp [Value.ownBlock]
theorem blksL_rng {w : World} {lo m : Nat} {x : LV} (h : OwnL w lo x.val x.ts) (hm : LtB x m) : ∀ s ∈ blksL x, lo ≤ s ∧ s < m := by
  intro s hs
  rcases List.mem_append.1 hs with hs | hs
  · have h1 := (World.ownsRow.lt h.row s (by simpa using hs)).1
    refine ⟨h1, ?_⟩
    rcases hA : x.A with _ | a
    · unfold LV.val at hs; rw [hA] at hs; simp [Value.ownBlock] at hs
    · unfold LV.val at hs; rw [hA] at hs; simp [Value.ownBlock] at hs
      rw [hs]; exact hm.1 a hA
  · obtain ⟨t, ht, hs⟩ := List.mem_flatMap.1 hs
    rcases hA : t.A with _ | a
    · unfold TV.val at hs; rw [hA] at hs; simp [Value.ownBlock] at hs
    · unfold TV.val at hs; rw [hA] at hs; simp [Value.ownBlock] at hs
      rw [hs]
      exact ⟨((h.tup t ht).lo a hA).1, hm.2 t ht a hA⟩
end Go.Proofs.Ytgjjdmkoamjdpaa
/- TupU, what this seat can fill of it. -/
namespace Go.Proofs.Ytgjjdmkoamjdpaa
/- What the laws of this layer share: few of some lists. -/
open Go.RowKit Go.Maps

theorem fewB_mem {ls : List LV} (h : fewB ls = true) {x : LV} (hx : x ∈ ls) : fewL x = true := List.all_eq_true.1 h x hx
theorem de_fix {w' : World} {lo m : Nat} {x y : LV} (p1 : OwnL w' lo x.val x.ts) (p3 : LtB x m) (p4 : lo ≤ m) (p5 : OwnL w' m y.val y.ts) (h : lo ≤ w'.heap.size) : ∃ k, LtB x k ∧ lo ≤ k ∧ OwnL w' k y.val y.ts ∧ k ≤ w'.heap.size := by
  have q := p1.lt
  refine ⟨min m w'.heap.size, ⟨fun a ha => ?_, fun t ht a ha => ?_⟩, by omega, p5.mono (Nat.min_le_left _ _), Nat.min_le_right _ _⟩
  · have := p3.1 a ha
    have := q.1 a ha
    omega
  · have := p3.2 t ht a ha
    have := q.2 t ht a ha
    omega
end Go.Proofs.Ytgjjdmkoamjdpaa
