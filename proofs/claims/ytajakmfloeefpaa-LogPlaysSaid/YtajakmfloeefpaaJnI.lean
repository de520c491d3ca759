/- Joined: LogZ OrdM LogAA LogAB RefI RefJ ImgV. -/
import Derived.Test.YtajakmfloeefpaaJnG
import Derived.Test.YtajakmfloeefpaaJnH
import Derived.Test.YtajakmfloeefpaaJnA
import Derived.Deep.RegionHeld
import Derived.Deep.CutBlock
import Derived.Deep.CutRange
import Derived.Deep.LoopGhost
import Derived.Deep.RegionHeld3
/- The law's Same (layer 4): records against the document's. -/
namespace Go.Proofs.Ytajakmfloeefpaa
open Go.RowKit Go.Maps

theorem recC_two (R : List RecR) : ∀ (i : Nat) (h : i < R.length), (recC R)[i * 2]? = some (.int .i64 (R[i].s : Int)) ∧ (recC R)[i * 2 + 1]? = some (.slice R[i].A R[i].d.length R[i].c) := by
  induction R with
  | nil => intro i h; cases h
  | cons a R ih =>
    intro i h
    cases i with
    | zero => exact ⟨rfl, rfl⟩
    | succ i =>
      have := ih i (by simpa using h)
      simp only [recC, List.flatMap_cons] at this ⊢
      rw [show (i + 1) * 2 = i * 2 + 1 + 1 by omega]
      simpa [RecR.cells] using this
theorem recs_at {w : World} {lo n c : Nat} {A : Option Addr} {rs : List Rec} (h : RecsAt w lo (.slice A n c) rs) {j : Nat} (hj : j < rs.length) : ∃ ab ao A1 c1, A = some ⟨ab, ao, none⟩ ∧ ab < w.heap.size ∧ w.cell? ⟨ab, ao + j * 2, none⟩ = some (.int .i64 (rs[j].1 : Int)) ∧ w.cell? ⟨ab, ao + j * 2 + 1, none⟩ = some (.slice A1 rs[j].2.length c1) ∧ Rd w w.heap.size A1 (u8s rs[j].2) := by
  obtain ⟨R, h1, h2, h4⟩ := h.ex
  obtain ⟨A', c', e, _, _, h3⟩ := own_shape h2
  cases e
  have hjR : j < R.length := by rw [← h1, List.length_map] at hj; exact hj
  obtain ⟨ab, ao, rfl, hab, hcc⟩ := h3 (by intro e; have := recC_len R; rw [e] at this; simp at this; omega)
  obtain ⟨hc0, hc1⟩ := recC_two R j hjR
  have e : rs[j] = (R[j].s, R[j].d) := by
    have : rs[j]? = some (R[j].s, R[j].d) := by rw [← h1, List.getElem?_map, List.getElem?_eq_getElem hjR]; rfl
    rw [List.getElem?_eq_getElem hj] at this
    exact Option.some.inj this
  rw [e]
  exact ⟨ab, ao, R[j].A, R[j].c, rfl, hab, hcc _ _ hc0, by rw [Nat.add_assoc]; exact hcc _ _ hc1, (h4 _ (List.getElem_mem hjR)).1⟩
set_option maxRecDepth 100000 in
set_option maxHeartbeats 2000000 in
theorem same4_any {w : World} {lo B : Nat} (rs : List Rec) (A : Option Addr) (c : Nat) (A' : Option Addr) (c' : Nat) (hP : RecsAt w lo (.slice A rs.length c) rs) (hS : Rd w B A' (recS rs)) (hn : rs.length ≤ 4096) (n : Nat) (hn2 : n = rs.length) :
    Calls Try.prog 20 #[.slice A n c, .slice A' n c'] w fun e w' => e = .returned (.bool true) ∧ Below w.heap.size w w' := by
  have HP := Lib.hid (And.intro hP (And.intro hS hn2))
  have hnI : (n : Int) ≤ 4096 := by omega
  clear hP hS hn hn2
  go_enter Try.func20, Try.ntmps20
  go_wp2_with (fail)
  go_loopw [5, 13] (fun _ i wr => ∃ k : Nat, k ≤ n ∧ i = .int .i64 (k : Int) ∧ ∃ m, wr = w.drewN m)
    (fun _ i _ => n - (intOf i).toNat)
  case atStart => exact ⟨0, by omega, rfl, 0, rfl⟩
  case round =>
    obtain ⟨k, hk, rfl, m, rfl⟩ := hrel
    by_cases hkM : k < n
    · have hkI : (k : Int) < (n : Int) := by omega
      have hkP : k < rs.length := by have := HP.out.2.2; omega
      obtain ⟨pb, po, A1, c1, rfl, _, d0, d1, hr1⟩ := recs_at HP.out.1 hkP
      obtain ⟨qb, qo, rfl, _, e0, e1⟩ := recS_at HP.out.2.1 hkP
      generalize rs[k] = x at d0 d1 hr1 e0 e1
      obtain ⟨s, d⟩ := x
      simp only at d0 d1 hr1 e0 e1
      have g0 : (w.drewN m).cell? ⟨pb, po + k * 2, none⟩ = some (.int .i64 (s : Int)) := d0
      have g1 : (w.drewN m).cell? ⟨pb, po + k * 2 + 1, none⟩ = some (.slice A1 d.length c1) := d1
      have g2 : (w.drewN m).cell? ⟨qb, qo + k * 2, none⟩ = some (.int .i64 (s : Int)) := e0
      have g3 : (w.drewN m).cell? ⟨qb, qo + k * 2 + 1, none⟩ = some (.string ⟨d.toArray⟩) := e1
      have hs1 : ∀ n, (convert 45 9 (.slice A1 d.length c1)).run Try.prog ((w.drewN m).drewN n) = .ok (.string ⟨d.toArray⟩) ((w.drewN m).drewN n) := fun n => strAt ((hr1.drewN m).drewN n) rfl
      have hbb : Below w.heap.size w (w.drewN m) := below_draws (Below.refl _ _) m
      have HX := Lib.hid (And.intro hkM hbb)
      have HE : ∀ j, ∃ m', (w.drewN m).drewN j = w.drewN m' := fun j => ⟨m + j, by simp [World.drewN, Nat.add_assoc]⟩
      have HE2 := Lib.hid HE
      clear hr1 d0 d1 e0 e1 hk hkM hkP hbb HE
      generalize w.drewN m = W at g0 g1 g2 g3 hs1 HX HE2 ⊢
      go_upto_region 6 with (fail)
      go_quiet (fail)
      go_wp2_with (fail)
      exact ⟨⟨k + 1, HX.out.1, by simp, HE2.out nq⟩, by simp [intOf]; have := HX.out.1; omega⟩
    · have hkI : ¬ (k : Int) < (n : Int) := by omega
      clear hk hkM
      go_wp2_with (fail)
      go_ret
      exact ⟨rfl, below_draws (Below.refl _ _) m⟩
end Go.Proofs.Ytajakmfloeefpaa
/- A region that draws its order, whose loads are taken first under a condition on the world that holds till they are all done: what comes behind them (a store into what they read) need not keep it. -/
namespace Go.Proofs.Ytajakmfloeefpaa
open Go.RowKit Go.Maps

section
variable {P : Program} {ops : Array Oper} {Q : Exit → Act → World → Prop} {md : Region.Mode} {S : World → Prop} {pre : Nat → Bool}
/-- Whatever order is picked from here on, and S holds behind each operation that 'pre' names. -/
def wpAnyM (P : Program) (md : Region.Mode) (ops : Array Oper) (Q : Exit → Act → World → Prop) (S : World → Prop) (pre : Nat → Bool) : Nat → Array Bool → Act → World → Prop
  | 0, listed, a, w => Region.ready md ops listed = [] ∧ Q .normal a w
  | fuel + 1, listed, a, w =>
    (Region.ready md ops listed = [] → Q .normal a w) ∧
    ∀ i ∈ Region.ready md ops listed, wpOp P ops Q i (fun a' w' => (pre i = true → S w') ∧ wpAnyM P md ops Q S pre fuel (listed.setIfInBounds i true) a' w') a w
theorem wpAny_of_M : ∀ (fuel : Nat) (listed : Array Bool) (a : Act) (w : World), wpAnyM P md ops Q S pre fuel listed a w → wpAny P md ops Q fuel listed a w
  | 0, _, _, _, h => h
  | fuel + 1, _, _, _, h => ⟨h.1, fun i hi => wpOp_mono (fun a' w' h' => wpAny_of_M fuel _ a' w' h'.2) (h.2 i hi)⟩
/-- Number j waits for number i, over at most n others. -/
def waits (md : Region.Mode) (ops : Array Oper) (i : Nat) : Nat → Nat → Bool
  | 0, _ => false
  | n + 1, j => match ops[j]? with
    | some o => o.after.any fun e => Region.binds md e && (e.on == i || waits md ops i n e.on)
    | none => false
def Closed (md : Region.Mode) (ops : Array Oper) (listed : Array Bool) : Prop := ∀ k ok, ops[k]? = some ok → listed.getD k false = true → ∀ e ∈ ok.after, Region.binds md e = true → listed.getD e.on false = true
theorem getD_up {listed : Array Bool} {j k : Nat} (h : listed.getD k false = true) : (listed.setIfInBounds j true).getD k false = true := by
  by_cases hjk : j = k
  · subst hjk
    have hlt : j < listed.size := by
      rcases Nat.lt_or_ge j listed.size with h' | h'
      · exact h'
      · simp [Array.getElem?_eq_none h'] at h
    simp [hlt]
  · rw [getD_set_ne false hjk]; exact h
theorem Closed.up {listed : Array Bool} {j : Nat} {oj : Oper} (h : Closed md ops listed) (hj : ops[j]? = some oj) (hall : ∀ e ∈ oj.after, Region.binds md e = true → listed.getD e.on false = true) : Closed md ops (listed.setIfInBounds j true) := by
  intro k ok hk hl e he hb
  by_cases hjk : j = k
  · subst hjk
    rw [hj] at hk
    cases hk
    exact getD_up (hall e he hb)
  · rw [getD_set_ne false hjk] at hl
    exact getD_up (h k ok hk hl e he hb)
theorem waits_listed {listed : Array Bool} {i : Nat} (h : Closed md ops listed) : ∀ (n j : Nat) (oj : Oper), ops[j]? = some oj → (∀ e ∈ oj.after, Region.binds md e = true → listed.getD e.on false = true) → waits md ops i n j = true → listed.getD i false = true
  | 0, _, _, _, _, hw => by simp [waits] at hw
  | n + 1, j, oj, hj, hall, hw => by
    rw [waits, hj] at hw
    obtain ⟨k, hk, he⟩ := Array.any_eq_true.1 hw
    simp only [Bool.and_eq_true, Bool.or_eq_true, beq_iff_eq] at he
    have h1 := hall _ (Array.getElem_mem hk) he.1
    rcases he.2 with h2 | h2
    · rw [← h2]; exact h1
    · cases hon : ops[(oj.after[k]).on]? with
      | none =>
        cases n with
        | zero => simp [waits] at h2
        | succ n => rw [waits, hon] at h2; cases h2
      | some o2 => exact waits_listed h n _ o2 hon (h _ o2 hon h1) h2
theorem wpAnyM_first {i : Nat} {oi : Oper} {v : Value} (hi : ops[i]? = some oi) (hsel : ∀ (j : Nat) (o : Oper) cs b, ops[j]? = some o → o.op ≠ .select cs b)
    (hQ : ∀ c a w, Q (.panic c) (a.put oi.dst v) w → Q (.panic c) a w) (hpre : ∀ j oj, ops[j]? = some oj → j ≠ i → pre j = true ∨ waits md ops i ops.size j = true) :
    ∀ (fuel : Nat) (listed : Array Bool) (a : Act) (w : World),
      (∀ j oj, ops[j]? = some oj → j ≠ i → listed.getD j true = false → (∀ e ∈ oj.after, Region.binds md e = true → e.on ≠ i) → oi.apart ops oj = true) → Closed md ops listed →
      i ∈ Region.ready md ops listed → YieldsIf P ops S oi v a → S w →
      wpAnyM P md ops Q S pre fuel (listed.setIfInBounds i true) (a.put oi.dst v) w → wpAnyM P md ops Q S pre (fuel + 1) listed a w := by
  intro fuel
  induction fuel with
  | zero =>
    intro listed a w _ _ hr hy hS H
    refine ⟨fun h => (by rw [h] at hr; cases hr), fun j hj => ?_⟩
    by_cases hji : j = i
    · subst hji; exact hy.wpOp hi hS ⟨fun _ => hS, H⟩
    · have := ready_mono hj hji
      rw [H.1] at this
      cases this
  | succ fuel ih =>
    intro listed a w hfree hcl hr hy hS H
    refine ⟨fun h => (by rw [h] at hr; cases hr), fun j hj => ?_⟩
    by_cases hji : j = i
    · subst hji; exact hy.wpOp hi hS ⟨fun _ => hS, H⟩
    · have h1 := H.2 j (ready_mono hj hji)
      obtain ⟨hjun, oj, hoj, hall⟩ := mem_ready.1 hj
      have hun0 : listed.getD i false = true → False := fun h1 => by
        have h0 := (mem_ready.1 hr).1
        rcases Nat.lt_or_ge i listed.size with h' | h'
        · simp [h'] at h0 h1; rw [h0] at h1; cases h1
        · simp [Array.getElem?_eq_none h'] at h1
      have hnot : ∀ e ∈ oj.after, Region.binds md e = true → e.on ≠ i := fun e he hb heq => by
        have h1 := hall e he hb
        rw [heq] at h1
        exact hun0 h1
      have h2 := wpOp_putIf hoj (hfree j oj hoj hji hjun hnot) (fun cs b => hsel i oi cs b hi) (fun cs b => hsel j oj cs b hoj) hQ hy h1
      have hfree' : ∀ k ok, ops[k]? = some ok → k ≠ i → (listed.setIfInBounds j true).getD k true = false →
          (∀ e ∈ ok.after, Region.binds md e = true → e.on ≠ i) → oi.apart ops ok = true := fun k ok hk hki hun hno => by
        refine hfree k ok hk hki ?_ hno
        by_cases hjk : j = k
        · subst hjk; exact hjun
        · rw [getD_set_ne true hjk] at hun; exact hun
      have hp : pre j = true := (hpre j oj hoj hji).resolve_right fun hw => hun0 (waits_listed hcl _ j oj hoj hall hw)
      refine wpOp_mono (fun a' w' h3 => ⟨h3.2.1, ih (listed.setIfInBounds j true) a' w' hfree' (hcl.up hoj hall) (ready_mono hr (Ne.symm hji)) h3.1 (h3.2.1 hp) ?_⟩) h2
      rw [Array.setIfInBounds_comm _ _ hji]
      exact h3.2.2
/-- Each operation that does not wait for number i is one that 'pre' names; what has come up had waited for nobody else. -/
def preOk (md : Region.Mode) (ops : Array Oper) (pre : Nat → Bool) (listed : Array Bool) (i : Nat) : Bool :=
  ((List.range ops.size).all fun j => j == i || pre j || waits md ops i ops.size j) &&
  ((List.range ops.size).all fun k => !listed.getD k false || match ops[k]? with
    | some o => o.after.all fun e => !Region.binds md e || listed.getD e.on false
    | none => true)
theorem preOk_spec {listed : Array Bool} {i : Nat} (h : preOk md ops pre listed i = true) : (∀ j oj, ops[j]? = some oj → j ≠ i → pre j = true ∨ waits md ops i ops.size j = true) ∧ Closed md ops listed := by
  obtain ⟨h1, h2⟩ := (Bool.and_eq_true _ _).mp h
  constructor
  · intro j oj hj hji
    have hlt : j < ops.size := (Array.getElem?_eq_some_iff.1 hj).1
    have h3 := List.all_eq_true.1 h1 j (List.mem_range.2 hlt)
    simpa only [Bool.or_eq_true, beq_iff_eq, hji, false_or] using h3
  · intro k ok hk hl e he hb
    have hlt : k < ops.size := (Array.getElem?_eq_some_iff.1 hk).1
    have h3 := List.all_eq_true.1 h2 k (List.mem_range.2 hlt)
    rw [hk, hl] at h3
    simp only [Bool.not_true, Bool.false_or] at h3
    obtain ⟨n, hn, rfl⟩ := Array.getElem_of_mem he
    have h4 := Array.all_eq_true.1 h3 n hn
    rw [hb] at h4
    simpa using h4
/-- Number i is taken first. -/
theorem wpAnyM_take {i : Nat} {oi : Oper} {v : Value} {fuel : Nat} {listed : Array Bool} {a : Act} {w : World} (hi : ops[i]? = some oi)
    (hs : Region.noSelect ops = true) (hf : Region.free md ops listed i = true) (hr : (Region.ready md ops listed).contains i = true) (hp : preOk md ops pre listed i = true)
    (hQ : ∀ c a w, Q (.panic c) (a.put oi.dst v) w → Q (.panic c) a w) (hy : YieldsIf P ops S oi v a) (hS : S w)
    (h : wpAnyM P md ops Q S pre fuel (listed.setIfInBounds i true) (a.put oi.dst v) w) : wpAnyM P md ops Q S pre (fuel + 1) listed a w :=
  wpAnyM_first hi (Region.noSelect_spec hs) hQ (preOk_spec hp).1 fuel listed a w (Region.free_spec hi hf) (preOk_spec hp).2 (by simpa using hr) hy hS h
/-- What yields in whatever world is taken first, and nothing is asked of the world. -/
theorem wpAnyM_value1 {i : Nat} {oi : Oper} {v : Value} (hi : ops[i]? = some oi) (hsel : ∀ (j : Nat) (o : Oper) cs b, ops[j]? = some o → o.op ≠ .select cs b)
    (hQ : ∀ c a w, Q (.panic c) (a.put oi.dst v) w → Q (.panic c) a w) (hp : pre i = false) :
    ∀ (fuel : Nat) (listed : Array Bool) (a : Act) (w : World),
      (∀ j oj, ops[j]? = some oj → j ≠ i → listed.getD j true = false → (∀ e ∈ oj.after, Region.binds md e = true → e.on ≠ i) → oi.apart ops oj = true) →
      i ∈ Region.ready md ops listed → YieldsIf P ops (fun _ => True) oi v a →
      wpAnyM P md ops Q S pre fuel (listed.setIfInBounds i true) (a.put oi.dst v) w → wpAnyM P md ops Q S pre (fuel + 1) listed a w := by
  have hno : ∀ w : World, pre i = true → S w := fun w h => by rw [hp] at h; cases h
  intro fuel
  induction fuel with
  | zero =>
    intro listed a w _ hr hy H
    refine ⟨fun h => (by rw [h] at hr; cases hr), fun j hj => ?_⟩
    by_cases hji : j = i
    · subst hji; exact hy.wpOp hi trivial ⟨hno w, H⟩
    · have := ready_mono hj hji
      rw [H.1] at this
      cases this
  | succ fuel ih =>
    intro listed a w hfree hr hy H
    refine ⟨fun h => (by rw [h] at hr; cases hr), fun j hj => ?_⟩
    by_cases hji : j = i
    · subst hji; exact hy.wpOp hi trivial ⟨hno w, H⟩
    · have h1 := H.2 j (ready_mono hj hji)
      obtain ⟨hjun, oj, hoj, hall⟩ := mem_ready.1 hj
      have hnot : ∀ e ∈ oj.after, Region.binds md e = true → e.on ≠ i := fun e he hb heq => by
        have h1 := hall e he hb
        have h0 := (mem_ready.1 hr).1
        rw [heq] at h1
        rcases Nat.lt_or_ge i listed.size with h' | h'
        · simp [h'] at h0 h1; rw [h0] at h1; cases h1
        · simp [Array.getElem?_eq_none h'] at h1
      have h2 := wpOp_putIf hoj (hfree j oj hoj hji hjun hnot) (fun cs b => hsel i oi cs b hi) (fun cs b => hsel j oj cs b hoj) hQ hy h1
      have hfree' : ∀ k ok, ops[k]? = some ok → k ≠ i → (listed.setIfInBounds j true).getD k true = false →
          (∀ e ∈ ok.after, Region.binds md e = true → e.on ≠ i) → oi.apart ops ok = true := fun k ok hk hki hun hno => by
        refine hfree k ok hk hki ?_ hno
        by_cases hjk : j = k
        · subst hjk; exact hjun
        · rw [getD_set_ne true hjk] at hun; exact hun
      refine wpOp_mono (fun a' w' h3 => ⟨h3.2.1, ih (listed.setIfInBounds j true) a' w' hfree' (ready_mono hr (Ne.symm hji)) h3.1 ?_⟩) h2
      rw [Array.setIfInBounds_comm _ _ hji]
      exact h3.2.2
theorem wpAnyM_value {i : Nat} {oi : Oper} {v : Value} {fuel : Nat} {listed : Array Bool} {a : Act} {w : World} (hi : ops[i]? = some oi)
    (hs : Region.noSelect ops = true) (hf : Region.free md ops listed i = true) (hr : (Region.ready md ops listed).contains i = true) (hp : pre i = false)
    (hQ : ∀ c a w, Q (.panic c) (a.put oi.dst v) w → Q (.panic c) a w) (hy : YieldsIf P ops (fun _ => True) oi v a)
    (h : wpAnyM P md ops Q S pre fuel (listed.setIfInBounds i true) (a.put oi.dst v) w) : wpAnyM P md ops Q S pre (fuel + 1) listed a w :=
  wpAnyM_value1 hi (Region.noSelect_spec hs) hQ hp fuel listed a w (Region.free_spec hi hf) (by simpa using hr) hy h
/-- One may come up. -/
theorem wpAnyM_one {i : Nat} {o : Oper} {fuel : Nat} {listed : Array Bool} {a : Act} {w : World} (hr : Region.ready md ops listed = [i]) (ho : ops[i]? = some o)
    (h : ∀ K' : Act → World → Prop, Shut (∀ a w, (pre i = true → S w) → wpAnyM P md ops Q S pre fuel (listed.setIfInBounds i true) a w → K' a w) → if Region.wanted o (yielded ops a.tmps) = true then Oper.wp P o a w K' Q else K' (a.put o.dst undef) w) :
    wpAnyM P md ops Q S pre (fuel + 1) listed a w := by
  refine ⟨fun h0 => (by rw [h0] at hr; cases hr), fun j hj => ?_⟩
  rw [hr] at hj
  obtain rfl : j = i := by simpa using hj
  exact wpOp_step ho (fun K' hK => h K' (fun a w hS hW => hK a w ⟨hS, hW⟩))
/-- Two may come up. -/
theorem wpAnyM_two {i j : Nat} {o o' : Oper} {fuel : Nat} {listed : Array Bool} {a : Act} {w : World} (hr : Region.ready md ops listed = [i, j]) (ho : ops[i]? = some o) (ho' : ops[j]? = some o')
    (h : ∀ K' : Act → World → Prop, Shut (∀ a w, (pre i = true → S w) → wpAnyM P md ops Q S pre fuel (listed.setIfInBounds i true) a w → K' a w) → if Region.wanted o (yielded ops a.tmps) = true then Oper.wp P o a w K' Q else K' (a.put o.dst undef) w)
    (h' : ∀ K' : Act → World → Prop, Shut (∀ a w, (pre j = true → S w) → wpAnyM P md ops Q S pre fuel (listed.setIfInBounds j true) a w → K' a w) → if Region.wanted o' (yielded ops a.tmps) = true then Oper.wp P o' a w K' Q else K' (a.put o'.dst undef) w) :
    wpAnyM P md ops Q S pre (fuel + 1) listed a w := by
  refine ⟨fun h0 => (by rw [h0] at hr; cases hr), fun k hk => ?_⟩
  rw [hr] at hk
  have hk' : k = i ∨ k = j := by simpa using hk
  by_cases hki : k = i
  · subst hki
    exact wpOp_step ho (fun K' hK => h K' (fun a w hS hW => hK a w ⟨hS, hW⟩))
  · obtain rfl : k = j := hk'.resolve_left hki
    exact wpOp_step ho' (fun K' hK => h' K' (fun a w hS hW => hK a w ⟨hS, hW⟩))
/-- All have come up. -/
theorem wpAnyM_done {listed : Array Bool} {a : Act} {w : World} (hr : Region.ready md ops listed = []) (h : Q .normal a w) :
    ∀ fuel, wpAnyM P md ops Q S pre fuel listed a w
  | 0 => ⟨hr, h⟩
  | _ + 1 => ⟨fun _ => h, by rw [hr]; simp⟩
theorem wp_region_M {id : Nat} {a : Act} {w : World} (pre : Nat → Bool) (S : World → Prop) (hm : P.follows .mixedOrders = true)
    (h : wpAnyM P .any ops Q S pre ops.size (Array.replicate ops.size false) a w.drew) : (Code.region id ops true).wp P Q a w :=
  wp_region_any hm (wpAny_of_M _ _ _ _ h)
end
end Go.Proofs.Ytajakmfloeefpaa
/- The document's log: append of a copy of records and one more, in each order. -/
namespace Go.Proofs.Ytajakmfloeefpaa
open Go.RowKit Go.Maps

theorem infoRec4 : (Try.prog.info? 80).map (fun i => (i.zero, i.size, i.bytes)) = some (some (.agg #[.int .i64 0, .string .empty]), 2, 24) := by kernel_rfl
theorem recS_append (r r' : List Rec) : recS (r ++ r') = recS r ++ recS r' := by simp [recS]
theorem recS_one (r : List Rec) : ∀ u ∈ recS r, u.oneCell' = true := by
  intro u hu
  obtain ⟨x, _, hx⟩ := List.mem_flatMap.1 hu
  simp at hx
  rcases hx with rfl | rfl <;> rfl
section
variable {W W' w5 : World} {B n c : Nat} {A : Option Addr} {P : List Rec} {x : Rec} {g b : Nat}
/-- append of records onto an empty row. -/
theorem app_recs (hW : Below W.heap.size W W') (hown : W'.ownsRow W.heap.size 80 2 (.slice (some ⟨g, 0, none⟩) 0 0) 0 []) (hr : Rd W B A (recS P)) (hB : B ≤ W.heap.size) (hn : P.length ≤ 100000) :
    ∃ A5 c5 w5, (Builtin.append_ #[40, 40] 40 #[.slice (some ⟨g, 0, none⟩) 0 0, .slice A P.length c]).run Try.prog W' = .ok (.slice A5 P.length c5) w5 ∧ w5.ownsRow W.heap.size 80 2 (.slice A5 P.length c5) P.length (recS P) ∧ W'.grownBy w5 (some g) := by
  obtain ⟨i, hi, hz0, hz1, hz2⟩ := info_parts infoRec4
  obtain ⟨v', w', hrun, h1, h2, h3⟩ := run_appR (P := Try.prog) W' W.heap.size 40 40 80 i _ 2 24 Try.underlying40 hi hz0 hz1 hz2 rfl (by omega) _ 0 [] hown W'.heap.size A P.length c (recS P) (recS_len P) ((hr.below hW hB).more (Nat.le_trans hB hW.size)) (recS_one P) (by omega) (by omega) hW.size
  rw [Nat.zero_add, List.nil_append] at h1
  obtain ⟨A', c', rfl, _, _, _⟩ := own_shape h1
  exact ⟨A', c', w', hrun, h1, h2⟩
/-- append of one record onto those. -/
theorem app_one (hW : Below W.heap.size W W') (hown : W'.ownsRow W.heap.size 80 2 (.slice A P.length c) P.length (recS P)) (hx : Rd W' W'.heap.size (some ⟨b, 0, none⟩) (recS [x])) (hn : P.length ≤ 100000) :
    ∃ A6 c6 w6, (Builtin.append_ #[40, 40] 40 #[.slice A P.length c, .slice (some ⟨b, 0, none⟩) 1 1]).run Try.prog W' = .ok (.slice A6 (P.length + 1) c6) w6 ∧ w6.ownsRow W.heap.size 80 2 (.slice A6 (P.length + 1) c6) (P.length + 1) (recS (P ++ [x])) ∧ Below W.heap.size W w6 := by
  obtain ⟨i, hi, hz0, hz1, hz2⟩ := info_parts infoRec4
  obtain ⟨v', w', hrun, h1, h2, h3⟩ := run_appR (P := Try.prog) W' W.heap.size 40 40 80 i _ 2 24 Try.underlying40 hi hz0 hz1 hz2 rfl (by omega) _ P.length (recS P) hown W'.heap.size (some ⟨b, 0, none⟩) 1 1 (recS [x]) rfl hx (recS_one [x]) (by omega) (by omega) hW.size
  obtain ⟨A', c', rfl, _, _, _⟩ := own_shape h1
  rw [← recS_append] at h1
  exact ⟨A', c', w', hrun, h1, hW.trans (grown_below' h2 (fun z hz => (World.ownsRow.lt hown z hz).1) hW.size)⟩
theorem rd_recs_new (w : World) (x : Rec) : Rd (w.alloc (.cells #[.int .i64 (x.1 : Int), .string ⟨x.2.toArray⟩] 80)) (w.alloc (.cells #[.int .i64 (x.1 : Int), .string ⟨x.2.toArray⟩] 80)).heap.size (some ⟨w.heap.size, 0, none⟩) (recS [x]) := by
  rw [alloc1_size]
  exact Rd.new w #[.int .i64 (x.1 : Int), .string ⟨x.2.toArray⟩] 80 (0, 0)
theorem rd_kept {w w' : World} {r : Option Nat} {b : Nat} {xs : List Value} (h : Rd w w.heap.size (some ⟨b, 0, none⟩) xs) (hg : w.grownBy w' r) (hr : r ≠ some b) : Rd w' w'.heap.size (some ⟨b, 0, none⟩) xs := by
  intro hn
  obtain ⟨b', o, e, hb, hc⟩ := h hn
  cases e
  exact ⟨b, 0, rfl, Nat.lt_of_lt_of_le hb hg.size, fun j u hu => (World.cell?_of_block (hg.block b hb (fun e => hr e.symm))).trans (hc j u hu)⟩
/-- What both appends leave. -/
def Both2 (W : World) (A : Option Addr) (c : Nat) (P : List Rec) (x : Rec) (g b : Nat) (W1 : World) (mid : World → World) (bm : World → Nat) : Prop :=
  ∃ A5 c5 w5 A6 c6 w6, (Builtin.append_ #[40, 40] 40 #[.slice (some ⟨g, 0, none⟩) 0 0, .slice A P.length c]).run Try.prog W1 = .ok (.slice A5 P.length c5) w5 ∧ (Builtin.append_ #[40, 40] 40 #[.slice A5 P.length c5, .slice (some ⟨bm w5, 0, none⟩) 1 1]).run Try.prog (mid w5) = .ok (.slice A6 (P.length + 1) c6) w6 ∧ w6.ownsRow W.heap.size 80 2 (.slice A6 (P.length + 1) c6) (P.length + 1) (recS (P ++ [x])) ∧ Below W.heap.size W w6 ∧ Below W.heap.size W w5
abbrev rcO (x : Rec) : Obj := .cells #[.int .i64 (x.1 : Int), .string ⟨x.2.toArray⟩] 80
abbrev nlO : Obj := .cells #[] 80
/-- The empty row, the copy, the new one, the append. -/
theorem order1 (hr : Rd W B A (recS P)) (hB : B ≤ W.heap.size) (hn : P.length ≤ 100000) (x : Rec) : Both2 W A c P x W.heap.size 0 (W.alloc nlO) (fun w => w.alloc (rcO x)) (fun w => w.heap.size) := by
  have hb1 : Below W.heap.size W (W.alloc nlO) := (Below.refl _ _).alloc (Nat.le_refl _) _
  obtain ⟨A5, c5, w5, hrun, hown, hg⟩ := app_recs (A := A) (c := c) hb1 (own_lit0 W (Nat.le_refl _)) hr hB hn
  have hb5 : Below W.heap.size W w5 := hb1.trans (grown_below' hg (fun k hk => by cases hk; exact Nat.le_refl _) hb1.size)
  obtain ⟨A6, c6, w6, hrun6, hown6, hb6⟩ := app_one (b := w5.heap.size) (x := x) (hb5.alloc hb5.size (rcO x)) (World.ownsRow.alloc hown _) (rd_recs_new w5 x) hn
  exact ⟨A5, c5, w5, A6, c6, w6, hrun, hrun6, hown6, hb6, hb5⟩
/-- The empty row, the new one, the copy, the append. -/
theorem order2 (hr : Rd W B A (recS P)) (hB : B ≤ W.heap.size) (hn : P.length ≤ 100000) (x : Rec) : Both2 W A c P x W.heap.size 0 ((W.alloc nlO).alloc (rcO x)) (fun w => w) (fun _ => (W.alloc nlO).heap.size) := by
  have hb1 : Below W.heap.size W ((W.alloc nlO).alloc (rcO x)) := ((Below.refl _ _).alloc (Nat.le_refl _) _).alloc (by simp) _
  obtain ⟨A5, c5, w5, hrun, hown, hg⟩ := app_recs (A := A) (c := c) hb1 (World.ownsRow.alloc (own_lit0 W (Nat.le_refl _)) _) hr hB hn
  have hb5 : Below W.heap.size W w5 := hb1.trans (grown_below' hg (fun k hk => by cases hk; exact Nat.le_refl _) hb1.size)
  obtain ⟨A6, c6, w6, hrun6, hown6, hb6⟩ := app_one (b := (W.alloc nlO).heap.size) (x := x) hb5 hown (rd_kept (rd_recs_new (W.alloc nlO) x) hg (by simp)) hn
  exact ⟨A5, c5, w5, A6, c6, w6, hrun, hrun6, hown6, hb6, hb5⟩
/-- The new one, the empty row, the copy, the append. -/
theorem order3 (hr : Rd W B A (recS P)) (hB : B ≤ W.heap.size) (hn : P.length ≤ 100000) (x : Rec) : Both2 W A c P x (W.alloc (rcO x)).heap.size 0 ((W.alloc (rcO x)).alloc nlO) (fun w => w) (fun _ => W.heap.size) := by
  have hb0 : Below W.heap.size W (W.alloc (rcO x)) := (Below.refl _ _).alloc (Nat.le_refl _) _
  have hb1 : Below W.heap.size W ((W.alloc (rcO x)).alloc nlO) := hb0.alloc (by simp) _
  have hrd := rd_recs_new W x
  have hrd1 : Rd ((W.alloc (rcO x)).alloc nlO) ((W.alloc (rcO x)).alloc nlO).heap.size (some ⟨W.heap.size, 0, none⟩) (recS [x]) := (hrd.alloc (Nat.le_refl _) _).more (by simp)
  obtain ⟨A5, c5, w5, hrun, hown, hg⟩ := app_recs (A := A) (c := c) hb1 (own_lit0 (W.alloc (rcO x)) (by simp)) hr hB hn
  have hb5 : Below W.heap.size W w5 := hb1.trans (grown_below' hg (fun k hk => by cases hk; simp) hb1.size)
  obtain ⟨A6, c6, w6, hrun6, hown6, hb6⟩ := app_one (b := W.heap.size) (x := x) hb5 hown (rd_kept hrd1 hg (by simp)) hn
  exact ⟨A5, c5, w5, A6, c6, w6, hrun, hrun6, hown6, hb6, hb5⟩
/-- The same, of a world behind a draw, as a walk spells it. -/
theorem order1d (hr : Rd W B A (recS P)) (hB : B ≤ W.heap.size) (hn : P.length ≤ 100000) (s : Nat) (d : List UInt8) :
    ∃ A5 c5 w5 A6 c6 w6, (Builtin.append_ #[40, 40] 40 #[.slice (some ⟨W.heap.size, 0, none⟩) 0 0, .slice A P.length c]).run Try.prog (W.alloc (.cells #[] 80)).drew = .ok (.slice A5 P.length c5) w5 ∧ (Builtin.append_ #[40, 40] 40 #[.slice A5 P.length c5, .slice (some ⟨w5.heap.size, 0, none⟩) 1 1]).run Try.prog (w5.alloc (.cells #[.int .i64 (s : Int), .string ⟨d.toArray⟩] 80)) = .ok (.slice A6 (P.length + 1) c6) w6 ∧ w6.ownsRow W.heap.size 80 2 (.slice A6 (P.length + 1) c6) (P.length + 1) (recS (P ++ [(s, d)])) ∧ Below W.heap.size W w6 ∧ Below W.heap.size W w5 := by
  obtain ⟨A5, c5, w5, A6, c6, w6, h1, h2, h3, h4, h5⟩ := order1 (W := W.drew) (A := A) (c := c) hr hB hn (s, d)
  exact ⟨A5, c5, w5, A6, c6, w6, h1, h2, h3, ⟨h4.os, h4.tape, h4.output, h4.size, h4.block⟩, ⟨h5.os, h5.tape, h5.output, h5.size, h5.block⟩⟩
theorem order2d (hr : Rd W B A (recS P)) (hB : B ≤ W.heap.size) (hn : P.length ≤ 100000) (s : Nat) (d : List UInt8) :
    ∃ A5 c5 w5 A6 c6 w6, (Builtin.append_ #[40, 40] 40 #[.slice (some ⟨W.heap.size, 0, none⟩) 0 0, .slice A P.length c]).run Try.prog ((W.alloc (.cells #[] 80)).alloc (.cells #[.int .i64 (s : Int), .string ⟨d.toArray⟩] 80)).drew = .ok (.slice A5 P.length c5) w5 ∧ (Builtin.append_ #[40, 40] 40 #[.slice A5 P.length c5, .slice (some ⟨W.heap.size + 1, 0, none⟩) 1 1]).run Try.prog w5 = .ok (.slice A6 (P.length + 1) c6) w6 ∧ w6.ownsRow W.heap.size 80 2 (.slice A6 (P.length + 1) c6) (P.length + 1) (recS (P ++ [(s, d)])) ∧ Below W.heap.size W w6 ∧ Below W.heap.size W w5 := by
  obtain ⟨A5, c5, w5, A6, c6, w6, h1, h2, h3, h4, h5⟩ := order2 (W := W.drew) (A := A) (c := c) hr hB hn (s, d)
  have e : (W.drew.alloc nlO).heap.size = W.heap.size + 1 := alloc1_size W.drew nlO
  rw [e] at h2
  exact ⟨A5, c5, w5, A6, c6, w6, h1, h2, h3, ⟨h4.os, h4.tape, h4.output, h4.size, h4.block⟩, ⟨h5.os, h5.tape, h5.output, h5.size, h5.block⟩⟩
theorem order3d (hr : Rd W B A (recS P)) (hB : B ≤ W.heap.size) (hn : P.length ≤ 100000) (s : Nat) (d : List UInt8) :
    ∃ A5 c5 w5 A6 c6 w6, (Builtin.append_ #[40, 40] 40 #[.slice (some ⟨W.heap.size + 1, 0, none⟩) 0 0, .slice A P.length c]).run Try.prog ((W.alloc (.cells #[.int .i64 (s : Int), .string ⟨d.toArray⟩] 80)).alloc (.cells #[] 80)).drew = .ok (.slice A5 P.length c5) w5 ∧ (Builtin.append_ #[40, 40] 40 #[.slice A5 P.length c5, .slice (some ⟨W.heap.size, 0, none⟩) 1 1]).run Try.prog w5 = .ok (.slice A6 (P.length + 1) c6) w6 ∧ w6.ownsRow W.heap.size 80 2 (.slice A6 (P.length + 1) c6) (P.length + 1) (recS (P ++ [(s, d)])) ∧ Below W.heap.size W w6 ∧ Below W.heap.size W w5 := by
  obtain ⟨A5, c5, w5, A6, c6, w6, h1, h2, h3, h4, h5⟩ := order3 (W := W.drew) (A := A) (c := c) hr hB hn (s, d)
  have e : (W.drew.alloc (rcO (s, d))).heap.size = W.heap.size + 1 := alloc1_size W.drew (rcO (s, d))
  rw [e] at h1
  exact ⟨A5, c5, w5, A6, c6, w6, h1, h2, h3, ⟨h4.os, h4.tape, h4.output, h4.size, h4.block⟩, ⟨h5.os, h5.tape, h5.output, h5.size, h5.block⟩⟩
end
end Go.Proofs.Ytajakmfloeefpaa
/- The document's log: Read. -/
namespace Go.Proofs.Ytajakmfloeefpaa
open Go.RowKit Go.Maps

theorem grown_of_fr {w w' : World} {p : Nat} (h : Fr w w' [p]) : w.grownBy w' (some p) := ⟨h.os, h.tape, h.output, h.size, fun k hk hs => h.block k hk (fun hm => hs (by rw [List.mem_singleton.1 hm]))⟩
def recN : Option Rec → Nat
  | none => 0
  | some x => x.1
def recD : Option Rec → List UInt8
  | none => []
  | some x => x.2
def recB : Option Rec → Bool
  | none => false
  | some _ => true
theorem recOV_eq (X : Option Rec) : recOV X = .tuple #[.agg #[(.int .i64 (recN X : Int)), (.string ⟨(recD X).toArray⟩)], .bool (recB X)] := by
  rcases X with _ | ⟨s, d⟩ <;> rfl
def nxtN (P : List Rec) : Nat := (nextR none P).getD 1
abbrev dkO (s0 f0 : Value) (A : Option Addr) (N c : Nat) (st lf : Int) : Obj := .cells #[s0, .slice A N c, f0, .int .i64 st, .int .i64 lf] 33
abbrev lgO (first count : Nat) (A : Option Addr) (n c nx : Nat) : Obj := .cells #[.int .i64 (first : Int), .int .i64 (count : Int), .slice A n c, .int .i64 (nx : Int)] 42
/-- Where Read's loop is: the disk's box, the result's, the log's with the records that are read. -/
structure RdL (w wr : World) (dk : Obj) (first count : Nat) (P : List Rec) (nx : Nat) : Prop where
  dbox : wr.heap[w.heap.size]? = some dk
  res : wr.heap[w.heap.size + 1]? = some (.cells #[.int .i64 0, .int .i64 0, .slice none 0 0, .int .i64 0] 42 (0, 0))
  box : ∃ A c, wr.heap[w.heap.size + 2]? = some (lgO first count A P.length c nx) ∧ wr.ownsRow (w.heap.size + 3) 80 2 (.slice A P.length c) P.length (recS P)
  below : Below w.heap.size w wr
  size : w.heap.size + 3 ≤ wr.heap.size
theorem RdL.kept {w wr w' : World} {dk : Obj} {first count nx : Nat} {P : List Rec} (h : RdL w wr dk first count P nx) (hb : Below wr.heap.size wr w') : RdL w w' dk first count P nx := by
  obtain ⟨A, c, hg, ho⟩ := h.box
  exact ⟨(hb.block _ (heap_lt h.dbox)).trans h.dbox, (hb.block _ (heap_lt h.res)).trans h.res, ⟨A, c, (hb.block _ (heap_lt hg)).trans hg, own_below ho hb (Nat.le_refl _)⟩, h.below.trans (lower' hb h.below.size), Nat.le_trans h.size hb.size⟩
/-- The records are others now. -/
theorem RdL.put {w wr w' : World} {dk : Obj} {first count nx : Nat} {P P' : List Rec} (h : RdL w wr dk first count P nx) (hb : Below wr.heap.size wr w') {A : Option Addr} {c : Nat} (ho : w'.ownsRow wr.heap.size 80 2 (.slice A P'.length c) P'.length (recS P')) :
    RdL w (w'.setCell ⟨w.heap.size + 2, 2, none⟩ (.slice A P'.length c)) dk first count P' nx := by
  have h2 := h.kept hb
  obtain ⟨A0, c0, hg, _⟩ := h2.box
  have hf : Fr w' (w'.setCell ⟨w.heap.size + 2, 2, none⟩ (.slice A P'.length c)) [w.heap.size + 2] := (Fr.refl _ _).setCell (by simp) _
  have hset := heap_setCell_same w' (w.heap.size + 2) 2 _ _ (.slice A P'.length c) hg
  refine ⟨(hf.block _ (heap_lt h2.dbox) (by simp)).trans h2.dbox, (hf.block _ (heap_lt h2.res) (by simp)).trans h2.res, ⟨A, c, by simpa using hset, ?_⟩, h2.below.trans (hf.below h2.below.size (by simp)), by have := hf.size; have := h2.size; omega⟩
  have ho' := own_mono ho h.size
  exact own_keptBy (g := w.heap.size + 2) ho' (grown_of_fr hf) (by omega)
/-- The next number is another. -/
theorem RdL.next {w wr : World} {dk : Obj} {first count nx : Nat} {P : List Rec} (h : RdL w wr dk first count P nx) (n2 : Nat) : RdL w (wr.setCell ⟨w.heap.size + 2, 3, none⟩ (.int .i64 (n2 : Int))) dk first count P n2 := by
  obtain ⟨A0, c0, hg, ho⟩ := h.box
  have hf : Fr wr (wr.setCell ⟨w.heap.size + 2, 3, none⟩ (.int .i64 (n2 : Int))) [w.heap.size + 2] := (Fr.refl _ _).setCell (by simp) _
  have hset := heap_setCell_same wr (w.heap.size + 2) 3 _ _ (.int .i64 (n2 : Int)) hg
  exact ⟨(hf.block _ (heap_lt h.dbox) (by simp)).trans h.dbox, (hf.block _ (heap_lt h.res) (by simp)).trans h.res, ⟨A0, c0, by simpa using hset, own_keptBy (g := w.heap.size + 2) ho (grown_of_fr hf) (by omega)⟩, h.below.trans (hf.below h.below.size (by simp)), by have := hf.size; have := h.size; omega⟩
/-- What the loop has come to. -/
structure RdP (g : Nat → List UInt8) (first behind : Nat) (P : List Rec) : Prop where
  sc : scan g behind first none = P ++ scan g behind (endR first P) (nextR none P)
  le : endR first P ≤ behind
  dat : ∀ x ∈ P, x.2.length ≤ 4000
  nx : nxtN P ≤ 4611686018427387905
theorem RdP.add {g : Nat → List UInt8} {first behind : Nat} {P : List Rec} (h : RdP g first behind P) (hg : ∀ i, i < behind → (g i).length = 64) {s : Nat} {d : List UInt8} (hr : recO g (endR first P) behind = some (s, d)) (hn : P = [] ∨ s = nxtN P) : RdP g first behind (P ++ [(s, d)]) := by
  obtain ⟨h1, h2, h3, h4, h5, h6⟩ := recO_some hg hr
  have hnx : nextR none P = none ∨ nextR none P = some s := by
    rcases hn with rfl | rfl
    · exact .inl rfl
    · by_cases hP : P = []
      · subst hP; exact .inl rfl
      · have := nextR_some hP
        exact .inr this
  have he : endR first (P ++ [(s, d)]) = endR first P + 1 + secs d.length := by rw [endR_append]; rfl
  refine ⟨?_, by rw [he]; omega, ?_, by unfold nxtN; rw [nextR_snoc]; show s + 1 ≤ _; omega⟩
  · rw [h.sc, scan_rec hg hr hnx, he, nextR_snoc]
    simp
  · intro x hx
    rcases List.mem_append.1 hx with hx | hx
    · exact h.dat x hx
    · rw [List.mem_singleton.1 hx]; exact h6
theorem RdP.done {g : Nat → List UInt8} {first behind : Nat} {P : List Rec} (h : RdP g first behind P) (hd : scan g behind (endR first P) (nextR none P) = []) : scan g behind first none = P := by rw [h.sc, hd, List.append_nil]
theorem rdl_cells {w W : World} {s0 f0 : Value} {A A2 : Option Addr} {N c c2 first count n nx : Nat} {st lf : Int} (h1 : W.heap[w.heap.size]? = some (dkO s0 f0 A N c st lf)) (h2 : W.heap[w.heap.size + 2]? = some (lgO first count A2 n c2 nx)) : ∀ w' : World, Below W.heap.size W w' →
    (w'.cell? ⟨w.heap.size, 0, none⟩ = some s0 ∧ w'.cell? ⟨w.heap.size, 1, none⟩ = some (.slice A N c) ∧ w'.cell? ⟨w.heap.size, 2, none⟩ = some f0 ∧ w'.cell? ⟨w.heap.size, 3, none⟩ = some (.int .i64 st) ∧ w'.cell? ⟨w.heap.size, 4, none⟩ = some (.int .i64 lf)) ∧
    w'.cell? ⟨w.heap.size + 2, 0, none⟩ = some (.int .i64 (first : Int)) ∧ w'.cell? ⟨w.heap.size + 2, 1, none⟩ = some (.int .i64 (count : Int)) ∧ w'.cell? ⟨w.heap.size + 2, 2, none⟩ = some (.slice A2 n c2) ∧ w'.cell? ⟨w.heap.size + 2, 3, none⟩ = some (.int .i64 (nx : Int)) := fun w' hb => by
  have g1 := (hb.block _ (heap_lt h1)).trans h1
  have g2 := (hb.block _ (heap_lt h2)).trans h2
  exact ⟨⟨cell_of_row w' _ 0 _ _ _ g1, cell_of_row w' _ 1 _ _ _ g1, cell_of_row w' _ 2 _ _ _ g1, cell_of_row w' _ 3 _ _ _ g1, cell_of_row w' _ 4 _ _ _ g1⟩, cell_of_row w' _ 0 _ _ _ g2, cell_of_row w' _ 1 _ _ _ g2, cell_of_row w' _ 2 _ _ _ g2, cell_of_row w' _ 3 _ _ _ g2⟩
theorem undrew4 {w w' : World} {B : Nat} (hb : Below B w.drew w') : Below B w w' := ⟨hb.os, hb.tape, hb.output, hb.size, hb.block⟩
theorem set4 {w : World} {b : Nat} {t : TypeId} {x0 x1 x2 x3 : Value} (h : w.heap[b]? = some (.cells #[x0, x1, x2, x3] t (0, 0))) (v0 v1 v2 v3 : Value) :
    ((((w.setCell ⟨b, 0, none⟩ v0).setCell ⟨b, 1, none⟩ v1).setCell ⟨b, 2, none⟩ v2).setCell ⟨b, 3, none⟩ v3).heap[b]? = some (.cells #[v0, v1, v2, v3] t (0, 0)) := by
  have h1 := heap_setCell_same w b 0 #[x0, x1, x2, x3] t v0 h
  have h2 := heap_setCell_same _ b 1 _ t v1 h1
  have h3 := heap_setCell_same _ b 2 _ t v2 h2
  have h4 := heap_setCell_same _ b 3 _ t v3 h3
  simpa using h4
theorem resRead {w : World} {b : Nat} {v0 v1 v2 v3 : Value} (h : w.heap[b]? = some (.cells #[v0, v1, v2, v3] 42 (0, 0))) (tmps : Array Value) (h4 : tmps.getD 6 undef = .pointer (some ⟨b, 0, none⟩)) :
    (results Try.f32 tmps).run Try.prog w = .ok (.agg #[v0, v1, v2, v3]) w := by
  have e0 := cell_of_row w b 0 _ _ _ h; have e1 := cell_of_row w b 1 _ _ _ h; have e2 := cell_of_row w b 2 _ _ _ h; have e3 := cell_of_row w b 3 _ _ _ h
  have h4' := h4
  simp only [Array.getD_eq_getD_getElem?] at h4'
  simp [results, Try.results32, go_sem, h4', e0, e1, e2, e3]
theorem rdl_two {w W : World} {br : Nat} {A2 : Option Addr} {first count n c2 nx s : Nat} {d : List UInt8} (h2 : W.heap[w.heap.size + 2]? = some (lgO first count A2 n c2 nx)) (h3 : W.heap[br]? = some (.cells #[.int .i64 (s : Int), .string ⟨d.toArray⟩] 80 (0, 0))) : ∀ w' : World, Below W.heap.size W w' → w'.cell? ⟨w.heap.size + 2, 2, none⟩ = some (.slice A2 n c2) ∧ w'.cell? ⟨br, 0, none⟩ = some (.int .i64 (s : Int)) ∧ w'.cell? ⟨br, 1, none⟩ = some (.string ⟨d.toArray⟩) := fun w' hb => by
  have g2 := (hb.block _ (heap_lt h2)).trans h2
  have g3 := (hb.block _ (heap_lt h3)).trans h3
  exact ⟨cell_of_row w' _ 2 _ _ _ g2, cell_of_row w' _ 0 _ _ _ g3, cell_of_row w' _ 1 _ _ _ g3⟩
theorem rdl_cell2 {w W w' : World} {dk : Obj} {first count nx : Nat} {P : List Rec} (h : RdL w W dk first count P nx) (hb : Below W.heap.size W w') : (∃ v, w'.cell? ⟨w.heap.size + 2, 2, none⟩ = some v) ∧ w'.frozen? ⟨w.heap.size + 2, 2, none⟩ = false := by
  obtain ⟨A, c, hg, _⟩ := (h.kept hb).box
  exact ⟨⟨_, cell_of_row w' _ 2 _ _ _ hg⟩, frozen_of_row w' _ 2 _ _ hg⟩
theorem box_new {W w6 : World} (h : Below W.heap.size W w6) (v0 v1 : Value) : Below W.heap.size W (w6.alloc (.cells #[v0, v1] 80)) ∧ (w6.alloc (.cells #[v0, v1] 80)).heap[w6.heap.size]? = some (.cells #[v0, v1] 80 (0, 0)) ∧ W.heap.size ≤ w6.heap.size :=
  ⟨h.alloc h.size _, heap_alloc_new w6 _, h.size⟩
theorem box_set {W w6 : World} {b : Nat} {x0 x1 : Value} (h : Below W.heap.size W w6) (hg : w6.heap[b]? = some (.cells #[x0, x1] 80 (0, 0))) (hb : W.heap.size ≤ b) (v0 v1 : Value) : Below W.heap.size W ((w6.setCell ⟨b, 0, none⟩ v0).setCell ⟨b, 1, none⟩ v1) ∧ ((w6.setCell ⟨b, 0, none⟩ v0).setCell ⟨b, 1, none⟩ v1).heap[b]? = some (.cells #[v0, v1] 80 (0, 0)) ∧ W.heap.size ≤ b :=
  ⟨below_set2 h hb v0 v1, set2 hg v0 v1, hb⟩
set_option maxRecDepth 100000 in
set_option maxHeartbeats 4000000 in
theorem rread_any (g : Nat → List UInt8) (N first count : Nat) (s0 f0 : Value) (st lf : Int) (A : Option Addr) (c B : Nat) (w : World) (hr : Rd w B A (strs ((List.range N).map g))) (hB : B ≤ w.heap.size) (hg : ∀ i, i < N → (g i).length = 64) (hfit : first + count ≤ N) (hN : N ≤ 4096) :
    Calls Try.prog 32 #[.agg #[s0, .slice A N c, f0, .int .i64 st, .int .i64 lf], .int .i64 (first : Int), .int .i64 (count : Int)] w fun e w' => ∃ A' c', e = .returned (.agg #[.int .i64 (first : Int), .int .i64 (count : Int), .slice A' (scan g (first + count) first none).length c', .int .i64 (nxtN (scan g (first + count) first none) : Int)]) ∧ w'.ownsRow w.heap.size 80 2 (.slice A' (scan g (first + count) first none).length c') (scan g (first + count) first none).length (recS (scan g (first + count) first none)) ∧ Below w.heap.size w w' := by
  have hw3 : RdL w (((w.alloc (dkO s0 f0 A N c st lf)).alloc (.cells #[.int .i64 0, .int .i64 0, .slice none 0 0, .int .i64 0] 42)).alloc (.cells #[.int .i64 (first : Int), .int .i64 (count : Int), .slice none 0 0, .int .i64 1] 42)) (dkO s0 f0 A N c st lf) first count [] 1 := by
    have hs1 := alloc1_size w (dkO s0 f0 A N c st lf)
    have hs2 := alloc1_size (w.alloc (dkO s0 f0 A N c st lf)) (.cells #[.int .i64 0, .int .i64 0, .slice none 0 0, .int .i64 0] 42)
    have h1 := heap_alloc_new w (dkO s0 f0 A N c st lf)
    have h2 := heap_alloc_new (w.alloc (dkO s0 f0 A N c st lf)) (.cells #[.int .i64 0, .int .i64 0, .slice none 0 0, .int .i64 0] 42)
    have h3 := heap_alloc_new ((w.alloc (dkO s0 f0 A N c st lf)).alloc (.cells #[.int .i64 0, .int .i64 0, .slice none 0 0, .int .i64 0] 42)) (.cells #[.int .i64 (first : Int), .int .i64 (count : Int), .slice none 0 0, .int .i64 1] 42)
    rw [hs1] at h2
    rw [hs2, hs1] at h3
    refine ⟨(Below.heap_alloc _ _ _ (by rw [hs2]; omega)).trans ((Below.heap_alloc _ _ _ (by rw [hs1]; omega)).trans h1), (Below.heap_alloc _ _ _ (by rw [hs2]; omega)).trans h2, ⟨none, 0, h3, World.ownsRow_nil _ _ _ 2⟩, (((Below.refl _ _).alloc (Nat.le_refl _) _).alloc (by rw [hs1]; omega) _).alloc (by rw [hs2]; omega) _, by rw [alloc1_size, hs2, hs1]; omega⟩
  have hp0 : RdP g first (first + count) [] := ⟨rfl, Nat.le_add_right _ _, (fun x hx => by cases hx), by show 1 ≤ _; omega⟩
  have HH := Lib.hid (And.intro hr (And.intro hB (And.intro hg (And.intro hfit hN))))
  have hfI : (first : Int) + (count : Int) ≤ 4096 := by omega
  have HW := Lib.hid (And.intro hw3 hp0)
  obtain ⟨rs, hrs⟩ : ∃ rs, rs = scan g (first + count) first none := ⟨_, rfl⟩
  rw [← hrs]
  have HRS := Lib.hid hrs
  clear hr hB hg hfit hN hw3 hp0 hrs
  go_enter Try.func32, Try.ntmps32
  go_upto_block 0 with (fail)
  generalize (((w.alloc (dkO s0 f0 A N c st lf)).alloc (.cells #[.int .i64 0, .int .i64 0, .slice none 0 0, .int .i64 0] 42)).alloc (.cells #[.int .i64 (first : Int), .int .i64 (count : Int), .slice none 0 0, .int .i64 1] 42)) = W3 at HW ⊢
  go_cut [8, 9] from 13 to 55 (fun r o w' => Hid (RdL w w' (dkO s0 f0 A N c st lf) first count rs (nxtN rs)))
  case first =>
    go_wp2_with (fail)
    go_loopg [8, 9] (first + count + 1) (fun gh r o wr => ∃ P : List Rec, first + count ≤ endR first P + gh ∧ Hid (RdL w wr (dkO s0 f0 A N c st lf) first count P (nxtN P) ∧ RdP g first (first + count) P))
    case atStart => exact ⟨[], by show first + count ≤ first + _; omega, HW⟩
    case round =>
      obtain ⟨P, hgh, HP⟩ := hrel
      obtain ⟨A2, c2, hbx, hown⟩ := HP.out.1.box
      have hcs := rdl_cells HP.out.1.dbox hbx
      have hPl : P.length ≤ 4096 := by have := endR_le first P; have := HP.out.2.le; have := HH.out.2.2.2.1; have := HH.out.2.2.2.2; omega
      have hrd := Rd.ofOwn hown
      have hen := fun (W' : World) (hW' : Below wr.heap.size wr W') => rEnd_any first (count : Int) (nxtN P : Int) P A2 c2 wr.heap.size W' (hrd.below hW' (Nat.le_refl _)) hW'.size HP.out.2.dat (by have := HP.out.2.le; have := HH.out.2.2.2.1; have := HH.out.2.2.2.2; omega)
      obtain ⟨E, hE⟩ : ∃ E, E = endR first P := ⟨_, rfl⟩
      rw [← hE] at hen hgh
      have hEle : E ≤ first + count := by rw [hE]; exact HP.out.2.le
      have HE := Lib.hid (And.intro hE hPl)
      have HEN := Lib.hid hen
      have KS := Lib.hid hcs
      have HO := Lib.hid (And.intro hbx hown)
      clear hbx hown hcs hPl hrd hen hE
      obtain ⟨⟨x0, x1, x2, x3, x4⟩, y0, y1, y2, y3⟩ := KS.out wr (Below.refl _ _)
      by_cases hlt : E < first + count
      · have hltI : (E : Int) < (first : Int) + (count : Int) := by omega
        have hEN : E < N := by have := HH.out.2.2.2.1; omega
        have hrec := fun (W' : World) (hW' : Below wr.heap.size wr W') => rrec_any g N E (first + count) s0 f0 st lf A c B W' (HH.out.1.below (HP.out.1.below.trans (lower' hW' HP.out.1.below.size)) HH.out.2.1) (Nat.le_trans HH.out.2.1 (Nat.le_trans HP.out.1.below.size hW'.size)) HH.out.2.2.1 hEN HH.out.2.2.2.1 HH.out.2.2.2.2
        obtain ⟨X, hX⟩ : ∃ X, X = recO g E (first + count) := ⟨_, rfl⟩
        rw [← hX, recOV_eq, Int.natCast_add] at hrec
        have HRC := Lib.hid hrec
        have HX := Lib.hid hX
        have HLT := Lib.hid (And.intro hlt hgh)
        clear hrec hX hlt hgh
        go_upto_region 3 with (go_at_call 33; (with_reducible refine (HEN.out wr (Below.refl _ _)).mono ?_); rintro e w2 ⟨rfl, hb2⟩)
        clear x0 x1 x2 x3 x4 y0 y1 y2 y3
        go_cut [8, 9] from 19 to 28 (fun r o w' => ∃ br : Nat, r = .pointer (some ⟨br, 0, none⟩) ∧ o = .bool (recB X) ∧ Hid (Below wr.heap.size wr w' ∧ w'.heap[br]? = some (.cells #[(.int .i64 (recN X : Int)), (.string ⟨(recD X).toArray⟩)] 80 (0, 0)) ∧ wr.heap.size ≤ br))
        case first =>
          have hB0 : Below wr.heap.size wr w2.drew := hb2.drew
          have hS0 := KS.out w2.drew hB0
          have w1 : IntKind.i64.wrap ((first : Int) + (count : Int)) = (first : Int) + (count : Int) := IntWalk.i64_in _ (by omega)
          refine wp_region_M (fun j => decide (j < 7) || j == 10) (fun w' => (w'.cell? ⟨w.heap.size, 0, none⟩ = some s0 ∧ w'.cell? ⟨w.heap.size, 1, none⟩ = some (.slice A N c) ∧ w'.cell? ⟨w.heap.size, 2, none⟩ = some f0 ∧ w'.cell? ⟨w.heap.size, 3, none⟩ = some (.int .i64 st) ∧ w'.cell? ⟨w.heap.size, 4, none⟩ = some (.int .i64 lf)) ∧ w'.cell? ⟨w.heap.size + 2, 0, none⟩ = some (.int .i64 (first : Int)) ∧ w'.cell? ⟨w.heap.size + 2, 1, none⟩ = some (.int .i64 (count : Int)) ∧ w'.cell? ⟨w.heap.size + 2, 2, none⟩ = some (.slice A2 P.length c2) ∧ w'.cell? ⟨w.heap.size + 2, 3, none⟩ = some (.int .i64 (nxtN P : Int))) (by kernel_rfl) ?_
          refine wpAnyM_take (i := 0) (v := ?_) rfl (by kernel_rfl) (by kernel_rfl) (by kernel_rfl) (by kernel_rfl) (fun _ _ _ h => h) (Or.inl ⟨by rfl, ?_⟩) hS0 ?_
          rotate_left
          · intro w hSw; (try dsimp only at hSw); go_simp; (try with_reducible rfl)
          simp only [Act.put, List.getElem_toArray, List.getElem_cons_zero, List.getElem_cons_succ, List.setIfInBounds_toArray, List.set_cons_zero, List.set_cons_succ]
          refine wpAnyM_take (i := 1) (v := ?_) rfl (by kernel_rfl) (by kernel_rfl) (by kernel_rfl) (by kernel_rfl) (fun _ _ _ h => h) (Or.inl ⟨by rfl, ?_⟩) hS0 ?_
          rotate_left
          · intro w hSw; (try dsimp only at hSw); go_simp; (try with_reducible rfl)
          simp only [Act.put, List.getElem_toArray, List.getElem_cons_zero, List.getElem_cons_succ, List.setIfInBounds_toArray, List.set_cons_zero, List.set_cons_succ]
          refine wpAnyM_take (i := 3) (v := ?_) rfl (by kernel_rfl) (by kernel_rfl) (by kernel_rfl) (by kernel_rfl) (fun _ _ _ h => h) (Or.inl ⟨by rfl, ?_⟩) hS0 ?_
          rotate_left
          · intro w hSw; (try dsimp only at hSw); go_simp; (try with_reducible rfl)
          simp only [Act.put, List.getElem_toArray, List.getElem_cons_zero, List.getElem_cons_succ, List.setIfInBounds_toArray, List.set_cons_zero, List.set_cons_succ]
          refine wpAnyM_take (i := 4) (v := ?_) rfl (by kernel_rfl) (by kernel_rfl) (by kernel_rfl) (by kernel_rfl) (fun _ _ _ h => h) (Or.inl ⟨by rfl, ?_⟩) hS0 ?_
          rotate_left
          · intro w hSw; (try dsimp only at hSw); go_simp; (try with_reducible rfl)
          simp only [Act.put, List.getElem_toArray, List.getElem_cons_zero, List.getElem_cons_succ, List.setIfInBounds_toArray, List.set_cons_zero, List.set_cons_succ]
          refine wpAnyM_take (i := 5) (v := ?_) rfl (by kernel_rfl) (by kernel_rfl) (by kernel_rfl) (by kernel_rfl) (fun _ _ _ h => h) (Or.inl ⟨by rfl, ?_⟩) hS0 ?_
          rotate_left
          · intro w hSw; (try dsimp only at hSw); go_simp; (try with_reducible rfl)
          simp only [Act.put, List.getElem_toArray, List.getElem_cons_zero, List.getElem_cons_succ, List.setIfInBounds_toArray, List.set_cons_zero, List.set_cons_succ]
          refine wpAnyM_two (i := 2) (j := 10) (by kernel_rfl) rfl rfl (fun K hK => ?_) (fun K hK => ?_)
          · skip
            go_simp
            go_wp2_with (go_at_call 33; (with_reducible refine (HEN.out _ hB0).mono ?_); rintro e w5 ⟨rfl, hbw5⟩)
            have hB5 := hB0.trans (lower' hbw5 hB0.size)
            refine hK.out _ _ (fun _ => KS.out _ hB5) ?_
            clear hK K
            refine wpAnyM_two (i := 6) (j := 10) (by kernel_rfl) rfl rfl (fun K hK => ?_) (fun K hK => ?_)
            · skip
              go_simp
              go_wp2_with (go_at_call 58; (with_reducible refine (HRC.out _ hB5).mono ?_); rintro e w6 ⟨rfl, hbw6⟩)
              have hB6 := hB5.trans (lower' hbw6 hB5.size)
              refine hK.out _ _ (fun _ => KS.out _ hB6) ?_
              clear hK K
              refine wpAnyM_value (i := 7) (v := ?_) rfl (by kernel_rfl) (by kernel_rfl) (by kernel_rfl) (by kernel_rfl) (fun _ _ _ h => h) (Or.inl ⟨by rfl, ?_⟩) ?_
              rotate_left
              · intro w hSw; go_simp; (try with_reducible rfl)
              simp only [Act.put, List.getElem_toArray, List.getElem_cons_zero, List.getElem_cons_succ, List.setIfInBounds_toArray, List.set_cons_zero, List.set_cons_succ]
              refine wpAnyM_value (i := 8) (v := ?_) rfl (by kernel_rfl) (by kernel_rfl) (by kernel_rfl) (by kernel_rfl) (fun _ _ _ h => h) (Or.inl ⟨by rfl, ?_⟩) ?_
              rotate_left
              · intro w hSw; go_simp; (try with_reducible rfl)
              simp only [Act.put, List.getElem_toArray, List.getElem_cons_zero, List.getElem_cons_succ, List.setIfInBounds_toArray, List.set_cons_zero, List.set_cons_succ]
              refine wpAnyM_value (i := 9) (v := ?_) rfl (by kernel_rfl) (by kernel_rfl) (by kernel_rfl) (by kernel_rfl) (fun _ _ _ h => h) (Or.inl ⟨by rfl, ?_⟩) ?_
              rotate_left
              · intro w hSw; go_simp; (try with_reducible rfl)
              simp only [Act.put, List.getElem_toArray, List.getElem_cons_zero, List.getElem_cons_succ, List.setIfInBounds_toArray, List.set_cons_zero, List.set_cons_succ]
              refine wpAnyM_one (i := 10) (by kernel_rfl) rfl (fun K hK => ?_)
              go_simp
              refine hK.out _ _ (fun _ => KS.out _ (hB6.alloc hB6.size _)) ?_
              clear hK K
              have gx := heap_alloc_new w6 (.cells #[.int .i64 0, .string ⟨#[]⟩] 80)
              have cx0 := cell_of_row _ _ 0 _ _ _ gx; have cx1 := cell_of_row _ _ 1 _ _ _ gx; have fx0 := frozen_of_row _ _ 0 _ _ gx; have fx1 := frozen_of_row _ _ 1 _ _ gx
              refine wpAnyM_one (i := 11) (by kernel_rfl) rfl (fun K hK => ?_)
              go_simp
              refine hK.out _ _ (fun h => absurd h (by decide)) ?_
              clear hK K
              refine wpAnyM_value (i := 12) (v := ?_) rfl (by kernel_rfl) (by kernel_rfl) (by kernel_rfl) (by kernel_rfl) (fun _ _ _ h => h) (Or.inl ⟨by rfl, ?_⟩) ?_
              rotate_left
              · intro w hSw; go_simp; (try with_reducible rfl)
              simp only [Act.put, List.getElem_toArray, List.getElem_cons_zero, List.getElem_cons_succ, List.setIfInBounds_toArray, List.set_cons_zero, List.set_cons_succ]
              refine wpAnyM_done (by kernel_rfl) ?_ _
              go_wp2_with (fail)
              go_meet
              case rel => exact ⟨_, rfl, rfl, Lib.hid (box_new hB6 _ _)⟩
            · skip
              go_simp
              refine hK.out _ _ (fun _ => KS.out _ (hB5.alloc hB5.size _)) ?_
              clear hK K
              have hB5a := hB5.alloc hB5.size (.cells #[.int .i64 0, .string ⟨#[]⟩] 80)
              refine wpAnyM_one (i := 6) (by kernel_rfl) rfl (fun K hK => ?_)
              go_simp
              go_wp2_with (go_at_call 58; (with_reducible refine (HRC.out _ hB5a).mono ?_); rintro e w6 ⟨rfl, hbw6⟩)
              have hB6 := hB5a.trans (lower' hbw6 hB5a.size)
              refine hK.out _ _ (fun _ => KS.out _ hB6) ?_
              clear hK K
              refine wpAnyM_value (i := 7) (v := ?_) rfl (by kernel_rfl) (by kernel_rfl) (by kernel_rfl) (by kernel_rfl) (fun _ _ _ h => h) (Or.inl ⟨by rfl, ?_⟩) ?_
              rotate_left
              · intro w hSw; go_simp; (try with_reducible rfl)
              simp only [Act.put, List.getElem_toArray, List.getElem_cons_zero, List.getElem_cons_succ, List.setIfInBounds_toArray, List.set_cons_zero, List.set_cons_succ]
              refine wpAnyM_value (i := 8) (v := ?_) rfl (by kernel_rfl) (by kernel_rfl) (by kernel_rfl) (by kernel_rfl) (fun _ _ _ h => h) (Or.inl ⟨by rfl, ?_⟩) ?_
              rotate_left
              · intro w hSw; go_simp; (try with_reducible rfl)
              simp only [Act.put, List.getElem_toArray, List.getElem_cons_zero, List.getElem_cons_succ, List.setIfInBounds_toArray, List.set_cons_zero, List.set_cons_succ]
              refine wpAnyM_value (i := 9) (v := ?_) rfl (by kernel_rfl) (by kernel_rfl) (by kernel_rfl) (by kernel_rfl) (fun _ _ _ h => h) (Or.inl ⟨by rfl, ?_⟩) ?_
              rotate_left
              · intro w hSw; go_simp; (try with_reducible rfl)
              simp only [Act.put, List.getElem_toArray, List.getElem_cons_zero, List.getElem_cons_succ, List.setIfInBounds_toArray, List.set_cons_zero, List.set_cons_succ]
              have gx := (hbw6.block _ (by simp)).trans (heap_alloc_new w5 (.cells #[.int .i64 0, .string ⟨#[]⟩] 80))
              have cx0 := cell_of_row _ _ 0 _ _ _ gx; have cx1 := cell_of_row _ _ 1 _ _ _ gx; have fx0 := frozen_of_row _ _ 0 _ _ gx; have fx1 := frozen_of_row _ _ 1 _ _ gx
              refine wpAnyM_one (i := 11) (by kernel_rfl) rfl (fun K hK => ?_)
              go_simp
              refine hK.out _ _ (fun h => absurd h (by decide)) ?_
              clear hK K
              refine wpAnyM_value (i := 12) (v := ?_) rfl (by kernel_rfl) (by kernel_rfl) (by kernel_rfl) (by kernel_rfl) (fun _ _ _ h => h) (Or.inl ⟨by rfl, ?_⟩) ?_
              rotate_left
              · intro w hSw; go_simp; (try with_reducible rfl)
              simp only [Act.put, List.getElem_toArray, List.getElem_cons_zero, List.getElem_cons_succ, List.setIfInBounds_toArray, List.set_cons_zero, List.set_cons_succ]
              refine wpAnyM_done (by kernel_rfl) ?_ _
              go_wp2_with (fail)
              go_meet
              case rel => exact ⟨_, rfl, rfl, Lib.hid (box_set hB6 gx hB5.size _ _)⟩
          · skip
            go_simp
            refine hK.out _ _ (fun _ => KS.out _ (hB0.alloc hB0.size _)) ?_
            clear hK K
            have hB0a := (hb2.alloc hb2.size (.cells #[.int .i64 0, .string ⟨#[]⟩] 80)).drew
            refine wpAnyM_one (i := 2) (by kernel_rfl) rfl (fun K hK => ?_)
            go_simp
            go_wp2_with (go_at_call 33; (with_reducible refine (HEN.out _ hB0a).mono ?_); rintro e w5 ⟨rfl, hbw5⟩)
            have hB5 := hB0a.trans (lower' hbw5 hB0a.size)
            refine hK.out _ _ (fun _ => KS.out _ hB5) ?_
            clear hK K
            refine wpAnyM_one (i := 6) (by kernel_rfl) rfl (fun K hK => ?_)
            go_simp
            go_wp2_with (go_at_call 58; (with_reducible refine (HRC.out _ hB5).mono ?_); rintro e w6 ⟨rfl, hbw6⟩)
            have hB6 := hB5.trans (lower' hbw6 hB5.size)
            refine hK.out _ _ (fun _ => KS.out _ hB6) ?_
            clear hK K
            refine wpAnyM_value (i := 7) (v := ?_) rfl (by kernel_rfl) (by kernel_rfl) (by kernel_rfl) (by kernel_rfl) (fun _ _ _ h => h) (Or.inl ⟨by rfl, ?_⟩) ?_
            rotate_left
            · intro w hSw; go_simp; (try with_reducible rfl)
            simp only [Act.put, List.getElem_toArray, List.getElem_cons_zero, List.getElem_cons_succ, List.setIfInBounds_toArray, List.set_cons_zero, List.set_cons_succ]
            refine wpAnyM_value (i := 8) (v := ?_) rfl (by kernel_rfl) (by kernel_rfl) (by kernel_rfl) (by kernel_rfl) (fun _ _ _ h => h) (Or.inl ⟨by rfl, ?_⟩) ?_
            rotate_left
            · intro w hSw; go_simp; (try with_reducible rfl)
            simp only [Act.put, List.getElem_toArray, List.getElem_cons_zero, List.getElem_cons_succ, List.setIfInBounds_toArray, List.set_cons_zero, List.set_cons_succ]
            refine wpAnyM_value (i := 9) (v := ?_) rfl (by kernel_rfl) (by kernel_rfl) (by kernel_rfl) (by kernel_rfl) (fun _ _ _ h => h) (Or.inl ⟨by rfl, ?_⟩) ?_
            rotate_left
            · intro w hSw; go_simp; (try with_reducible rfl)
            simp only [Act.put, List.getElem_toArray, List.getElem_cons_zero, List.getElem_cons_succ, List.setIfInBounds_toArray, List.set_cons_zero, List.set_cons_succ]
            have gx := (hbw6.block w2.heap.size (Nat.lt_of_lt_of_le (show w2.heap.size < (w2.alloc (.cells #[.int .i64 0, .string ⟨#[]⟩] 80)).heap.size by simp) hbw5.size)).trans ((hbw5.block w2.heap.size (show w2.heap.size < (w2.alloc (.cells #[.int .i64 0, .string ⟨#[]⟩] 80)).heap.size by simp)).trans (heap_alloc_new w2 (.cells #[.int .i64 0, .string ⟨#[]⟩] 80)))
            have cx0 := cell_of_row _ _ 0 _ _ _ gx; have cx1 := cell_of_row _ _ 1 _ _ _ gx; have fx0 := frozen_of_row _ _ 0 _ _ gx; have fx1 := frozen_of_row _ _ 1 _ _ gx
            refine wpAnyM_one (i := 11) (by kernel_rfl) rfl (fun K hK => ?_)
            go_simp
            refine hK.out _ _ (fun h => absurd h (by decide)) ?_
            clear hK K
            refine wpAnyM_value (i := 12) (v := ?_) rfl (by kernel_rfl) (by kernel_rfl) (by kernel_rfl) (by kernel_rfl) (fun _ _ _ h => h) (Or.inl ⟨by rfl, ?_⟩) ?_
            rotate_left
            · intro w hSw; go_simp; (try with_reducible rfl)
            simp only [Act.put, List.getElem_toArray, List.getElem_cons_zero, List.getElem_cons_succ, List.setIfInBounds_toArray, List.set_cons_zero, List.set_cons_succ]
            refine wpAnyM_done (by kernel_rfl) ?_ _
            go_wp2_with (fail)
            go_meet
            case rel => exact ⟨_, rfl, rfl, Lib.hid (box_set hB6 gx hb2.size _ _)⟩
        case rest =>
          obtain ⟨br, rfl, rfl, HBR⟩ := hcut
          have hkc := HP.out.1.kept HBR.out.1
          obtain ⟨A3, c3, hbx, hown⟩ := hkc.box
          have e3 : A3 = A2 ∧ c3 = c2 := by
            have h1 := (HBR.out.1.block _ (heap_lt HO.out.1)).trans HO.out.1
            rw [hbx] at h1
            simp only [Option.some.injEq, Obj.cells.injEq, Array.mk.injEq, List.cons.injEq, Value.slice.injEq] at h1
            exact ⟨h1.1.2.2.1.1, h1.1.2.2.1.2.2⟩
          obtain ⟨rfl, rfl⟩ := e3
          have r0 := cell_of_row wc br 0 _ _ _ HBR.out.2.1; have r1 := cell_of_row wc br 1 _ _ _ HBR.out.2.1
          have y2 := cell_of_row wc (w.heap.size + 2) 2 _ _ _ hbx; have y3 := cell_of_row wc (w.heap.size + 2) 3 _ _ _ hbx
          have HKC := Lib.hid (And.intro hkc (And.intro hbx hown))
          clear hkc hbx hown HRC
          cases X with
          | none =>
            have hfin : rs = P := by rw [HRS.out]; exact HP.out.2.done (scan_norec (by rw [← HE.out.1]; exact HX.out.symm))
            have HF := Lib.hid hfin
            clear hfin
            simp only [recN, recD, recB] at r0 r1 ⊢
            go_wp2_with (fail)
            go_meet
            case rel => rw [HF.out]; exact HKC.out.1 |> Lib.hid
          | some x =>
            obtain ⟨s, d⟩ := x
            simp only [recN, recD, recB] at r0 r1 ⊢
            by_cases hP : P = [] ∨ s = nxtN P
            · have hadd := HP.out.2.add (fun i hi => HH.out.2.2.1 i (by have := HH.out.2.2.2.1; omega)) (by rw [← HE.out.1]; exact HX.out.symm) hP
              have hso := recO_some (fun i hi => HH.out.2.2.1 i (by have := HH.out.2.2.2.1; omega)) HX.out.symm
              have hsI : (s : Int) ≤ 4611686018427387904 := by omega
              have HAD := Lib.hid (And.intro hadd hso)
              clear hadd hso
              have hd2 : (P = [] ∧ decide (0 < P.length) = false ∧ ¬ (0 : Int) < (P.length : Int)) ∨ (decide (0 < P.length) = true ∧ (0 : Int) < (P.length : Int) ∧ s = nxtN P) := by
                by_cases h0 : P = []
                · exact .inl ⟨h0, by rw [h0]; rfl, by rw [h0]; simp⟩
                · have hl := List.length_pos_iff.2 h0
                  exact .inr ⟨decide_eq_true hl, by omega, hP.resolve_left h0⟩
              clear hP
              go_upto_region 4 with (fail)
              obtain ⟨WC, hWC⟩ : ∃ WC, WC = wc := ⟨_, rfl⟩
              rw [← hWC] at HBR HKC r0 r1 y2 y3 ⊢
              clear hWC
              go_cut [43] from 29 to 43 (fun tt w' => tt = .bool false ∧ w' = WC)
              case first =>
                rcases hd2 with ⟨-, h1, h2⟩ | ⟨h1, h2, h3⟩
                · go_wp2_with (fail)
                  go_meet
                  case rel => exact ⟨rfl, rfl⟩
                · have q1 : (s : Int) = (nxtN P : Int) := by rw [h3]
                  have q2 : ((s : Int) == (nxtN P : Int)) = true := by rw [q1]; simp
                  rw [← q1] at y3
                  clear h3 q1 q2
                  go_wp2_with (fail)
                  go_meet
                  case rel => exact ⟨rfl, rfl⟩
              case rest =>
                obtain ⟨rfl, hcw⟩ := hcut
                subst hcw
                go_upto_region 5 with (fail)
                go_cut [] from 44 to 51 (fun w' => Hid (RdL w w' (dkO s0 f0 A N c st lf) first count (P ++ [(s, d)]) (nxtN P) ∧ w'.heap[br]? = some (.cells #[.int .i64 (s : Int), .string ⟨d.toArray⟩] 80 (0, 0))))
                case first =>
                  have KT := Lib.hid (rdl_two HKC.out.2.1 HBR.out.2.1)
                  have hS0 := KT.out wc.drew (Below.refl _ _).drew
                  have hrd := Rd.ofOwn HKC.out.2.2
                  have HRD := Lib.hid (And.intro hrd (And.intro HE.out.2 (Nat.le_refl wc.heap.size)))
                  clear hrd y2 y3 r0 r1
                  refine wp_region_M (fun j => decide (j < 7)) (fun w' => w'.cell? ⟨w.heap.size + 2, 2, none⟩ = some (.slice A3 P.length c3) ∧ w'.cell? ⟨br, 0, none⟩ = some (.int .i64 (s : Int)) ∧ w'.cell? ⟨br, 1, none⟩ = some (.string ⟨d.toArray⟩)) (by kernel_rfl) ?_
                  refine wpAnyM_take (i := 1) (v := ?_) rfl (by kernel_rfl) (by kernel_rfl) (by kernel_rfl) (by kernel_rfl) (fun _ _ _ h => h) (Or.inl ⟨by rfl, ?_⟩) hS0 ?_
                  rotate_left
                  · intro w hSw; (try dsimp only at hSw); go_simp; (try with_reducible rfl)
                  simp only [Act.put, List.getElem_toArray, List.getElem_cons_zero, List.getElem_cons_succ, List.setIfInBounds_toArray, List.set_cons_zero, List.set_cons_succ]
                  refine wpAnyM_take (i := 2) (v := ?_) rfl (by kernel_rfl) (by kernel_rfl) (by kernel_rfl) (by kernel_rfl) (fun _ _ _ h => h) (Or.inl ⟨by rfl, ?_⟩) hS0 ?_
                  rotate_left
                  · intro w hSw; (try dsimp only at hSw); go_simp; (try with_reducible rfl)
                  simp only [Act.put, List.getElem_toArray, List.getElem_cons_zero, List.getElem_cons_succ, List.setIfInBounds_toArray, List.set_cons_zero, List.set_cons_succ]
                  refine wpAnyM_take (i := 4) (v := ?_) rfl (by kernel_rfl) (by kernel_rfl) (by kernel_rfl) (by kernel_rfl) (fun _ _ _ h => h) (Or.inl ⟨by rfl, ?_⟩) hS0 ?_
                  rotate_left
                  · intro w hSw; (try dsimp only at hSw); go_simp; (try with_reducible rfl)
                  simp only [Act.put, List.getElem_toArray, List.getElem_cons_zero, List.getElem_cons_succ, List.setIfInBounds_toArray, List.set_cons_zero, List.set_cons_succ]
                  refine wpAnyM_two (i := 0) (j := 5) (by kernel_rfl) rfl rfl (fun K hK => ?_) (fun K hK => ?_)
                  · skip
                    go_simp
                    refine hK.out _ _ (fun _ => KT.out _ ((Below.refl _ _).alloc (Nat.le_refl _) _).drew) ?_
                    clear hK K
                    refine wpAnyM_two (i := 3) (j := 5) (by kernel_rfl) rfl rfl (fun K hK => ?_) (fun K hK => ?_)
                    · skip
                      obtain ⟨A5, c5, w5, A6, c6, w6, hrun5, hrun6, hown6, hb6, hb5⟩ := order1d (A := A3) (c := c3) (W := wc) HRD.out.1 HRD.out.2.2 (by have := HRD.out.2.1; omega) s d
                      refine step_appK _ (by rfl) (.tmp 44) (.tmp 46) 40 rfl rfl _ _ _ _ rfl rfl hrun5 ?_
                      refine hK.out _ _ (fun _ => KT.out _ hb5) ?_
                      clear hK K
                      refine wpAnyM_one (i := 5) (by kernel_rfl) rfl (fun K hK => ?_)
                      go_simp
                      refine hK.out _ _ (fun _ => KT.out _ (hb5.alloc hb5.size _)) ?_
                      clear hK K
                      refine wpAnyM_one (i := 6) (by kernel_rfl) rfl (fun K hK => ?_)
                      refine step_appK _ (by rfl) (.tmp 47) (.tmp 49) 40 rfl rfl _ _ _ _ rfl rfl hrun6 ?_
                      refine hK.out _ _ (fun _ => KT.out _ hb6) ?_
                      clear hK K
                      have hput := RdL.put (P' := P ++ [(s, d)]) HKC.out.1 hb6 (by rw [List.length_append]; exact hown6)
                      have hg6 := (hb6.block br (heap_lt HBR.out.2.1)).trans HBR.out.2.1
                      obtain ⟨⟨v2, y2⟩, yf2⟩ := rdl_cell2 HKC.out.1 hb6
                      have y2b : w6.cell? ⟨w.heap.size + 1 + 1, 2, none⟩ = some v2 := y2
                      have yf2b : w6.frozen? ⟨w.heap.size + 1 + 1, 2, none⟩ = false := yf2
                      refine wpAnyM_value (i := 7) (v := ?_) rfl (by kernel_rfl) (by kernel_rfl) (by kernel_rfl) (by kernel_rfl) (fun _ _ _ h => h) (Or.inl ⟨by rfl, ?_⟩) ?_
                      rotate_left
                      · intro w hSw; go_simp; (try with_reducible rfl)
                      simp only [Act.put, List.getElem_toArray, List.getElem_cons_zero, List.getElem_cons_succ, List.setIfInBounds_toArray, List.set_cons_zero, List.set_cons_succ]
                      refine wpAnyM_one (i := 8) (by kernel_rfl) rfl (fun K hK => ?_)
                      go_simp
                      refine hK.out _ _ (fun h => absurd h (by decide)) ?_
                      clear hK K
                      refine wpAnyM_done (by kernel_rfl) ?_ _
                      go_wp2_with (fail)
                      go_meet
                      case rel => exact Lib.hid ⟨by rw [List.length_append] at hput; exact hput, (Below.heap_setCell _ _ _ _ (by have := HBR.out.2.2; have := HP.out.1.size; show br ≠ w.heap.size + 2; omega)).trans hg6⟩
                    · skip
                      go_simp
                      refine hK.out _ _ (fun _ => KT.out _ (((Below.refl _ _).alloc (Nat.le_refl _) _).alloc (by simp) _).drew) ?_
                      clear hK K
                      refine wpAnyM_one (i := 3) (by kernel_rfl) rfl (fun K hK => ?_)
                      obtain ⟨A5, c5, w5, A6, c6, w6, hrun5, hrun6, hown6, hb6, hb5⟩ := order2d (A := A3) (c := c3) (W := wc) HRD.out.1 HRD.out.2.2 (by have := HRD.out.2.1; omega) s d
                      refine step_appK _ (by rfl) (.tmp 44) (.tmp 46) 40 rfl rfl _ _ _ _ rfl rfl hrun5 ?_
                      refine hK.out _ _ (fun _ => KT.out _ hb5) ?_
                      clear hK K
                      refine wpAnyM_one (i := 6) (by kernel_rfl) rfl (fun K hK => ?_)
                      refine step_appK _ (by rfl) (.tmp 47) (.tmp 49) 40 rfl rfl _ _ _ _ rfl rfl hrun6 ?_
                      refine hK.out _ _ (fun _ => KT.out _ hb6) ?_
                      clear hK K
                      have hput := RdL.put (P' := P ++ [(s, d)]) HKC.out.1 hb6 (by rw [List.length_append]; exact hown6)
                      have hg6 := (hb6.block br (heap_lt HBR.out.2.1)).trans HBR.out.2.1
                      obtain ⟨⟨v2, y2⟩, yf2⟩ := rdl_cell2 HKC.out.1 hb6
                      have y2b : w6.cell? ⟨w.heap.size + 1 + 1, 2, none⟩ = some v2 := y2
                      have yf2b : w6.frozen? ⟨w.heap.size + 1 + 1, 2, none⟩ = false := yf2
                      refine wpAnyM_value (i := 7) (v := ?_) rfl (by kernel_rfl) (by kernel_rfl) (by kernel_rfl) (by kernel_rfl) (fun _ _ _ h => h) (Or.inl ⟨by rfl, ?_⟩) ?_
                      rotate_left
                      · intro w hSw; go_simp; (try with_reducible rfl)
                      simp only [Act.put, List.getElem_toArray, List.getElem_cons_zero, List.getElem_cons_succ, List.setIfInBounds_toArray, List.set_cons_zero, List.set_cons_succ]
                      refine wpAnyM_one (i := 8) (by kernel_rfl) rfl (fun K hK => ?_)
                      go_simp
                      refine hK.out _ _ (fun h => absurd h (by decide)) ?_
                      clear hK K
                      refine wpAnyM_done (by kernel_rfl) ?_ _
                      go_wp2_with (fail)
                      go_meet
                      case rel => exact Lib.hid ⟨by rw [List.length_append] at hput; exact hput, (Below.heap_setCell _ _ _ _ (by have := HBR.out.2.2; have := HP.out.1.size; show br ≠ w.heap.size + 2; omega)).trans hg6⟩
                  · skip
                    go_simp
                    refine hK.out _ _ (fun _ => KT.out _ ((Below.refl _ _).alloc (Nat.le_refl _) _).drew) ?_
                    clear hK K
                    refine wpAnyM_one (i := 0) (by kernel_rfl) rfl (fun K hK => ?_)
                    go_simp
                    refine hK.out _ _ (fun _ => KT.out _ (((Below.refl _ _).alloc (Nat.le_refl _) _).alloc (by simp) _).drew) ?_
                    clear hK K
                    refine wpAnyM_one (i := 3) (by kernel_rfl) rfl (fun K hK => ?_)
                    obtain ⟨A5, c5, w5, A6, c6, w6, hrun5, hrun6, hown6, hb6, hb5⟩ := order3d (A := A3) (c := c3) (W := wc) HRD.out.1 HRD.out.2.2 (by have := HRD.out.2.1; omega) s d
                    refine step_appK _ (by rfl) (.tmp 44) (.tmp 46) 40 rfl rfl _ _ _ _ rfl rfl hrun5 ?_
                    refine hK.out _ _ (fun _ => KT.out _ hb5) ?_
                    clear hK K
                    refine wpAnyM_one (i := 6) (by kernel_rfl) rfl (fun K hK => ?_)
                    refine step_appK _ (by rfl) (.tmp 47) (.tmp 49) 40 rfl rfl _ _ _ _ rfl rfl hrun6 ?_
                    refine hK.out _ _ (fun _ => KT.out _ hb6) ?_
                    clear hK K
                    have hput := RdL.put (P' := P ++ [(s, d)]) HKC.out.1 hb6 (by rw [List.length_append]; exact hown6)
                    have hg6 := (hb6.block br (heap_lt HBR.out.2.1)).trans HBR.out.2.1
                    obtain ⟨⟨v2, y2⟩, yf2⟩ := rdl_cell2 HKC.out.1 hb6
                    have y2b : w6.cell? ⟨w.heap.size + 1 + 1, 2, none⟩ = some v2 := y2
                    have yf2b : w6.frozen? ⟨w.heap.size + 1 + 1, 2, none⟩ = false := yf2
                    refine wpAnyM_value (i := 7) (v := ?_) rfl (by kernel_rfl) (by kernel_rfl) (by kernel_rfl) (by kernel_rfl) (fun _ _ _ h => h) (Or.inl ⟨by rfl, ?_⟩) ?_
                    rotate_left
                    · intro w hSw; go_simp; (try with_reducible rfl)
                    simp only [Act.put, List.getElem_toArray, List.getElem_cons_zero, List.getElem_cons_succ, List.setIfInBounds_toArray, List.set_cons_zero, List.set_cons_succ]
                    refine wpAnyM_one (i := 8) (by kernel_rfl) rfl (fun K hK => ?_)
                    go_simp
                    refine hK.out _ _ (fun h => absurd h (by decide)) ?_
                    clear hK K
                    refine wpAnyM_done (by kernel_rfl) ?_ _
                    go_wp2_with (fail)
                    go_meet
                    case rel => exact Lib.hid ⟨by rw [List.length_append] at hput; exact hput, (Below.heap_setCell _ _ _ _ (by have := HBR.out.2.2; have := HP.out.1.size; show br ≠ w.heap.size + 2; omega)).trans hg6⟩
                case rest =>
                  have hnx : nxtN (P ++ [(s, d)]) = s + 1 := by unfold nxtN; rw [nextR_snoc]; rfl
                  have r0 := cell_of_row wc br 0 _ _ _ hcut.out.2
                  obtain ⟨A9, c9, hbx9, -⟩ := hcut.out.1.box
                  have y3 := cell_of_row wc (w.heap.size + 2) 3 _ _ _ hbx9
                  have yf3 := frozen_of_row wc (w.heap.size + 2) 3 _ _ hbx9
                  have HC := hcut
                  have hsn := HC.out.1.next (s + 1)
                  have HSN := Lib.hid hsn
                  clear hsn hbx9 hcut
                  go_wp2_with (fail)
                  go_roundg (first + count - (E + 1))
                  case measure => have := HLT.out.1; have := HLT.out.2; omega
                  case rel =>
                    have he : endR first (P ++ [(s, d)]) = E + 1 + secs d.length := by rw [endR_append, ← HE.out.1]; rfl
                    exact ⟨P ++ [(s, d)], by rw [he]; have := HLT.out.1; omega, by rw [hnx]; exact Lib.hid ⟨by simpa using HSN.out, HAD.out.1⟩⟩
            · have hfin : rs = P := by
                rw [HRS.out]
                refine HP.out.2.done (scan_other (fun i hi => HH.out.2.2.1 i (by have := HH.out.2.2.2.1; omega)) (by rw [← HE.out.1]; exact HX.out.symm) ?_)
                rintro (h | h)
                · by_cases h0 : P = []
                  · exact hP (.inl h0)
                  · rw [nextR_some h0] at h; cases h
                · by_cases h0 : P = []
                  · exact hP (.inl h0)
                  · rw [nextR_some h0] at h; injection h with h; exact hP (.inr h.symm)
              have HF := Lib.hid hfin
              have h0 : P ≠ [] := fun h => hP (.inl h)
              have hne : ¬ (s : Int) = (nxtN P : Int) := fun h => hP (.inr (by omega))
              have hne2 : ((s : Int) == (nxtN P : Int)) = false := beq_eq_false_iff_ne.2 hne
              have hl := List.length_pos_iff.2 h0
              have h1 : decide (0 < P.length) = true := decide_eq_true hl
              have h2 : (0 : Int) < (P.length : Int) := by omega
              clear hfin h0 hl hP
              go_wp2_with (fail)
              go_meet
              case rel => rw [HF.out]; exact Lib.hid HKC.out.1
      · have hltI : ¬ (E : Int) < (first : Int) + (count : Int) := by omega
        have hfin : rs = P := by rw [HRS.out]; exact HP.out.2.done (scan_none (fun h => by rw [← HE.out.1] at h; omega))
        have HF := Lib.hid hfin
        clear hlt hfin
        go_wp2_with (go_at_call 33; (with_reducible refine (HEN.out wr (Below.refl _ _)).mono ?_); rintro e w2 ⟨rfl, hb2⟩)
        go_meet
        case rel => rw [HF.out]; exact Lib.hid (HP.out.1.kept hb2)
  case rest =>
    obtain ⟨A9, c9, hbx9, ho9⟩ := hcut.out.box
    have hrs9 := hcut.out.res
    have y0 := cell_of_row wc (w.heap.size + 2) 0 _ _ _ hbx9; have y1 := cell_of_row wc (w.heap.size + 2) 1 _ _ _ hbx9; have y2 := cell_of_row wc (w.heap.size + 2) 2 _ _ _ hbx9; have y3 := cell_of_row wc (w.heap.size + 2) 3 _ _ _ hbx9
    have z0 := cell_of_row wc (w.heap.size + 1) 0 _ _ _ hrs9; have z1 := cell_of_row wc (w.heap.size + 1) 1 _ _ _ hrs9; have z2 := cell_of_row wc (w.heap.size + 1) 2 _ _ _ hrs9; have z3 := cell_of_row wc (w.heap.size + 1) 3 _ _ _ hrs9
    have f0' := frozen_of_row wc (w.heap.size + 1) 0 _ _ hrs9; have f1' := frozen_of_row wc (w.heap.size + 1) 1 _ _ hrs9; have f2' := frozen_of_row wc (w.heap.size + 1) 2 _ _ hrs9; have f3' := frozen_of_row wc (w.heap.size + 1) 3 _ _ hrs9
    have HC := Lib.hid (And.intro hcut.out (And.intro hrs9 ho9))
    clear hcut hbx9 hrs9 ho9
    go_wp2_with (fail)
    have hf : Fr wc ((((wc.setCell ⟨w.heap.size + 1, 0, none⟩ (.int .i64 (first : Int))).setCell ⟨w.heap.size + 1, 1, none⟩ (.int .i64 (count : Int))).setCell ⟨w.heap.size + 1, 2, none⟩ (.slice A9 rs.length c9)).setCell ⟨w.heap.size + 1, 3, none⟩ (.int .i64 (nxtN rs : Int))) [w.heap.size + 1] := ((((Fr.refl _ _).setCell (by simp) _).setCell (by simp) _).setCell (by simp) _).setCell (by simp) _
    refine bodyPost_ret (resRead (set4 HC.out.2.1 _ _ _ _) _ rfl) rfl ⟨A9, c9, rfl, ?_, HC.out.1.below.trans (hf.below HC.out.1.below.size (by simp))⟩
    exact own_mono (own_keptBy (g := w.heap.size + 1) HC.out.2.2 (grown_of_fr hf) (by omega)) (by omega)
end Go.Proofs.Ytajakmfloeefpaa
/- The law's Tells. -/
namespace Go.Proofs.Ytajakmfloeefpaa
open Go.RowKit Go.Maps

/-- A disk, and the document's of the same. -/
structure Both (w : World) (p bs bw T : Nat) (M : DM) (v : Value) : Prop where
  disk : DiskM w p bs bw M T
  ref : RefV w [p, bs, bw] (refOf M) v
  ok : M.Ok T
theorem Both.below {w w' : World} {p bs bw T : Nat} {M : DM} {v : Value} (h : Both w p bs bw T M v) (hb : Below w.heap.size w w') : Both w' p bs bw T M v := ⟨h.disk.kept hb, h.ref.below hb, h.ok⟩
theorem ints_map (L : List Nat) : (L.map fun (i : Nat) => Value.int .i64 (i : Int)) = ints L := rfl

set_option maxRecDepth 100000 in
set_option maxHeartbeats 4000000 in
theorem tells_any (w : World) (p bs bw T : Nat) (M : DM) (v : Value) (h : Both w p bs bw T M v) :
    Calls Try.prog 21 #[.pointer (some ⟨p, 0, none⟩), v] w fun e w' => e = .returned (.bool true) ∧ Below w.heap.size w w' := by
  have hh := h
  obtain ⟨hD, ⟨A1, A2, A3, c1, c2, c3, rfl, h1, h2, h3⟩, hk⟩ := h
  have hl1 : (refOf M).sure.length = M.size := by simp [refOf]
  have hl2 : (refOf M).now.length = M.size := by simp [refOf]
  have hl3 : (refOf M).fresh.length = M.size := by simp [refOf]
  have hst : (refOf M).steps = (M.steps : Int) := rfl
  rw [hl1, hl2, hl3, hst] at hh ⊢
  have hb0 : Below w.heap.size w (w.alloc (.cells #[.slice A1 M.size c1, .slice A2 M.size c2, .slice A3 M.size c3, .int .i64 (M.steps : Int), .int .i64 (refOf M).left] 33)) := (Below.refl _ _).alloc (Nat.le_refl _) _
  have g0 := heap_alloc_new w (.cells #[.slice A1 M.size c1, .slice A2 M.size c2, .slice A3 M.size c3, .int .i64 (M.steps : Int), .int .i64 (refOf M).left] 33)
  have s0 := alloc1_size w (.cells #[.slice A1 M.size c1, .slice A2 M.size c2, .slice A3 M.size c3, .int .i64 (M.steps : Int), .int .i64 (refOf M).left] 33)
  have hh2 := hh.below hb0
  have HB := Lib.hid (And.intro hb0 s0)
  have HL0 := Lib.hid (And.intro hl1 (And.intro hl2 (And.intro hl3 hst)))
  clear hD h1 h2 h3 hk hh hl1 hl2 hl3 hst
  go_enter Try.func21, Try.ntmps21
  go_upto_region 1 with go_in
  generalize w.alloc (.cells #[.slice A1 M.size c1, .slice A2 M.size c2, .slice A3 M.size c3, .int .i64 (M.steps : Int), .int .i64 (refOf M).left] 33) = W at HB hb0 g0 s0 hh2 ⊢
  obtain ⟨b0, hbe⟩ : ∃ b0, b0 = w.heap.size := ⟨_, rfl⟩
  rw [← hbe] at g0 ⊢
  have hbl : b0 < W.heap.size := by omega
  have HBE := Lib.hid hbe
  clear hbe
  have hKS : ∀ w' : World, Below W.heap.size W w' → (Below W.heap.size W w' ∧ w'.cell? ⟨b0, 0, none⟩ = some (.slice A1 M.size c1) ∧ w'.cell? ⟨b0, 1, none⟩ = some (.slice A2 M.size c2) ∧ w'.cell? ⟨b0, 2, none⟩ = some (.slice A3 M.size c3) ∧ w'.cell? ⟨b0, 3, none⟩ = some (.int .i64 (M.steps : Int)) ∧ w'.cell? ⟨b0, 4, none⟩ = some (.int .i64 (refOf M).left)) := fun w' hb =>
    have hg := (hb.block b0 hbl).trans g0
    ⟨hb, cell_of_row w' b0 0 _ _ _ hg, cell_of_row w' b0 1 _ _ _ hg, cell_of_row w' b0 2 _ _ _ hg, cell_of_row w' b0 3 _ _ _ hg, cell_of_row w' b0 4 _ _ _ hg⟩
  have KS := Lib.hid hKS
  have hT : T ≤ 1000000000 := hh2.ok.T
  have hz : M.size ≤ 4096 := hh2.ok.size
  have hfl : M.fresh.length ≤ 4096 := by
    have : M.fresh.length ≤ M.size := by unfold DM.fresh; exact Nat.le_trans (List.length_filter_le _ _) (by simp)
    omega
  have hus := fun (W' : World) (hb : Below W.heap.size W W') => unsureM (hh2.disk.kept hb) hT
  have hru := fun (W' : World) (hb : Below W.heap.size W W') => runsure_any W' _ (refOf M) _ (hh2.ref.below hb) (by rw [HL0.out.2.2.1]; exact hz)
  rw [refOf_fresh] at hru
  have HUS := Lib.hid hus
  have HRU := Lib.hid hru
  have HT := Lib.hid (And.intro hT (And.intro hz hfl))
  have HH2 := Lib.hid hh2
  have hsz := sizeM (hh2.disk.kept ((Below.refl _ W).drew))
  have hsp := stepsM (hh2.disk.kept ((Below.refl _ W).drew))
  have HSZ := Lib.hid hsz
  have HSP := Lib.hid hsp
  clear hKS hus hru hT hz hfl hh2 hsz hsp g0 hb0
  go_region_held3 (fun w' => Below W.heap.size W w' ∧ w'.cell? ⟨b0, 0, none⟩ = some (.slice A1 M.size c1) ∧ w'.cell? ⟨b0, 1, none⟩ = some (.slice A2 M.size c2) ∧ w'.cell? ⟨b0, 2, none⟩ = some (.slice A3 M.size c3) ∧ w'.cell? ⟨b0, 3, none⟩ = some (.int .i64 (M.steps : Int)) ∧ w'.cell? ⟨b0, 4, none⟩ = some (.int .i64 (refOf M).left))
    (first
      | exact KS.out _ (Below.refl _ _).drew
      | exact KS.out _ hB5
      | exact KS.out _ hB4
      | exact KS.out _ hB3
      | assumption)
    (first
      | (go_at_call 28; (with_reducible refine HSZ.out.mono ?_); rintro e w1 ⟨rfl, rfl⟩)
      | (go_at_call 25; (with_reducible refine HSP.out.mono ?_); rintro e w1 ⟨rfl, rfl⟩)
      | (go_at_call 47; (with_reducible refine (HUS.out W.drew ((Below.refl _ _).drew)).mono ?_); rintro e w3 ⟨v3, rfl, hrow3, hb3⟩; obtain ⟨Au, cu, rfl, _, _, hu3⟩ := own_shape hrow3; have hB3 : Below W.heap.size W w3 := (Below.refl _ _).drew.trans hb3; clear hrow3)
      | (go_at_call 50; (with_reducible refine (HRU.out w3 hB3).mono ?_); rintro e w4 ⟨v4, rfl, hrow4, hb4⟩; obtain ⟨Ar, cr, rfl, _, _, hr4⟩ := own_shape hrow4; have hB4 : Below W.heap.size W w4 := hB3.trans (lower' hb4 hB3.size); have hu4 := hu3.below hb4 (Nat.le_refl _); clear hrow4)
      | (go_at_call 49; (refine (ints_same w4 Au Ar M.fresh cu cr _ _ hu4 hr4 hb4.size (Nat.le_refl _) HT.out.2.2).mono ?_); rintro e w5 ⟨rfl, hb5⟩; have hB5 : Below W.heap.size W w5 := hB4.trans (lower' hb5 hB4.size)))
  have hS5 := KS.out _ hB5
  have HB5 := Lib.hid hB5
  clear hB3 hB4 hB5 hu3 hr4 hu4 hb3 hb4 hb5
  go_wp2_with go_in
  go_loopw [5, 6, 7, 32] (fun _ _ _ i wr => ∃ k : Nat, k ≤ M.size ∧ i = .int .i64 (k : Int) ∧ Below w5.heap.size w5 wr)
    (fun _ _ _ i _ => M.size - (intOf i).toNat)
  case atStart => exact ⟨0, by omega, rfl, Below.refl _ _⟩
  case round =>
    obtain ⟨k, hk, rfl, hb⟩ := hrel
    have hB6 : Below W.heap.size W wr := HB5.out.trans (lower' hb HB5.out.size)
    have hkb : (k : Int) ≤ 4096 := by have := HT.out.2.1; omega
    by_cases hkl : k < M.size
    · have hkI : (k : Int) < (M.size : Int) := by omega
      have hRC := readC (i := k) (HH2.out.disk.kept hB6) HT.out.2.1 hkl
      have HRC := Lib.hid hRC
      obtain ⟨a1, a2, a3, d1, d2, d3, he, _, hs2, _⟩ := HH2.out.ref
      have ea : A2 = a2 := by
        have h3 := congrArg (fun v : Value => match v with | .agg cs => cs.getD 1 undef | _ => undef) he
        simp only [Array.getD] at h3
        simp at h3
        exact h3.1
      subst ea
      obtain ⟨p2, o2, rfl, hp2, hq2⟩ := hs2.1.get (k := k) (by rw [strs_len, refOf_len]; exact hkl)
      have hno : ∀ w' : World, Below W.heap.size W w' → w'.cell? ⟨p2, o2 + k, none⟩ = some (.string ⟨(M.get k).toArray⟩) := by
        intro w' hw'
        have e1 : (strs (refOf M).now)[k]'(by rw [strs_len, refOf_len]; exact hkl) = .string ⟨(M.get k).toArray⟩ := by simp [strs, refOf]
        rw [← e1, ← hq2]
        exact hw'.cell (p := ⟨p2, o2 + k, none⟩) hp2
      have HNO := Lib.hid hno
      have HX := Lib.hid (And.intro hb hkl)
      clear hRC he hs2 hp2 hq2 hno hb hkl
      go_upto_region 7 with (first
        | (go_at_call 51; (with_reducible refine HRC.out.mono ?_); rintro e w6 ⟨gb, rfl, hgb1, hgb2, hrb, hlb, hb6⟩)
        | go_in)
      have hB7 : Below W.heap.size W w6 := hB6.trans (lower' hb6 hB6.size)
      have q1 := fun n => strAt (n := 64) (c := 64) (hrb.drewN n) hlb.symm
      have c1 := HNO.out w6 hB7
      have c2 := (KS.out _ hB7).2.2.1
      have hb56 : Below w5.heap.size w5 w6 := HX.out.1.trans (lower' hb6 HX.out.1.size)
      have HY := Lib.hid hb56
      clear hrb hb6 hb56
      go_quiet (fail)
      go_wp2_with go_in
      exact ⟨⟨k + 1, HX.out.2, by simp, Below.drewN' HY.out _⟩, by simp [intOf]; have := HX.out.2; omega⟩
    · obtain rfl : k = M.size := by omega
      have HX := Lib.hid hB6
      clear hB6 hb
      go_wp2_with go_in
      go_ret
      exact ⟨rfl, HB.out.1.trans (lower' HX.out (by rw [HB.out.2]; omega))⟩
end Go.Proofs.Ytajakmfloeefpaa
/- The document's disk in a block beside a disk: other blocks, off a block, facts on a write. -/
namespace Go.Proofs.Ytajakmfloeefpaa
open Go.RowKit Go.Maps

theorem Sl.ext {w : World} {X Y : List Nat} {A : Option Addr} {xs : List Value} (h : Sl w X A xs) (hn : xs ≠ []) (hY : ∀ y ∈ Y, w.heap.size ≤ y) : Sl w (X ++ Y) A xs := by
  obtain ⟨b, o, e, hlt, hc⟩ := h.1 hn
  refine ⟨h.1, fun a ha hx => ?_⟩
  rcases List.mem_append.1 hx with hx | hx
  · exact h.2 a ha hx
  · rw [e] at ha; cases ha
    exact absurd (hY _ hx) (by show ¬ (w.heap.size ≤ b); omega)
theorem RefV.ext {w : World} {X Y : List Nat} {M : DM} {v : Value} (h : RefV w X (refOf M) v) (hp : 0 < M.size) (hY : ∀ y ∈ Y, w.heap.size ≤ y) : RefV w (X ++ Y) (refOf M) v := by
  obtain ⟨A1, A2, A3, c1, c2, c3, rfl, h1, h2, h3⟩ := h
  have ne : ∀ {α : Type} (f : Nat → α), (List.range M.size).map f ≠ [] := fun f e => by have := congrArg List.length e; simp at this; omega
  exact ⟨A1, A2, A3, c1, c2, c3, rfl, h1.ext (by simp only [strs, refOf, List.map_map]; exact ne _) hY, h2.ext (by simp only [strs, refOf, List.map_map]; exact ne _) hY, h3.ext (by simp only [bools, refOf, List.map_map]; exact ne _) hY⟩
theorem RefV.sub {w : World} {X Y : List Nat} {R : RD} {v : Value} (h : RefV w X R v) (hY : ∀ y ∈ Y, y ∈ X) : RefV w Y R v := by
  obtain ⟨A1, A2, A3, c1, c2, c3, rfl, h1, h2, h3⟩ := h
  exact ⟨A1, A2, A3, c1, c2, c3, rfl, h1.sub hY, h2.sub hY, h3.sub hY⟩
theorem write_facts (M : DM) (i : Int) (l : List UInt8) : (M.writeM i l).size = M.size ∧ (M.writeM i l).steps ≤ M.steps + 1 ∧ (M.writeM i l).left ≤ M.left := by
  unfold DM.writeM
  split
  · exact ⟨rfl, by omega, Nat.le_refl _⟩
  · split
    · exact ⟨rfl, by omega, Nat.le_refl _⟩
    · exact ⟨rfl, Nat.le_refl _, by show (if M.armed then M.left - 1 else M.left) ≤ M.left; split <;> omega⟩
theorem Sl.off {w : World} {X : List Nat} {A : Option Addr} {xs : List Value} {b : Nat} {cs : Array Value} {t : TypeId} {fr : Nat × Nat} (h : Sl w X A xs) (hn : xs ≠ []) (hb : w.heap[b]? = some (.cells cs t fr)) (hx : ∀ x ∈ xs, x ∉ cs) : Sl w (b :: X) A xs := by
  refine ⟨h.1, fun a ha hm => ?_⟩
  rcases List.mem_cons.1 hm with e | e
  · obtain ⟨b', o, e', _, hc⟩ := h.1 hn
    rw [e'] at ha; cases ha
    change b' = b at e
    subst e
    obtain ⟨x, r, hxr⟩ := List.exists_cons_of_ne_nil hn
    have := hc 0 x (by rw [hxr]; rfl)
    rw [cell_of_row w b' _ _ _ _ hb] at this
    exact hx x (by simp [hxr]) (Array.mem_of_getElem? this)
  · exact h.2 a ha e
section
variable {w w' : World} {b p bs bw B T n1 n2 n3 c1 c2 c3 : Nat} {M : DM} {v : Value} {A1 A2 A3 : Option Addr} {s l : Int} {t : TypeId} {fr : Nat × Nat} {X : List Nat}
theorem RefV.off (h : RefV w X (refOf M) v) (hp : 0 < M.size) (hb : w.heap[b]? = some (.cells #[.slice A1 n1 c1, .slice A2 n2 c2, .slice A3 n3 c3, .int .i64 s, .int .i64 l] t fr)) : RefV w (b :: X) (refOf M) v := by
  obtain ⟨a1, a2, a3, d1, d2, d3, rfl, h1, h2, h3⟩ := h
  have ne : ∀ {α : Type} (f : Nat → α), (List.range M.size).map f ≠ [] := fun f e => by have := congrArg List.length e; simp at this; omega
  have hs : ∀ (L : List (List UInt8)), ∀ x ∈ strs L, x ∉ #[Value.slice A1 n1 c1, .slice A2 n2 c2, .slice A3 n3 c3, .int .i64 s, .int .i64 l] := by
    intro L x hx
    obtain ⟨y, _, rfl⟩ := List.mem_map.1 hx
    simp
  have hbs : ∀ (L : List Bool), ∀ x ∈ bools L, x ∉ #[Value.slice A1 n1 c1, .slice A2 n2 c2, .slice A3 n3 c3, .int .i64 s, .int .i64 l] := by
    intro L x hx
    obtain ⟨y, _, rfl⟩ := List.mem_map.1 hx
    simp
  exact ⟨a1, a2, a3, d1, d2, d3, rfl, h1.off (by simp only [strs, refOf, List.map_map]; exact ne _) hb (hs _), h2.off (by simp only [strs, refOf, List.map_map]; exact ne _) hb (hs _), h3.off (by simp only [bools, refOf, List.map_map]; exact ne _) hb (hbs _)⟩
theorem DiskM.off (h : DiskM w p bs bw M T) (hb : w.heap[b]? = some (.cells #[.slice A1 n1 c1, .slice A2 n2 c2, .slice A3 n3 c3, .int .i64 s, .int .i64 l] t fr)) : p ≠ b ∧ bs ≠ b ∧ bw ≠ b := by
  obtain ⟨D, ⟨h1, _, ns, nw, ⟨es, cl, h2, _⟩, ⟨es2, cl2, h3, _⟩, _⟩, _⟩ := h
  refine ⟨?_, ?_, ?_⟩
  · rintro rfl
    rw [h1] at hb
    unfold DK.cells at hb
    simp at hb
  · rintro rfl
    rw [h2] at hb
    cases hb
  · rintro rfl
    rw [h3] at hb
    cases hb
end
/-- A disk, and beside it in the block bx the document's disk, that stands a write behind or not: M and R. -/
structure BoxD (W0 wr : World) (bx p bs bw N T : Nat) (M R : DM) : Prop where
  box : ∃ A1 A2 A3 n1 n2 n3 c1 c2 c3 s l, wr.heap[bx]? = some (.cells #[.slice A1 n1 c1, .slice A2 n2 c2, .slice A3 n3 c3, .int .i64 s, .int .i64 l] 33 (0, 0)) ∧ RefV wr [bx, p, bs, bw] (refOf R) (.agg #[.slice A1 n1 c1, .slice A2 n2 c2, .slice A3 n3 c3, .int .i64 s, .int .i64 l])
  disk : DiskM wr p bs bw M T
  okM : M.Ok T
  okR : R.Ok T
  sizeM : M.size = N
  sizeR : R.size = N
  stepsM : M.steps ≤ T
  stepsR : R.steps ≤ T
  pos : 0 < N
  off : p ≠ bx ∧ bs ≠ bx ∧ bw ≠ bx
  low : W0.heap.size ≤ p ∧ W0.heap.size ≤ bs ∧ W0.heap.size ≤ bw ∧ W0.heap.size ≤ bx
  below : Below W0.heap.size W0 wr
section
variable {W0 wr w' : World} {bx p bs bw N T : Nat} {M R : DM}
theorem BoxD.lt (h : BoxD W0 wr bx p bs bw N T M R) : bx < wr.heap.size := by
  obtain ⟨_, _, _, _, _, _, _, _, _, _, _, hb, _⟩ := h.box
  exact heap_lt hb
theorem BoxD.kept (h : BoxD W0 wr bx p bs bw N T M R) (hb : Below wr.heap.size wr w') : BoxD W0 w' bx p bs bw N T M R := by
  obtain ⟨A1, A2, A3, n1, n2, n3, c1, c2, c3, s, l, hg, hv⟩ := h.box
  exact ⟨⟨A1, A2, A3, n1, n2, n3, c1, c2, c3, s, l, (hb.block bx (heap_lt hg)).trans hg, hv.below hb⟩, h.disk.kept hb, h.okM, h.okR, h.sizeM, h.sizeR, h.stepsM, h.stepsR, h.pos, h.off, h.low, h.below.trans (lower' hb h.below.size)⟩
theorem BoxD.drew (h : BoxD W0 wr bx p bs bw N T M R) : BoxD W0 wr.drew bx p bs bw N T M R := h.kept (Below.refl _ _).drew
/-- The disk is written. -/
theorem BoxD.wrote (h : BoxD W0 wr bx p bs bw N T M M) {i : Int} {b : List UInt8} (hD : DiskM w' p bs bw (M.writeM i b) (T + 1)) (hf : Fr wr w' [p, bw]) (hT : T ≤ 1000) : BoxD W0 w' bx p bs bw N (T + 1) (M.writeM i b) M := by
  obtain ⟨A1, A2, A3, n1, n2, n3, c1, c2, c3, s, l, hg, hv⟩ := h.box
  obtain ⟨f1, f2, f3⟩ := write_facts M i b
  have ho := h.off
  have h1 := h.okM
  have h2 := h.stepsM
  exact ⟨⟨A1, A2, A3, n1, n2, n3, c1, c2, c3, s, l, (hf.block bx (heap_lt hg) (by simp; omega)).trans hg, hv.fr hf (by simp)⟩, hD, ⟨by rw [f1]; exact h1.size, by omega, Nat.le_trans f3 h1.left, by omega⟩, ⟨h1.size, h1.steps, h1.left, by omega⟩, f1.trans h.sizeM, h.sizeR, by omega, by omega, h.pos, h.off, h.low,
    h.below.trans (hf.below h.below.size (by have := h.low; simp; omega))⟩
/-- The document's disk is written: what its call answers. -/
theorem BoxD.rwrite (h : BoxD W0 wr bx p bs bw N T M R) {v : Value} (hv : RefV wr [bx, p, bs, bw] (refOf R) v) (i : Int) (b : List UInt8) :
    Calls Try.prog 17 #[v, .int .i64 i, .string ⟨b.toArray⟩] wr fun e w' => ∃ B1 B2 B3 m1 m2 m3 d1 d2 d3 s l, e = .returned (.tuple #[.agg #[.slice B1 m1 d1, .slice B2 m2 d2, .slice B3 m3 d3, .int .i64 s, .int .i64 l], .int .i64 (R.writeE i b)]) ∧ RefV w' [bx, p, bs, bw] (refOf (R.writeM i b)) (.agg #[.slice B1 m1 d1, .slice B2 m2 d2, .slice B3 m3 d3, .int .i64 s, .int .i64 l]) ∧ Below wr.heap.size wr w' := by
  have hl := h.disk.lt
  have hx := h.lt
  refine (rwrite_any wr [bx, p, bs, bw] (refOf R) v hv (refOf_ok h.okR) (by simp; omega) i b).mono ?_
  rintro e w' ⟨v', rfl, hR, hb⟩
  rw [(refOf_write R i b).1]
  rw [(refOf_write R i b).2] at hR
  have hR' := hR
  obtain ⟨A1, A2, A3, c1, c2, c3, rfl, _, _, _⟩ := hR'
  exact ⟨_, _, _, _, _, _, _, _, _, _, _, rfl, hR, hb⟩
/-- The answer is stored. -/
theorem BoxD.put (h : BoxD W0 wr bx p bs bw N T M R) (hb : Below wr.heap.size wr w') {B1 B2 B3 : Option Addr} {m1 m2 m3 d1 d2 d3 : Nat} {s l : Int} (hR : RefV w' [bx, p, bs, bw] (refOf M) (.agg #[.slice B1 m1 d1, .slice B2 m2 d2, .slice B3 m3 d3, .int .i64 s, .int .i64 l])) :
    BoxD W0 (((((w'.setCell ⟨bx, 0, none⟩ (.slice B1 m1 d1)).setCell ⟨bx, 1, none⟩ (.slice B2 m2 d2)).setCell ⟨bx, 2, none⟩ (.slice B3 m3 d3)).setCell ⟨bx, 3, none⟩ (.int .i64 s)).setCell ⟨bx, 4, none⟩ (.int .i64 l)) bx p bs bw N T M M := by
  have h7 := h.kept hb
  obtain ⟨A1, A2, A3, n1, n2, n3, c1, c2, c3, s', l', hg, hv⟩ := h7.box
  have hf : Fr w' (((((w'.setCell ⟨bx, 0, none⟩ (.slice B1 m1 d1)).setCell ⟨bx, 1, none⟩ (.slice B2 m2 d2)).setCell ⟨bx, 2, none⟩ (.slice B3 m3 d3)).setCell ⟨bx, 3, none⟩ (.int .i64 s)).setCell ⟨bx, 4, none⟩ (.int .i64 l)) [bx] := (((((Fr.refl _ _).setCell (by simp) _).setCell (by simp) _).setCell (by simp) _).setCell (by simp) _).setCell (by simp) _
  have ho := h.off
  exact ⟨⟨_, _, _, _, _, _, _, _, _, _, _, set5 hg _ _ _ _ _, hR.fr hf (by simp)⟩, h7.disk.fr hf (by simp; omega) (by simp; omega) (by simp; omega), h.okM, h.okM, h.sizeM, h.sizeM, h.stepsM, h.stepsM, h.pos, h.off, h.low, h7.below.trans (hf.below h7.below.size (by have := h.low; simp; omega))⟩
theorem BoxD.both (h : BoxD W0 wr bx p bs bw N T M M) {v : Value} (hv : RefV wr [bx, p, bs, bw] (refOf M) v) : Both wr p bs bw T M v := ⟨h.disk, hv.sub (fun _ hy => List.mem_cons_of_mem _ hy), h.okM⟩
end
end Go.Proofs.Ytajakmfloeefpaa
/- ImgV, what this seat can fill of it. -/
namespace Go.Proofs.Ytajakmfloeefpaa
/- The document's image: write. -/
open Go.RowKit Go.Maps

section
variable {w wr w' : World} {X : List Nat} {M : DM} {T : Nat} {v : Value}
theorem RefV.rwrite (hv : RefV wr X (refOf M) v) (hk : M.Ok T) (hX : ∀ x ∈ X, x < wr.heap.size) (i : Int) (b : List UInt8) :
    Calls Try.prog 17 #[v, .int .i64 i, .string ⟨b.toArray⟩] wr fun e w' => ∃ B1 B2 B3 m1 m2 m3 d1 d2 d3 s l, e = .returned (.tuple #[.agg #[.slice B1 m1 d1, .slice B2 m2 d2, .slice B3 m3 d3, .int .i64 s, .int .i64 l], .int .i64 (M.writeE i b)]) ∧ RefV w' X (refOf (M.writeM i b)) (.agg #[.slice B1 m1 d1, .slice B2 m2 d2, .slice B3 m3 d3, .int .i64 s, .int .i64 l]) ∧ Below wr.heap.size wr w' := by
  refine (rwrite_any wr X (refOf M) v hv (refOf_ok hk) hX i b).mono ?_
  rintro e w' ⟨v', rfl, hR, hb⟩
  rw [(refOf_write M i b).1]
  rw [(refOf_write M i b).2] at hR
  have hR' := hR
  obtain ⟨A1, A2, A3, c1, c2, c3, rfl, _, _, _⟩ := hR'
  exact ⟨_, _, _, _, _, _, _, _, _, _, _, rfl, hR, hb⟩
theorem RefV.rflush (hv : RefV wr X (refOf M) v) (hk : M.Ok T) (hX : ∀ x ∈ X, x < wr.heap.size) :
    Calls Try.prog 38 #[v] wr fun e w' => ∃ B1 B2 B3 m1 m2 m3 d1 d2 d3 s l, e = .returned (.tuple #[.agg #[.slice B1 m1 d1, .slice B2 m2 d2, .slice B3 m3 d3, .int .i64 s, .int .i64 l], .int .i64 M.flushE]) ∧ RefV w' X (refOf M.flushM) (.agg #[.slice B1 m1 d1, .slice B2 m2 d2, .slice B3 m3 d3, .int .i64 s, .int .i64 l]) ∧ Below wr.heap.size wr w' := by
  refine (rflush_any wr X (refOf M) v hv (refOf_ok hk) hX).mono ?_
  rintro e w' ⟨v', rfl, hR, hb⟩
  rw [(refOf_flush M).1]
  rw [(refOf_flush M).2] at hR
  have hR' := hR
  obtain ⟨A1, A2, A3, c1, c2, c3, rfl, _, _, _⟩ := hR'
  exact ⟨_, _, _, _, _, _, _, _, _, _, _, rfl, hR, hb⟩
/-- The document's disk in a new block, and behind it a block for what is handed back. -/
structure RBox (w wr : World) (X : List Nat) (M : DM) : Prop where
  box : ∃ A1 A2 A3 n1 n2 n3 c1 c2 c3 s l, wr.heap[w.heap.size]? = some (.cells #[.slice A1 n1 c1, .slice A2 n2 c2, .slice A3 n3 c3, .int .i64 s, .int .i64 l] 33 (0, 0)) ∧ RefV wr (w.heap.size :: (w.heap.size + 1) :: X) (refOf M) (.agg #[.slice A1 n1 c1, .slice A2 n2 c2, .slice A3 n3 c3, .int .i64 s, .int .i64 l])
  res : wr.heap[w.heap.size + 1]? = some (.cells #[.slice none 0 0, .slice none 0 0, .slice none 0 0, .int .i64 0, .int .i64 0] 33 (0, 0))
  below : Below w.heap.size w wr
theorem RBox.kept (h : RBox w wr X M) (hb : Below wr.heap.size wr w') : RBox w w' X M := by
  obtain ⟨A1, A2, A3, n1, n2, n3, c1, c2, c3, s, l, hg, hv⟩ := h.box
  exact ⟨⟨A1, A2, A3, n1, n2, n3, c1, c2, c3, s, l, (hb.block _ (heap_lt hg)).trans hg, hv.below hb⟩, (hb.block _ (heap_lt h.res)).trans h.res, h.below.trans (lower' hb h.below.size)⟩
theorem RBox.new {A1 A2 A3 : Option Addr} {n1 n2 n3 c1 c2 c3 : Nat} {s l : Int} (hv : RefV w X (refOf M) (.agg #[.slice A1 n1 c1, .slice A2 n2 c2, .slice A3 n3 c3, .int .i64 s, .int .i64 l])) (hp : 0 < M.size) :
    RBox w ((w.alloc (.cells #[.slice A1 n1 c1, .slice A2 n2 c2, .slice A3 n3 c3, .int .i64 s, .int .i64 l] 33)).alloc (.cells #[.slice none 0 0, .slice none 0 0, .slice none 0 0, .int .i64 0, .int .i64 0] 33)) X M := by
  obtain ⟨g0, g1⟩ := two_new w (.cells #[.slice A1 n1 c1, .slice A2 n2 c2, .slice A3 n3 c3, .int .i64 s, .int .i64 l] 33) (.cells #[.slice none 0 0, .slice none 0 0, .slice none 0 0, .int .i64 0, .int .i64 0] 33)
  have hb : Below w.heap.size w ((w.alloc (.cells #[.slice A1 n1 c1, .slice A2 n2 c2, .slice A3 n3 c3, .int .i64 s, .int .i64 l] 33)).alloc (.cells #[.slice none 0 0, .slice none 0 0, .slice none 0 0, .int .i64 0, .int .i64 0] 33)) := below2 _ _ _
  have h2 := (hv.ext (Y := [w.heap.size, w.heap.size + 1]) hp (by simp)).sub (Y := w.heap.size :: (w.heap.size + 1) :: X) (by
    intro y hy
    simp at hy ⊢
    rcases hy with h | h | h
    · exact .inr (.inl h)
    · exact .inr (.inr h)
    · exact .inl h)
  exact ⟨⟨_, _, _, _, _, _, _, _, _, _, _, g0, h2.below hb⟩, g1, hb⟩
theorem RBox.drew (h : RBox w wr X M) : RBox w wr.drew X M := h.kept (Below.refl _ _).drew
theorem RBox.put (h : RBox w wr X M) (hb : Below wr.heap.size wr w') {M' : DM} {B1 B2 B3 : Option Addr} {m1 m2 m3 d1 d2 d3 : Nat} {s l : Int} (hR : RefV w' (w.heap.size :: (w.heap.size + 1) :: X) (refOf M') (.agg #[.slice B1 m1 d1, .slice B2 m2 d2, .slice B3 m3 d3, .int .i64 s, .int .i64 l])) :
    RBox w (((((w'.setCell ⟨w.heap.size, 0, none⟩ (.slice B1 m1 d1)).setCell ⟨w.heap.size, 1, none⟩ (.slice B2 m2 d2)).setCell ⟨w.heap.size, 2, none⟩ (.slice B3 m3 d3)).setCell ⟨w.heap.size, 3, none⟩ (.int .i64 s)).setCell ⟨w.heap.size, 4, none⟩ (.int .i64 l)) X M' := by
  have h7 := h.kept hb
  obtain ⟨A1, A2, A3, n1, n2, n3, c1, c2, c3, s', l', hg, hv⟩ := h7.box
  have hf : Fr w' (((((w'.setCell ⟨w.heap.size, 0, none⟩ (.slice B1 m1 d1)).setCell ⟨w.heap.size, 1, none⟩ (.slice B2 m2 d2)).setCell ⟨w.heap.size, 2, none⟩ (.slice B3 m3 d3)).setCell ⟨w.heap.size, 3, none⟩ (.int .i64 s)).setCell ⟨w.heap.size, 4, none⟩ (.int .i64 l)) [w.heap.size] := (((((Fr.refl _ _).setCell (by simp) _).setCell (by simp) _).setCell (by simp) _).setCell (by simp) _).setCell (by simp) _
  exact ⟨⟨_, _, _, _, _, _, _, _, _, _, _, set5 hg _ _ _ _ _, hR.fr hf (by simp)⟩, (hf.block _ (heap_lt h7.res) (by simp)).trans h7.res, h7.below.trans (hf.below h7.below.size (by simp))⟩
/-- What is handed back is stored. -/
theorem RBox.done (h : RBox w wr X M) (hb : Below wr.heap.size wr w') {M' : DM} {B1 B2 B3 : Option Addr} {m1 m2 m3 d1 d2 d3 : Nat} {s l : Int} (hR : RefV w' (w.heap.size :: (w.heap.size + 1) :: X) (refOf M') (.agg #[.slice B1 m1 d1, .slice B2 m2 d2, .slice B3 m3 d3, .int .i64 s, .int .i64 l])) :
    (((((w'.setCell ⟨w.heap.size + 1, 0, none⟩ (.slice B1 m1 d1)).setCell ⟨w.heap.size + 1, 1, none⟩ (.slice B2 m2 d2)).setCell ⟨w.heap.size + 1, 2, none⟩ (.slice B3 m3 d3)).setCell ⟨w.heap.size + 1, 3, none⟩ (.int .i64 s)).setCell ⟨w.heap.size + 1, 4, none⟩ (.int .i64 l)).heap[w.heap.size + 1]? = some (.cells #[.slice B1 m1 d1, .slice B2 m2 d2, .slice B3 m3 d3, .int .i64 s, .int .i64 l] 33 (0, 0)) ∧
    RefV (((((w'.setCell ⟨w.heap.size + 1, 0, none⟩ (.slice B1 m1 d1)).setCell ⟨w.heap.size + 1, 1, none⟩ (.slice B2 m2 d2)).setCell ⟨w.heap.size + 1, 2, none⟩ (.slice B3 m3 d3)).setCell ⟨w.heap.size + 1, 3, none⟩ (.int .i64 s)).setCell ⟨w.heap.size + 1, 4, none⟩ (.int .i64 l)) X (refOf M') (.agg #[.slice B1 m1 d1, .slice B2 m2 d2, .slice B3 m3 d3, .int .i64 s, .int .i64 l]) ∧
    Below w.heap.size w (((((w'.setCell ⟨w.heap.size + 1, 0, none⟩ (.slice B1 m1 d1)).setCell ⟨w.heap.size + 1, 1, none⟩ (.slice B2 m2 d2)).setCell ⟨w.heap.size + 1, 2, none⟩ (.slice B3 m3 d3)).setCell ⟨w.heap.size + 1, 3, none⟩ (.int .i64 s)).setCell ⟨w.heap.size + 1, 4, none⟩ (.int .i64 l)) := by
  have h7 := h.kept hb
  have hf : Fr w' (((((w'.setCell ⟨w.heap.size + 1, 0, none⟩ (.slice B1 m1 d1)).setCell ⟨w.heap.size + 1, 1, none⟩ (.slice B2 m2 d2)).setCell ⟨w.heap.size + 1, 2, none⟩ (.slice B3 m3 d3)).setCell ⟨w.heap.size + 1, 3, none⟩ (.int .i64 s)).setCell ⟨w.heap.size + 1, 4, none⟩ (.int .i64 l)) [w.heap.size + 1] := (((((Fr.refl _ _).setCell (by simp) _).setCell (by simp) _).setCell (by simp) _).setCell (by simp) _).setCell (by simp) _
  exact ⟨set5 h7.res _ _ _ _ _, (hR.fr hf (by simp)).sub (fun y hy => by simp [hy]), h7.below.trans (hf.below h7.below.size (by simp))⟩
end
end Go.Proofs.Ytajakmfloeefpaa
