/- Joined: Mem Fr DskZ DskY DskX LogAr DskA DskB DskC DskD DskE DskF DskG. -/
import Derived.Below
import Derived.Laws.OwnMore
import Derived.Laws.AppendOwn
import Derived.Laws.IdiomStrings
import Derived.Laws.Rows
import Derived.Deep.Draws
import Derived.Maps.AppendAt
import Derived.OwnWalk
import Derived.Test.YtajakmfloeefpaaProg
import Derived.WalkKit
import Derived.WalkSpells
import Derived.WalkLawsBesides
import Derived.WalkSmall
import Derived.Carry
import Derived.Deep.QuietTactic
import Derived.BigQuiet
import Derived.KernelRfl
import Derived.Lib.Hide
import Derived.Lib.SliceRun
import Derived.Deep.RegionHeld3
import Derived.Deep.RegionLaw
import Derived.Deep.RegionWith
import Derived.Deep.OwnRows
import Derived.ProofKit
import Derived.SizedLaws
import Derived.Deep.Slices
import Derived.Deep.Grids
import Derived.ChangeSame
import Derived.OpenShut
import Derived.Maps.Own
import Derived.Maps.OwnSet
import Derived.Maps.Views
import Derived.Deep.MidRow
import Derived.StillTailTactics
import Derived.Deep.WholeRow
import Derived.Lib.SlMapMerge
import Derived.Maps.Ext
import Derived.Maps.RangeWalk
import Derived.Laws.IdiomRangeMap
/- Words for memory (KeyW, KeyP and KeyOwnL as one text), used by the proofs of this seat: what a slice reads as, what a slice of the call's own holds. Nothing of the program is stated here. -/
namespace Go.Proofs.Ytajakmfloeefpaa
open Go.RowKit

theorem addBlock (p : Addr) (n : Nat) : (p.add n).block = p.block := by unfold Addr.add; split <;> rfl
theorem addAdd (p : Addr) (i j : Nat) : (p.add i).add j = p.add (i + j) := by
  unfold Addr.add
  by_cases hi : i = 0 <;> by_cases hj : j = 0 <;> simp [hi, hj, Nat.add_assoc]
theorem addZero (p : Addr) : p.add 0 = p := by simp [Addr.add]

theorem plainAdd (b o n : Nat) : (⟨b, o, none⟩ : Addr).add n = ⟨b, o + n, none⟩ := by
  unfold Addr.add
  by_cases h : n = 0 <;> simp [h]

/-- From the address A on lie the cells xs, below block B. -/
def Rd (w : World) (B : Nat) (A : Option Addr) (xs : List Value) : Prop :=
  xs ≠ [] → ∃ b o, A = some ⟨b, o, none⟩ ∧ b < B ∧ ∀ j u, xs[j]? = some u → w.cell? ⟨b, o + j, none⟩ = some u

section
variable {w w' : World} {B B' : Nat} {A : Option Addr} {xs ys : List Value}
theorem Rd.emp (w : World) (B : Nat) (A : Option Addr) : Rd w B A [] := fun h => absurd rfl h
theorem Rd.get (h : Rd w B A xs) {k : Nat} (hk : k < xs.length) : ∃ b o, A = some ⟨b, o, none⟩ ∧ b < B ∧ w.cell? ⟨b, o + k, none⟩ = some xs[k] := by
  obtain ⟨b, o, e, hb, hc⟩ := h (by rintro rfl; simp at hk)
  exact ⟨b, o, e, hb, hc k _ (List.getElem?_eq_getElem hk)⟩
theorem Rd.move (h : Rd w B A xs) (hk : ∀ p : Addr, p.block < B → w'.cell? p = w.cell? p) : Rd w' B A xs := fun hn => by
  obtain ⟨b, o, e, hb, hc⟩ := h hn
  exact ⟨b, o, e, hb, fun j u hu => (hk _ hb).trans (hc j u hu)⟩
theorem Rd.more (h : Rd w B A xs) (hB : B ≤ B') : Rd w B' A xs := fun hn => by
  obtain ⟨b, o, e, hb, hc⟩ := h hn
  exact ⟨b, o, e, by omega, hc⟩
theorem Rd.below (h : Rd w B A xs) {C : Nat} (hb : Below C w w') (hC : B ≤ C) : Rd w' B A xs := h.move fun _ hp => hb.cell (by omega)
theorem Rd.drew (h : Rd w B A xs) : Rd w.drew B A xs := h
theorem Rd.drewN (h : Rd w B A xs) (n : Nat) : Rd (w.drewN n) B A xs := h
theorem Rd.alloc (h : Rd w B A xs) (hB : B ≤ w.heap.size) (o : Obj) : Rd (w.alloc o) B A xs := h.move fun p _ => World.cell?_alloc_lt w o p (by omega)
theorem Rd.setCell (h : Rd w B A xs) {p : Addr} (hB : B ≤ p.block) (u : Value) : Rd (w.setCell p u) B A xs :=
  h.move fun q _ => World.cell?_setCell_other w p q u (fun e => by subst e; omega)
theorem Rd.grown (h : Rd w B A xs) {row : Option Nat} (hg : w.grownBy w' row) (hB : B ≤ w.heap.size) (hr : ∀ g, row = some g → B ≤ g) : Rd w' B A xs :=
  h.move fun p _ => World.cell?_of_block (hg.block p.block (by omega) (fun e => by have := hr _ e.symm; omega))
theorem Rd.take (h : Rd w B A xs) (n : Nat) : Rd w B A (xs.take n) := fun hn => by
  obtain ⟨b, o, e, hb, hc⟩ := h (by rintro rfl; simp at hn)
  exact ⟨b, o, e, hb, fun j u hu => hc j u (by
    rw [List.getElem?_take] at hu
    split at hu
    · exact hu
    · cases hu)⟩
/-- A cut, as the model spells its address. -/
theorem Rd.cut (h : Rd w B A xs) {k size cap n : Nat} (hl : xs.length = n * size) (hkn : k ≤ n) (hc : n ≤ cap) :
    Rd w B (if cap = k then A else A.map (·.add (k * size))) (xs.drop (k * size)) := fun hn => by
  have hlt : k * size < xs.length := by
    rcases Nat.lt_or_ge (k * size) xs.length with h1 | h1
    · exact h1
    · exact absurd (List.drop_of_length_le h1) hn
  obtain ⟨b, o, rfl, hb, hcell⟩ := h (by rintro rfl; simp at hlt)
  have hne : cap ≠ k := by
    rintro rfl
    have : n = cap := by omega
    subst this
    omega
  rw [if_neg hne]
  refine ⟨b, o + k * size, by rw [Option.map_some, plainAdd], hb, fun j u hu => ?_⟩
  rw [Nat.add_assoc]
  exact hcell _ u (by rw [← hu, List.getElem?_drop])
theorem Rd.ofOwn {base n c size : Nat} {e : TypeId} (h : w.ownsRow base e size (.slice A n c) n xs) : Rd w w.heap.size A xs := fun hn => by
  rcases h.2 with ⟨hv, h0⟩ | ⟨g, cap, cur, hv, _, hh, hr⟩
  · subst h0
    exact absurd (List.eq_nil_of_length_eq_zero (by simpa using h.1)) hn
  · have hA : A = some ⟨g, 0, none⟩ := by injection hv
    subst hA
    have hlt := (h.lt g rfl).2
    exact ⟨g, 0, rfl, hlt, fun j u hu => by rw [← plainAdd]; exact h.cells (g := g) rfl j u hu⟩
/-- What stands in a block that has just been made. -/
theorem Rd.new (w : World) (cs : Array Value) (t : TypeId) (fr : Nat × Nat) : Rd (w.alloc (.cells cs t fr)) (w.heap.size + 1) (some ⟨w.heap.size, 0, .none⟩) cs.toList := fun _ =>
  ⟨_, _, rfl, Nat.lt_succ_self _, fun j u hu => by
    have hb : (w.alloc (.cells cs t fr)).heap[w.heap.size]? = some (.cells cs t fr) := heap_alloc_new w _
    rw [Nat.zero_add, cell_of_row (w.alloc (.cells cs t fr)) w.heap.size j cs t fr hb, ← hu, Array.getElem?_toList]⟩
/-- A reading at whatever address is one at a plain address. -/
theorem Rd.ofAddr {p : Addr} (hb : p.block < B) (h : ∀ j u, xs[j]? = some u → w.cell? (p.add j) = some u) : Rd w B (some p) xs := fun hn => by
  obtain ⟨x, l, rfl⟩ := List.exists_cons_of_ne_nil hn
  obtain ⟨b, o, spot⟩ := p
  have hspot : spot = none := by simpa [Addr.add] using World.cell?_spot (h 0 x rfl)
  subst hspot
  exact ⟨b, o, rfl, hb, fun j u hu => by rw [← plainAdd]; exact h j u hu⟩
end

theorem below_draws {B : Nat} {a w : World} (h : Below B a w) (n : Nat) : Below B a (w.drewN n) := ⟨h.os, h.tape, h.output, h.size, h.block⟩

/-- Bytes as cells. -/
def u8s (l : List UInt8) : List Value := l.map fun b => .int .u8 (b.toNat : Int)
@[simp] theorem u8s_nil : u8s [] = [] := rfl
theorem u8s_cons (b : UInt8) (l : List UInt8) : u8s (b :: l) = .int .u8 (b.toNat : Int) :: u8s l := rfl
theorem u8s_append (l k : List UInt8) : u8s (l ++ k) = u8s l ++ u8s k := List.map_append
theorem u8s_length (l : List UInt8) : (u8s l).length = l.length := List.length_map _
theorem u8s_take (l : List UInt8) (n : Nat) : u8s (l.take n) = (u8s l).take n := List.map_take
theorem u8s_drop (l : List UInt8) (n : Nat) : u8s (l.drop n) = (u8s l).drop n := List.map_drop
theorem u8s_get (l : List UInt8) (k : Nat) (h : k < l.length) : (u8s l)[k]'(by rw [u8s_length]; exact h) = .int .u8 (l[k].toNat : Int) := by simp [u8s]
theorem u8s_one (l : List UInt8) : ∀ u ∈ u8s l, u.oneCell' = true := by
  intro u hu
  obtain ⟨b, _, rfl⟩ := List.mem_map.1 hu
  rfl

/-- The slice value v, of the call's own, holds the bytes l (e: the number of the type uint8). -/
def OwnB (w : World) (base : Nat) (e : TypeId) (v : Value) (l : List UInt8) : Prop := w.ownsRow base e 1 v l.length (u8s l)

section
variable {w w' : World} {base : Nat} {e : TypeId} {v : Value} {l : List UInt8}
theorem OwnB.nil (w : World) (base : Nat) (e : TypeId) : OwnB w base e (.slice none 0 0) [] := World.ownsRow_nil w base e 1
theorem OwnB.shape (h : OwnB w base e v l) : ∃ A c, v = .slice A l.length c ∧ l.length ≤ c ∧ c ≤ maxLen ∧ Rd w w.heap.size A (u8s l) ∧ (∀ p, A = some p → base ≤ p.block) := by
  have h' := h
  unfold OwnB at h'
  rcases h.2 with ⟨hv, h0⟩ | ⟨g, cap, cur, hv, hg, hh, hle, hm, hr⟩
  · exact ⟨none, 0, by rw [hv, h0], by omega, by simp [maxLen], by rw [List.eq_nil_of_length_eq_zero h0]; exact Rd.emp _ _ _, fun p hp => by cases hp⟩
  · subst hv
    exact ⟨some ⟨g, 0, none⟩, cap, rfl, hle, hm, Rd.ofOwn h', fun p hp => by injection hp with hp; subst hp; exact hg⟩
theorem OwnB.alloc (h : OwnB w base e v l) (o : Obj) : OwnB (w.alloc o) base e v l := World.ownsRow.alloc h o
theorem OwnB.drew (h : OwnB w base e v l) : OwnB w.drew base e v l := h
theorem OwnB.drewN (h : OwnB w base e v l) (n : Nat) : OwnB (w.drewN n) base e v l := h
theorem OwnB.below (h : OwnB w base e v l) {B : Nat} (hb : Below B w w') (hB : w.heap.size ≤ B) : OwnB w' base e v l := by
  refine World.ownsRow.kept (row := none) h ⟨hb.os, hb.tape, hb.output, hb.size, fun k hk _ => hb.block k (by omega)⟩ ?_
  rcases h.2 with ⟨hv, _⟩ | ⟨g, cap, cur, hv, _⟩
  · left; rw [hv]; rfl
  · right; rw [hv]; simp [Value.ownBlock]
theorem OwnB.mono (h : OwnB w base e v l) {base' : Nat} (hb : base' ≤ base) : OwnB w base' e v l := by
  refine ⟨h.1, ?_⟩
  rcases h.2 with h2 | ⟨g, cap, cur, hv, hg, r⟩
  · exact .inl h2
  · exact .inr ⟨g, cap, cur, hv, by omega, r⟩
/-- An empty slice that has just been made by a literal. -/
theorem OwnB.lit0 (w : World) (hb : base ≤ w.heap.size) : OwnB (w.alloc (.cells #[] e)) base e (.slice (some ⟨w.heap.size, 0, .none⟩) 0 0) [] := by
  have := World.ownsRow_made (e := e) (size := 1) w #[] 0 hb (by simp [maxLen]) (by simp)
  exact this
theorem OwnB.below' (h : OwnB w base e v l) {row : Option Nat} (hg : w.grownBy w' row) (hr : row = v.ownBlock) (hbase : base ≤ w.heap.size) : Below base w w' :=
  (Below.refl base w).grown hg hbase (fun k hk => (World.ownsRow.lt h k (hr ▸ hk)).1)
end

section
variable {w w' : World} {base : Nat} {e : TypeId} {v : Value} {l : List UInt8}
/-- A row that holds something lies at the head of a block of the call's own. -/
theorem OwnB.form (h : OwnB w base e v l) (hl : 0 < l.length) : ∃ g c, v = .slice (some ⟨g, 0, none⟩) l.length c ∧ base ≤ g ∧ g < w.heap.size ∧ l.length ≤ c ∧ c ≤ maxLen := by
  have h' := h
  unfold OwnB at h'
  rcases h.2 with ⟨_, h0⟩ | ⟨g, cap, cur, hv, hg, hh, hle, hm, hr⟩
  · omega
  · subst hv
    exact ⟨g, cap, rfl, hg, (World.ownsRow.lt h' g rfl).2, hle, hm⟩
theorem OwnB.cell {g c : Nat} (h : OwnB w base e (.slice (some ⟨g, 0, none⟩) l.length c) l) {j : Nat} (hj : j < l.length) : w.cell? ⟨g, j, none⟩ = some (.int .u8 (l[j].toNat : Int)) := by
  have := World.ownsRow.cellAt h j (by simpa using hj)
  rw [this, List.getElem?_eq_getElem (by rw [u8s_length]; exact hj), u8s_get l j hj]
theorem OwnB.free {g c : Nat} (h : OwnB w base e (.slice (some ⟨g, 0, none⟩) l.length c) l) (j : Nat) : w.frozen? ⟨g, j, none⟩ = false := World.ownsRow.frozenAt h j
theorem u8s_set (l : List UInt8) (j : Nat) (b : UInt8) : u8s (l.set j b) = (u8s l).set j (.int .u8 (b.toNat : Int)) := by simp [u8s, List.map_set]
theorem OwnB.store {g c : Nat} (h : OwnB w base e (.slice (some ⟨g, 0, none⟩) l.length c) l) (j : Nat) (b : UInt8) :
    OwnB (w.setCell ⟨g, j, none⟩ (.int .u8 (b.toNat : Int))) base e (.slice (some ⟨g, 0, none⟩) l.length c) (l.set j b) := by
  have := (World.ownsRow.stored h j (.int .u8 (b.toNat : Int))).1
  unfold OwnB
  rw [u8s_set, List.length_set]
  exact this
end

/-- append of bytes onto a row of the call's own; the source may be nil or empty. -/
theorem run_appB {P : Program} (w : World) (base : Nat) (t ty e : TypeId) (i : TypeInfo) (z : Value) (ht : P.underlying t = some (.slice e)) (hi : P.info? e = some i) (hz : i.zero = some z)
    (hsize : i.size = 1) (hby : i.bytes = 1) (hzs : z.cells.size = 1) (v : Value) (l : List UInt8) (hown : OwnB w base e v l)
    (B : Nat) (A : Option Addr) (m c : Nat) (k : List UInt8) (hm : m = k.length) (hr : Rd w B A (u8s k)) (hlen : l.length + k.length ≤ 140737488355328) (hbase : base ≤ w.heap.size) :
    ∃ v' w', (Builtin.append_ #[t, t] ty #[v, .slice A m c]).run P w = .ok v' w' ∧ OwnB w' base e v' (l ++ k) ∧ w.grownBy w' v.ownBlock ∧ (v'.ownBlock = v.ownBlock ∨ v'.ownBlock = some w.heap.size) := by
  subst hm
  have hown' := hown
  unfold OwnB at hown'
  have hml : l.length + k.length ≤ maxLen := by simp only [maxLen]; omega
  rcases Nat.eq_zero_or_pos k.length with h0 | h0
  · have hk : k = [] := List.eq_nil_of_length_eq_zero h0
    subst hk
    rcases A with _ | p
    · refine ⟨v, w, ?_, by simpa using hown, World.grownBy.refl w _, .inl rfl⟩
      rcases hown'.2 with ⟨rfl, _⟩ | ⟨g, cap, cur, rfl, _, _, hnc, _⟩
      · simp [Builtin.append_, run_underlying ht, sizeOf, typeInfo, hi, Builtin.lenOf, Builtin.firstCells]
      · simp [Builtin.append_, run_underlying ht, sizeOf, typeInfo, hi, Builtin.lenOf, Builtin.firstCells, hnc, storeCells]
    · obtain ⟨v', w', hrun, h2, h3, _, h5⟩ := run_append_own_at (P := P) w base t ty e i z 1 1 ht hi hz hsize hby hzs (by omega) v _ _ hown' p 0 c [] (by simp) (by simp) (by simp) (by simpa using hml) (by simpa using hlen) hbase
      exact ⟨v', w', hrun, by simpa [OwnB] using h2, h3, h5⟩
  · obtain ⟨b, o, rfl, _, hc⟩ := hr (by intro e0; have := u8s_length k; rw [e0] at this; simp at this; omega)
    obtain ⟨v', w', hrun, h2, h3, _, h5⟩ := run_append_own_at (P := P) w base t ty e i z 1 1 ht hi hz hsize hby hzs (by omega) v _ _ hown' ⟨b, o, none⟩ k.length c (u8s k) (by rw [u8s_length]; omega) (fun j u hu => by rw [plainAdd]; exact hc j u hu) (u8s_one k) hml (by omega) hbase
    refine ⟨v', w', hrun, ?_, h3, h5⟩
    unfold OwnB
    rw [u8s_append, List.length_append]
    exact h2

theorem wpList_appB {P : Program} (w : World) {ops : Array Oper} {rest : List Oper} {o : Oper} {a : Act} {Q : Exit → Act → World → Prop} (hgd : o.guard = none) (s x : Operand) (t : TypeId)
    (ho : o.op = .call { callee := .builtin .append, args := #[s, x], argTypes := #[t, t] })
    (base : Nat) (e : TypeId) (i : TypeInfo) (z : Value) (ht : P.underlying t = some (.slice e)) (hi : P.info? e = some i) (hz : i.zero = some z)
    (hsize : i.size = 1) (hby : i.bytes = 1) (hzs : z.cells.size = 1) (v : Value) (l : List UInt8) (hs : a.eval s = v) (hown : OwnB w base e v l)
    (B : Nat) (A : Option Addr) (m c : Nat) (k : List UInt8) (hx : a.eval x = .slice A m c) (hm : m = k.length) (hr : Rd w B A (u8s k)) (hlen : l.length + k.length ≤ 140737488355328) (hbase : base ≤ w.heap.size)
    (h : ∀ v' w', OwnB w' base e v' (l ++ k) → w.grownBy w' v.ownBlock → (v'.ownBlock = v.ownBlock ∨ v'.ownBlock = some w.heap.size) → wpList P ops Q rest (a.put o.dst v') w') : wpList P ops Q (o :: rest) a w := by
  refine wpList_plain hgd fun K hK => ?_
  obtain ⟨v', w', hrun, h2, h3, h4⟩ := run_appB (P := P) w base t o.type e i z ht hi hz hsize hby hzs v l hown B A m c k hm hr hlen hbase
  unfold Oper.wp execOp
  simp only [ho, resolve, invoke, builtin, Sem.run_bind, Sem.run_pure, Result.andThen_ok, List.map_toArray, List.map_cons, List.map_nil, hs, hx, hrun]
  exact hK _ _ (h v' w' h2 h3 h4)

/-- string(b) of bytes that lie in memory. -/
theorem run_strB {P : Program} (w : World) (src dst e : TypeId) (A : Option Addr) (n cap B : Nat) (l : List UInt8) (hs : P.underlying src = some (.slice e)) (he : P.underlying e = some (.int .u8)) (hd : P.underlying dst = some .string)
    (hn : n = l.length) (hr : Rd w B A (u8s l)) : (convert src dst (.slice A n cap)).run P w = .ok (.string ⟨l.toArray⟩) w := by
  subst hn
  rcases A with _ | p
  · have h0 : l = [] := by
      rcases l with _ | ⟨b, l⟩
      · rfl
      · obtain ⟨_, _, hp, _⟩ := hr (by simp [u8s])
        cases hp
    subst h0
    rw [run_convert_bytes_string w src dst e _ _ cap hs he hd]
    simp [Conv.bytesToString]
    rfl
  · refine run_convert_bytes_back w src dst e p cap l hs he hd fun j hj => ?_
    obtain ⟨b, o, hq, _, hc⟩ := hr.get (k := j) (by rw [u8s_length]; exact hj)
    injection hq with hq
    subst hq
    rw [plainAdd, hc, u8s_get l j hj]
section
variable {w w' : World} {base : Nat} {e : TypeId} {v : Value} {size n : Nat} {xs : List Value}
theorem own_shape (h : w.ownsRow base e size v n xs) : ∃ A c, v = .slice A n c ∧ n ≤ c ∧ c ≤ maxLen ∧ Rd w w.heap.size A xs := by
  have h' := h
  rcases h.2 with ⟨hv, h0⟩ | ⟨g, cap, cur, hv, hg, hh, hle, hm, hr⟩
  · exact ⟨none, 0, by rw [hv, h0], by omega, by simp [maxLen], by
      have : xs = [] := List.eq_nil_of_length_eq_zero (by rw [h.1, h0]; simp)
      rw [this]; exact Rd.emp _ _ _⟩
  · subst hv
    exact ⟨some ⟨g, 0, none⟩, cap, rfl, hle, hm, Rd.ofOwn h'⟩
theorem own_below (h : w.ownsRow base e size v n xs) {B : Nat} (hb : Below B w w') (hB : w.heap.size ≤ B) : w'.ownsRow base e size v n xs := by
  refine World.ownsRow.kept (row := none) h ⟨hb.os, hb.tape, hb.output, hb.size, fun k hk _ => hb.block k (by omega)⟩ ?_
  rcases h.2 with ⟨hv, _⟩ | ⟨g, cap, cur, hv, _⟩
  · left; rw [hv]; rfl
  · right; rw [hv]; simp [Value.ownBlock]
theorem own_mono (h : w.ownsRow base e size v n xs) {base' : Nat} (hb : base' ≤ base) : w.ownsRow base' e size v n xs := by
  refine ⟨h.1, ?_⟩
  rcases h.2 with h2 | ⟨g, cap, cur, hv, hg, r⟩
  · exact .inl h2
  · exact .inr ⟨g, cap, cur, hv, by omega, r⟩
theorem own_lit0 (w : World) (hb : base ≤ w.heap.size) : (w.alloc (.cells #[] e)).ownsRow base e size (.slice (some ⟨w.heap.size, 0, .none⟩) 0 0) 0 [] :=
  World.ownsRow_made (e := e) (size := size) w #[] 0 hb (by simp [maxLen]) (by simp)
end

/-- append onto a row of the call's own, of elements of whatever size; the source may be nil or empty. -/
theorem run_appR {P : Program} (w : World) (base : Nat) (t ty e : TypeId) (i : TypeInfo) (z : Value) (size bytes : Nat) (ht : P.underlying t = some (.slice e)) (hi : P.info? e = some i) (hz : i.zero = some z)
    (hsize : i.size = size) (hby : i.bytes = bytes) (hzs : z.cells.size = size) (hs0 : 0 < size) (v : Value) (n : Nat) (xs : List Value) (hown : w.ownsRow base e size v n xs)
    (B : Nat) (A : Option Addr) (m c : Nat) (ys : List Value) (hm : ys.length = m * size) (hr : Rd w B A ys) (h1 : ∀ u ∈ ys, u.oneCell' = true) (hlen : (n + m) * bytes ≤ 140737488355328) (hb1 : 1 ≤ bytes) (hbase : base ≤ w.heap.size) :
    ∃ v' w', (Builtin.append_ #[t, t] ty #[v, .slice A m c]).run P w = .ok v' w' ∧ w'.ownsRow base e size v' (n + m) (xs ++ ys) ∧ w.grownBy w' v.ownBlock ∧ (v'.ownBlock = v.ownBlock ∨ v'.ownBlock = some w.heap.size) := by
  have hml : n + m ≤ maxLen := by
    have : n + m ≤ (n + m) * bytes := Nat.le_mul_of_pos_right _ (by omega)
    simp only [maxLen]; omega
  rcases Nat.eq_zero_or_pos m with h0 | h0
  · subst h0
    have hk : ys = [] := List.eq_nil_of_length_eq_zero (by rw [hm]; simp)
    subst hk
    rcases A with _ | p
    · refine ⟨v, w, ?_, by simpa using hown, World.grownBy.refl w _, .inl rfl⟩
      rcases hown.2 with ⟨rfl, _⟩ | ⟨g, cap, cur, rfl, _, _, hnc, _⟩
      · simp [Builtin.append_, run_underlying ht, sizeOf, typeInfo, hi, Builtin.lenOf, Builtin.firstCells]
      · simp [Builtin.append_, run_underlying ht, sizeOf, typeInfo, hi, Builtin.lenOf, Builtin.firstCells, hnc, storeCells]
    · obtain ⟨v', w', hrun, h2, h3, _, h5⟩ := run_append_own_at (P := P) w base t ty e i z size bytes ht hi hz hsize hby hzs hs0 v _ _ hown p 0 c [] (by simp) (by simp) (by simp) hml hlen hbase
      exact ⟨v', w', hrun, h2, h3, h5⟩
  · have hne : ys ≠ [] := by
      rintro rfl
      have h2 : 0 < m * size := Nat.mul_pos h0 hs0
      rw [← hm] at h2
      simp at h2
    obtain ⟨b, o, rfl, _, hc⟩ := hr hne
    obtain ⟨v', w', hrun, h2, h3, _, h5⟩ := run_append_own_at (P := P) w base t ty e i z size bytes ht hi hz hsize hby hzs hs0 v _ _ hown ⟨b, o, none⟩ m c ys hm (fun j u hu => by rw [plainAdd]; exact hc j u hu) h1 hml hlen hbase
    exact ⟨v', w', hrun, h2, h3, h5⟩

theorem wpList_appR {P : Program} (w : World) {ops : Array Oper} {rest : List Oper} {o : Oper} {a : Act} {Q : Exit → Act → World → Prop} (hgd : o.guard = none) (s x : Operand) (t : TypeId)
    (ho : o.op = .call { callee := .builtin .append, args := #[s, x], argTypes := #[t, t] })
    (base : Nat) (e : TypeId) (i : TypeInfo) (z : Value) (size bytes : Nat) (ht : P.underlying t = some (.slice e)) (hi : P.info? e = some i) (hz : i.zero = some z)
    (hsize : i.size = size) (hby : i.bytes = bytes) (hzs : z.cells.size = size) (hs0 : 0 < size) (v : Value) (n : Nat) (xs : List Value) (hs : a.eval s = v) (hown : w.ownsRow base e size v n xs)
    (B : Nat) (A : Option Addr) (m c : Nat) (ys : List Value) (hx : a.eval x = .slice A m c) (hm : ys.length = m * size) (hr : Rd w B A ys) (h1 : ∀ u ∈ ys, u.oneCell' = true) (hlen : (n + m) * bytes ≤ 140737488355328) (hb1 : 1 ≤ bytes) (hbase : base ≤ w.heap.size)
    (h : ∀ v' w', w'.ownsRow base e size v' (n + m) (xs ++ ys) → w.grownBy w' v.ownBlock → (v'.ownBlock = v.ownBlock ∨ v'.ownBlock = some w.heap.size) → wpList P ops Q rest (a.put o.dst v') w') : wpList P ops Q (o :: rest) a w := by
  refine wpList_plain hgd fun K hK => ?_
  obtain ⟨v', w', hrun, h2, h3, h4⟩ := run_appR (P := P) w base t o.type e i z size bytes ht hi hz hsize hby hzs hs0 v n xs hown B A m c ys hm hr h1 hlen hb1 hbase
  unfold Oper.wp execOp
  simp only [ho, resolve, invoke, builtin, Sem.run_bind, Sem.run_pure, Result.andThen_ok, List.map_toArray, List.map_cons, List.map_nil, hs, hx, hrun]
  exact hK _ _ (h v' w' h2 h3 h4)

theorem grown_below {w w' : World} {g B : Nat} (h : w.grownBy w' (some g)) (hg : B ≤ g) (hB : B ≤ w.heap.size) : Below B w w' :=
  (Below.refl _ _).grown h hB (fun k hk => by injection hk with hk; omega)
theorem grownBy_trans {a b c : World} {g : Nat} (h : a.grownBy b (some g)) (k : b.grownBy c (some g)) : a.grownBy c (some g) := World.grownBy.trans h k

theorem own_keptBy {w w' : World} {base g size n : Nat} {e : TypeId} {v : Value} {xs : List Value} (h : w.ownsRow base e size v n xs) (hg : w.grownBy w' (some g)) (hlt : g < base) : w'.ownsRow base e size v n xs := by
  refine World.ownsRow.kept h hg ?_
  rcases hv : v.ownBlock with _ | k
  · exact .inl rfl
  · refine .inr ?_
    intro e
    injection e with e
    have := (World.ownsRow.lt h k hv).1
    omega

end Go.Proofs.Ytajakmfloeefpaa
/- What stays of a world; rows and bytes in memory: words that the walks of several layers share. -/
namespace Go.Proofs.Ytajakmfloeefpaa
open Go.RowKit Go.Maps

/-- Of the blocks that were there, only these may have turned. -/
structure Fr (w w' : World) (S : List Nat) : Prop where
  os : w'.os = w.os
  tape : w'.tape = w.tape
  output : w'.output = w.output
  size : w.heap.size ≤ w'.heap.size
  block : ∀ k, k < w.heap.size → k ∉ S → w'.heap[k]? = w.heap[k]?
theorem Fr.refl (w : World) (S : List Nat) : Fr w w S := ⟨rfl, rfl, rfl, Nat.le_refl _, fun _ _ _ => rfl⟩
theorem Fr.trans {a b c : World} {S : List Nat} (h : Fr a b S) (k : Fr b c S) : Fr a c S :=
  ⟨k.os.trans h.os, k.tape.trans h.tape, k.output.trans h.output, Nat.le_trans h.size k.size, fun i hi hs => (k.block i (Nat.lt_of_lt_of_le hi h.size) hs).trans (h.block i hi hs)⟩
theorem Fr.more {a b c : World} {S S' : List Nat} (h : Fr a b S) (k : Fr b c S') (hS : ∀ s ∈ S', s ∈ S ∨ a.heap.size ≤ s) : Fr a c S :=
  ⟨k.os.trans h.os, k.tape.trans h.tape, k.output.trans h.output, Nat.le_trans h.size k.size, fun i hi hs => (k.block i (Nat.lt_of_lt_of_le hi h.size) (fun hm => (hS i hm).elim hs (fun h => by omega))).trans (h.block i hi hs)⟩
theorem Fr.mono {w w' : World} {S S' : List Nat} (h : Fr w w' S) (hS : ∀ x ∈ S, x ∈ S') : Fr w w' S' :=
  ⟨h.os, h.tape, h.output, h.size, fun k hk hs => h.block k hk fun hx => hs (hS k hx)⟩
theorem Fr.below {w w' : World} {S : List Nat} (h : Fr w w' S) {B : Nat} (hB : B ≤ w.heap.size) (hS : ∀ x ∈ S, B ≤ x) : Below B w w' :=
  ⟨h.os, h.tape, h.output, h.size, fun k hk => h.block k (Nat.lt_of_lt_of_le hk hB) fun hx => by have := hS k hx; omega⟩
theorem Fr.of_below {w w' : World} (h : Below w.heap.size w w') (S : List Nat) : Fr w w' S := ⟨h.os, h.tape, h.output, h.size, fun k hk _ => h.block k hk⟩
theorem Fr.of_grown {w w' : World} {b : Nat} (h : w.grownBy w' (some b)) : Fr w w' [b] :=
  ⟨h.os, h.tape, h.output, h.size, fun k hk hs => h.block k hk fun e => by injection e with e; exact hs (by simp [e])⟩
theorem Fr.of_grown0 {w w' : World} (h : w.grownBy w' none) (S : List Nat) : Fr w w' S :=
  ⟨h.os, h.tape, h.output, h.size, fun k hk _ => h.block k hk fun e => by cases e⟩
theorem Fr.setCell {a w : World} {S : List Nat} (h : Fr a w S) {p : Addr} (hp : p.block ∈ S) (u : Value) : Fr a (w.setCell p u) S :=
  h.trans ⟨rfl, rfl, rfl, by simp [World.setCell], fun k _ hs => Below.heap_setCell _ _ _ _ (fun e => hs (e ▸ hp))⟩
theorem Fr.alloc {a w : World} {S : List Nat} (h : Fr a w S) (o : Obj) : Fr a (w.alloc o) S :=
  h.trans ⟨rfl, rfl, rfl, by simp, fun k hk _ => Below.heap_alloc _ _ _ hk⟩
theorem Fr.drew {a w : World} {S : List Nat} (h : Fr a w S) : Fr a w.drew S := ⟨h.os, h.tape, h.output, h.size, h.block⟩
theorem Fr.drewN {a w : World} {S : List Nat} (h : Fr a w S) (n : Nat) : Fr a (w.drewN n) S := ⟨h.os, h.tape, h.output, h.size, h.block⟩
theorem u8s_inj : ∀ {a b : List UInt8}, u8s a = u8s b → a = b
  | [], [], _ => rfl
  | [], _ :: _, h => by cases h
  | _ :: _, [], h => by cases h
  | x :: a, y :: b, h => by
    rw [u8s_cons, u8s_cons] at h
    injection h with h1 h2
    injection h1 with _ h3
    have : x.toNat = y.toNat := by omega
    rw [UInt8.toNat_inj.mp this, u8s_inj h2]
theorem u8s_len : ∀ l : List UInt8, (u8s l).length = l.length
  | [] => rfl
  | x :: l => by rw [u8s_cons]; simp [u8s_len l]
/-- A slice that reads xs, in none of the blocks of X. -/
def Sl (w : World) (X : List Nat) (A : Option Addr) (xs : List Value) : Prop := Rd w w.heap.size A xs ∧ ∀ a, A = some a → a.block ∉ X
theorem Sl.below {w w' : World} {X : List Nat} {A : Option Addr} {xs : List Value} (h : Sl w X A xs) (hb : Below w.heap.size w w') : Sl w' X A xs := by
  refine ⟨fun hn => ?_, h.2⟩
  obtain ⟨b, o, e, hlt, hc⟩ := h.1 hn
  exact ⟨b, o, e, Nat.lt_of_lt_of_le hlt hb.size, fun j u hu => by rw [← hc j u hu]; exact hb.cell (p := ⟨b, o + j, none⟩) hlt⟩
theorem Sl.fr {w w' : World} {X S : List Nat} {A : Option Addr} {xs : List Value} (h : Sl w X A xs) (hf : Fr w w' S) (hS : ∀ x ∈ S, x ∈ X) : Sl w' X A xs := by
  refine ⟨fun hn => ?_, h.2⟩
  obtain ⟨b, o, e, hlt, hc⟩ := h.1 hn
  have hx : b ∉ S := fun hb => h.2 _ e (hS b hb)
  exact ⟨b, o, e, Nat.lt_of_lt_of_le hlt hf.size, fun j u hu => by rw [← hc j u hu]; exact World.cell?_of_block (hf.block b hlt hx)⟩
theorem alloc1_size (w : World) (o : Obj) : (w.alloc o).heap.size = w.heap.size + 1 := by simp
theorem ret_int {k : IntKind} {a b : Int} (h : a = b) : Ending.returned (.int k a) = .returned (.int k b) := by rw [h]
theorem infoU8 : (Try.prog.info? 5).map (fun i => (i.zero, i.size, i.bytes)) = some (some (.int .u8 0), 1, 1) := by kernel_rfl
theorem lower {B C : Nat} {a b : World} (h : Below B a b) (hB : C ≤ B) : Below C a b := ⟨h.os, h.tape, h.output, h.size, fun k hk => h.block k (by omega)⟩
theorem Fr.lower {a b : World} {S : List Nat} {C : Nat} (h : Fr a b S) (hC : C ≤ a.heap.size) (hS : ∀ x ∈ S, C ≤ x) : Below C a b := h.below hC hS
theorem strAt {w : World} {A : Option Addr} {n c B : Nat} {l : List UInt8} (hr : Rd w B A (u8s l)) (hn : n = l.length) :
    (convert 45 9 (.slice A n c)).run Try.prog w = .ok (.string ⟨l.toArray⟩) w :=
  run_strB (P := Try.prog) w 45 9 5 A n c B l Try.underlying45 Try.underlying5 Try.underlying9 hn hr
theorem Sl.drew {w : World} {X : List Nat} {A : Option Addr} {xs : List Value} (h : Sl w X A xs) : Sl w.drew X A xs := h
theorem not_nil (g n c : Nat) (w : World) : (binOp BinOp.eql 45 (.slice (some ⟨g, 0, none⟩) n c) (.slice none 0 0)).run Try.prog w = .ok (.bool false) w := Lib.run_eql_slice_nil w _ _ (some ⟨g, 0, none⟩) n c 0 0 Try.underlying45
theorem Below.drewN' {B : Nat} {a b : World} (h : Below B a b) (n : Nat) : Below B a (b.drewN n) := ⟨h.os, h.tape, h.output, h.size, h.block⟩
theorem beq_bytes {a b : List UInt8} (h : a ≠ b) : (a == b) = false := beq_eq_false_iff_ne.2 h
theorem infoStr : (Try.prog.info? 9).map (fun i => (i.zero, i.size, i.bytes)) = some (some (.string .empty), 1, 16) := by kernel_rfl
theorem infoBool : (Try.prog.info? 4).map (fun i => (i.zero, i.size, i.bytes)) = some (some (.bool false), 1, 1) := by kernel_rfl
theorem infoInt : (Try.prog.info? 3).map (fun i => (i.zero, i.size, i.bytes)) = some (some (.int .i64 0), 1, 8) := by kernel_rfl
theorem own_form {w : World} {base size n : Nat} {e : TypeId} {v : Value} {xs : List Value} (h : w.ownsRow base e size v n xs) (hn : 0 < n) : ∃ g c, v = .slice (some ⟨g, 0, none⟩) n c ∧ base ≤ g ∧ g < w.heap.size ∧ n ≤ c ∧ c ≤ maxLen := by
  have h' := h
  rcases h.2 with ⟨_, h0⟩ | ⟨g, cap, cur, hv, hg, hh, hle, hm, hr⟩
  · omega
  · subst hv
    exact ⟨g, cap, rfl, hg, (World.ownsRow.lt h' g rfl).2, hle, hm⟩
/-- What a call owns reads as a slice in none of some elder blocks. -/
theorem own_sl {w : World} {base size n : Nat} {e : TypeId} {X : List Nat} {v : Value} {xs : List Value} (h : w.ownsRow base e size v n xs) (hX : ∀ x ∈ X, x < base) : ∃ A c, v = .slice A n c ∧ n ≤ c ∧ c ≤ maxLen ∧ Sl w X A xs := by
  have h' := h
  rcases h.2 with ⟨hv, h0⟩ | ⟨g, cap, cur, hv, hg, hh, hle, hm, hr⟩
  · exact ⟨none, 0, by rw [hv, h0], by omega, by simp [maxLen], by
      have : xs = [] := List.eq_nil_of_length_eq_zero (by rw [h.1, h0]; simp)
      rw [this]; exact ⟨Rd.emp _ _ _, fun a ha => by cases ha⟩⟩
  · subst hv
    exact ⟨some ⟨g, 0, none⟩, cap, rfl, hle, hm, Rd.ofOwn h', fun a ha => by cases ha; exact fun hx => by have := hX g hx; omega⟩
theorem grown_fr {w w' : World} {g : Nat} (h : w.grownBy w' (some g)) : Fr w w' [g] := Fr.of_grown h
theorem lower' {B C : Nat} {a b : World} (h : Below B a b) (hB : C ≤ B) : Below C a b := ⟨h.os, h.tape, h.output, h.size, fun k hk => h.block k (by omega)⟩
theorem heap_lt {w : World} {b : Nat} {o : Obj} (h : w.heap[b]? = some o) : b < w.heap.size := (Array.getElem?_eq_some_iff.1 h).1
theorem append0_below {W w2 : World} {e : TypeId} (h : (W.alloc (.cells #[] e)).grownBy w2 (Value.slice (some ⟨W.heap.size, 0, none⟩) 0 0).ownBlock) : Below W.heap.size W w2 :=
  ((Below.refl _ W).alloc (Nat.le_refl _) _).trans (grown_below (g := W.heap.size) h (Nat.le_refl _) (by simp))
theorem two_new (w : World) (o o' : Obj) : ((w.alloc o).alloc o').heap[w.heap.size]? = some o ∧ ((w.alloc o).alloc o').heap[w.heap.size + 1]? = some o' := by
  refine ⟨(Below.heap_alloc _ _ _ (by simp)).trans (heap_alloc_new w o), ?_⟩
  have := heap_alloc_new (w.alloc o) o'
  rw [alloc1_size] at this
  exact this
theorem append0_below' {W w2 : World} {e : TypeId} {n : Nat} (hn : W.heap.size = n) (h : (W.alloc (.cells #[] e)).grownBy w2 (Value.slice (some ⟨n, 0, none⟩) 0 0).ownBlock) : Below n W w2 := by
  subst hn
  exact append0_below h
theorem own_lit0' {e : TypeId} {size n : Nat} (W : World) (hn : W.heap.size = n) : (W.alloc (.cells #[] e)).ownsRow n e size (.slice (some ⟨n, 0, none⟩) 0 0) 0 [] := by
  subst hn
  exact own_lit0 W (Nat.le_refl _)
/-- append whose run is known, at the operation, in a region that draws its order. -/
theorem step_appK {ops : Array Oper} {o : Oper} {a : Act} {K : Act → World → Prop} {Q : Exit → Act → World → Prop} {E : Prop} (w : World) (hw : Region.wanted o (yielded ops a.tmps) = true) (s x : Operand) (t : TypeId)
    (ho : o.op = .call { callee := .builtin .append, args := #[s, x], argTypes := #[t, t] }) (hty : o.type = t) (v y v' : Value) (w' : World) (hs : a.eval s = v) (hx : a.eval x = y)
    (hrun : (Builtin.append_ #[t, t] t #[v, y]).run Try.prog w = .ok v' w') (h : K (a.put o.dst v') w') :
    if Region.wanted o (yielded ops a.tmps) = true then Oper.wp Try.prog o a w K Q else E := by
  rw [if_pos hw]
  unfold Oper.wp execOp
  simp only [ho, hty, resolve, invoke, builtin, Sem.run_bind, Sem.run_pure, Result.andThen_ok, List.map_toArray, List.map_cons, List.map_nil, hs, hx, hrun]
  exact h
/-- append whose run is known, at the operation, in a region that draws its order. -/
theorem step_appK' {o : Oper} {a : Act} {K : Act → World → Prop} {Q : Exit → Act → World → Prop} (w : World) (s x : Operand) (t : TypeId)
    (ho : o.op = .call { callee := .builtin .append, args := #[s, x], argTypes := #[t, t] }) (hty : o.type = t) (v y v' : Value) (w' : World) (hs : a.eval s = v) (hx : a.eval x = y)
    (hrun : (Builtin.append_ #[t, t] t #[v, y]).run Try.prog w = .ok v' w') (h : K (a.put o.dst v') w') :
    Oper.wp Try.prog o a w K Q := by
  unfold Oper.wp execOp
  simp only [ho, hty, resolve, invoke, builtin, Sem.run_bind, Sem.run_pure, Result.andThen_ok, List.map_toArray, List.map_cons, List.map_nil, hs, hx, hrun]
  exact h
theorem grown_below' {w w' : World} {r : Option Nat} {B : Nat} (h : w.grownBy w' r) (hg : ∀ k, r = some k → B ≤ k) (hB : B ≤ w.heap.size) : Below B w w' :=
  ⟨h.os, h.tape, h.output, h.size, fun k hk => h.block k (by omega) (fun e => by have := hg k e.symm; omega)⟩
theorem own_ge {w : World} {base size n : Nat} {e : TypeId} {v : Value} {xs : List Value} (h : w.ownsRow base e size v n xs) : ∀ s ∈ v.ownBlock.toList, base ≤ s := fun s hs => (World.ownsRow.lt h s (by simpa using hs)).1
/-- Bytes that lie in a block of bytes. -/
def DataAt (w : World) (A : Option Addr) (l : List UInt8) : Prop := Rd w w.heap.size A (u8s l) ∧ ∀ a, A = some a → ∃ cs fr, w.heap[a.block]? = some (.cells cs 5 fr)
/-- A block that holds no bytes. -/
def NoBytes (w : World) (b : Nat) : Prop := ∀ cs fr, w.heap[b]? ≠ some (.cells cs 5 fr)
theorem DataAt.fr {w w' : World} {A : Option Addr} {l : List UInt8} {S : List Nat} (h : DataAt w A l) (hf : Fr w w' S) (hS : ∀ s ∈ S, NoBytes w s) : DataAt w' A l := by
  have hns : ∀ a, A = some a → a.block ∉ S ∧ a.block < w.heap.size := fun a ha => by
    obtain ⟨cs, fr, hg⟩ := h.2 a ha
    exact ⟨fun hm => hS _ hm cs fr hg, heap_lt hg⟩
  refine ⟨fun hn => ?_, fun a ha => ?_⟩
  · obtain ⟨b, o, e, hb, hc⟩ := h.1 hn
    have := hns _ e
    exact ⟨b, o, e, Nat.lt_of_lt_of_le hb hf.size, fun j u hu => (World.cell?_of_block (hf.block b hb this.1)).trans (hc j u hu)⟩
  · obtain ⟨cs, fr, hg⟩ := h.2 a ha
    exact ⟨cs, fr, (hf.block _ (hns a ha).2 (hns a ha).1).trans hg⟩
theorem noBytes_own {w : World} {base size n : Nat} {e : TypeId} {v : Value} {xs : List Value} (h : w.ownsRow base e size v n xs) (he : e ≠ 5) : ∀ s ∈ v.ownBlock.toList, NoBytes w s := by
  intro s hs cs fr hg
  rcases h.2 with ⟨hv, _⟩ | ⟨g, cap, cur, hv, _, hgg, _⟩
  · rw [hv] at hs; simp [Value.ownBlock] at hs
  · rw [hv] at hs
    simp [Value.ownBlock] at hs
    subst hs
    rw [hgg] at hg
    cases hg
    exact he rfl
theorem own_apart {w : World} {b1 b2 s1 s2 n1 n2 : Nat} {e1 e2 : TypeId} {v1 v2 : Value} {x1 x2 : List Value} (h1 : w.ownsRow b1 e1 s1 v1 n1 x1) (h2 : w.ownsRow b2 e2 s2 v2 n2 x2) (he : e1 ≠ e2) : ∀ s ∈ v1.ownBlock.toList, s ∉ v2.ownBlock.toList := by
  intro s hs hs2
  rcases h1.2 with ⟨hv, _⟩ | ⟨g, cap, cur, hv, _, hgg, _⟩
  · rw [hv] at hs; simp [Value.ownBlock] at hs
  · rcases h2.2 with ⟨hv2, _⟩ | ⟨g2, cap2, cur2, hv2, _, hgg2, _⟩
    · rw [hv2] at hs2; simp [Value.ownBlock] at hs2
    · rw [hv] at hs
      rw [hv2] at hs2
      simp [Value.ownBlock] at hs hs2
      subst hs hs2
      rw [hgg] at hgg2
      cases hgg2
      exact he rfl
theorem rowFrS {w w' : World} {base size n : Nat} {e : TypeId} {v : Value} {xs : List Value} {S : List Nat} (h : w.ownsRow base e size v n xs) (hf : Fr w w' S) (hS : ∀ s ∈ v.ownBlock.toList, s ∉ S) : w'.ownsRow base e size v n xs := by
  refine ⟨h.1, ?_⟩
  rcases h.2 with h2 | ⟨g, cap, cur, hv, hg, hgg, r⟩
  · exact .inl h2
  · refine .inr ⟨g, cap, cur, hv, hg, ?_, r⟩
    rw [hf.block g (Array.getElem?_eq_some_iff.1 hgg).1 (hS g (by rw [hv]; simp [Value.ownBlock]))]
    exact hgg
end Go.Proofs.Ytajakmfloeefpaa
/- What the arguments of this seat's statements are, opened to lists. -/
namespace Go.Proofs.Ytajakmfloeefpaa
open Go.ChangeShapes Go.WideShapes Go.ChangeAt Go.RowKit Go.Deep
set_option maxRecDepth 100000

theorem weights_of {H : Type} {ts : List TypeId} {ds : List (DataW H)} (h : (DataW.weightsEach Try.prog ts ds).all (· ≤ reachBytes) = true) {j : Nat} {t : TypeId} {d : DataW H} (ht : ts[j]? = some t) (hd : ds[j]? = some d) :
    ∀ n ∈ d.weights Try.prog t, n ≤ reachBytes := fun n hn => by
  have := List.all_eq_true.1 h _ (DataW.weights_mem_each ht hd n hn)
  simpa using this
theorem open_num {H : Type} {enc : TypeId × Value → H} {W : World} {base : Nat} {v : Value} {d : DataW H} {p : List MemPlace} (hv : Value.okWide Try.prog W .any base 3 v)
    (h : DataW.Trod enc Try.prog W 0 (fun _ => true) true 3 v d p) : ∃ n : Int, v = .int .i64 n ∧ -9223372036854775808 ≤ n ∧ n ≤ 9223372036854775807 := by
  obtain ⟨n, rfl, rfl, rfl, hw⟩ := open_int Try.underlying3 hv h
  have b1 : IntKind.i64.min = -9223372036854775808 := by decide +kernel
  have b2 : IntKind.i64.max = 9223372036854775807 := by decide +kernel
  simp [Lit.wf] at hw
  exact ⟨n, rfl, by omega, by omega⟩
theorem fits_num {n : Int} (h : (Lit.int .i64 n).wf = true) : -9223372036854775808 ≤ n ∧ n ≤ 9223372036854775807 := by
  have b1 : IntKind.i64.min = -9223372036854775808 := by decide +kernel
  have b2 : IntKind.i64.max = 9223372036854775807 := by decide +kernel
  simp [Lit.wf] at h
  omega
end Go.Proofs.Ytajakmfloeefpaa
/- Lists of bytes among the arguments, opened. -/
namespace Go.Proofs.Ytajakmfloeefpaa
open Go.ChangeShapes Go.WideShapes Go.ChangeAt Go.RowKit Go.Deep
set_option maxRecDepth 100000

theorem bytes_u8 : Try.prog.bytesOf 5 = 1 := by kernel_rfl
/-- Numbers that fit a byte are bytes. -/
theorem ints_u8 : ∀ (zs : List Int), (∀ n ∈ zs, (Lit.int .u8 n).wf = true) → ∃ l : List UInt8, zs = l.map (fun b => (b.toNat : Int))
  | [], _ => ⟨[], rfl⟩
  | z :: zs, h => by
    obtain ⟨l, rfl⟩ := ints_u8 zs fun n hn => h n (List.mem_cons_of_mem _ hn)
    have hz := h z (List.mem_cons_self ..)
    have hb : 0 ≤ z ∧ z ≤ 255 := by
      have b1 : IntKind.u8.min = 0 := by decide +kernel
      have b2 : IntKind.u8.max = 255 := by decide +kernel
      simp [Lit.wf] at hz
      omega
    refine ⟨UInt8.ofNat z.toNat :: l, ?_⟩
    simp [UInt8.toNat_ofNat']
    omega

theorem open_bytes {H : Type} {enc : TypeId × Value → H} {W : World} {base : Nat} {v : Value} {d : DataW H} {p : List MemPlace} (hv : Value.okWide Try.prog W .any base 45 v)
    (h : DataW.Trod enc Try.prog W 0 (fun _ => true) true 45 v d p) (hsz : ∀ n ∈ d.weights Try.prog 45, n ≤ reachBytes) :
    ∃ (A : Option Addr) (l : List UInt8) (c : Nat), v = .slice A l.length c ∧ Rd W W.heap.size A (u8s l) ∧ l.length ≤ c ∧ c ≤ 140737488351232 := by
  obtain ⟨a0, len0, cap0, rfl⟩ := okWide_slice Try.underlying45 hv
  obtain ⟨fuel, hf⟩ := h
  rcases open_ints Try.underlying45 Try.underlying5 (by kernel_rfl) hf with ⟨hcs, _⟩ | ⟨x, len, c, zs, hcs, _, hl, hm, hz, hx, hcell, hwz⟩
  · simp [Value.cells] at hcs
    obtain ⟨rfl, rfl, rfl⟩ := hcs
    exact ⟨none, [], 0, rfl, Rd.emp _ _ _, by simp, by omega⟩
  · simp [Value.cells] at hcs
    obtain ⟨rfl, rfl, rfl⟩ := hcs
    simp only [if_true] at hz
    simp only [Prod.mk.injEq] at hx
    obtain ⟨rfl, -⟩ := hx
    have hw := hsz ((((lits (H := H) .u8 (zs.take len0)).length + (lits (H := H) .u8 (zs.drop len0)).length)) * Try.prog.bytesOf 5) (by simp [DataW.weights, Try.underlying45])
    rw [bytes_u8] at hw
    simp only [lits, List.length_map, List.length_take, List.length_drop, reachBytes] at hw
    obtain ⟨l, rfl⟩ := ints_u8 zs hwz
    rw [List.length_map] at hz
    have hll : (l.take len0).length = len0 := by rw [List.length_take]; omega
    refine ⟨some x, l.take len0, cap0, by rw [hll], ?_, by omega, by simp at hw; omega⟩
    have hcc : ∀ j u, (u8s (l.take len0))[j]? = some u → W.cell? (x.add j) = some u := by
      intro j u hu
      have hj : j < (u8s (l.take len0)).length := (List.getElem?_eq_some_iff.1 hu).1
      rw [u8s_length, hll] at hj
      rw [hcell j (by simp; omega), ← hu]
      simp [u8s, hj, List.getElem?_eq_getElem (show j < l.length by omega)]
    by_cases hb : x.block < W.heap.size
    · exact Rd.ofAddr hb hcc
    · intro hn
      obtain ⟨y, r, hyr⟩ := List.exists_cons_of_ne_nil hn
      have := hcc 0 y (by rw [hyr]; rfl)
      have h2 := World.block_lt_of_cell? W _ this
      simp [Addr.add] at h2
      omega

end Go.Proofs.Ytajakmfloeefpaa
/- Rows of bytes among the arguments, opened. -/
namespace Go.Proofs.Ytajakmfloeefpaa
open Go.ChangeShapes Go.WideShapes Go.ChangeAt Go.RowKit Go.Deep
set_option maxRecDepth 100000

theorem weightsAll_mem {H : Type} {P : Program} {e : TypeId} : ∀ {l : List (DataW H)} {d : DataW H}, d ∈ l → ∀ n ∈ d.weights P e, n ∈ DataW.weightsAll P e l
  | [], _, h, _, _ => by cases h
  | x :: r, d, h, n, hn => by
    simp only [DataW.weightsAll, List.mem_append]
    rcases List.mem_cons.1 h with rfl | h
    · exact .inl hn
    · exact .inr (weightsAll_mem h n hn)

/-- A slice of bytes that lies somewhere. -/
structure RowB where
  A : Option Addr
  l : List UInt8
  c : Nat
instance : Inhabited RowB := ⟨⟨none, [], 0⟩⟩
def RowB.v (r : RowB) : Value := .slice r.A r.l.length r.c
/-- It lies in a world, and is no longer than may be. -/
def RowB.ok (r : RowB) (W : World) (B : Nat) : Prop := Rd W B r.A (u8s r.l) ∧ r.l.length ≤ r.c ∧ r.c ≤ 140737488351232
theorem RowB.ok.below {r : RowB} {w w' : World} {B C : Nat} (h : r.ok w B) (hb : Below C w w') (hB : B ≤ C) : r.ok w' B := ⟨h.1.below hb hB, h.2.1, h.2.2⟩

theorem bytes_trod {H : Type} {enc : TypeId × Value → H} {W : World} {fuel : Nat} {v : Value} {y : DataW H × List MemPlace}
    (hf : DataW.trod enc Try.prog W 0 (fun _ => true) true fuel 45 [v] = some y) (hsz : ∀ n ∈ y.1.weights Try.prog 45, n ≤ reachBytes) :
    ∃ r : RowB, v = r.v ∧ r.ok W W.heap.size := by
  rcases open_ints Try.underlying45 Try.underlying5 (by kernel_rfl) hf with ⟨hcs, _⟩ | ⟨x, len0, cap0, zs, hcs, _, hl, hm, hz, hx, hcell, hwz⟩
  · simp only [List.cons.injEq, and_true] at hcs
    subst hcs
    exact ⟨⟨none, [], 0⟩, rfl, Rd.emp _ _ _, by simp, by simp⟩
  · simp only [List.cons.injEq, and_true] at hcs
    subst hcs
    simp only [if_true] at hz
    subst hx
    have hw := hsz ((((lits (H := H) .u8 (zs.take len0)).length + (lits (H := H) .u8 (zs.drop len0)).length)) * Try.prog.bytesOf 5) (by simp [DataW.weights, Try.underlying45])
    rw [bytes_u8] at hw
    simp only [lits, List.length_map, List.length_take, List.length_drop, reachBytes] at hw
    obtain ⟨l, rfl⟩ := ints_u8 zs hwz
    rw [List.length_map] at hz
    have hll : (l.take len0).length = len0 := by rw [List.length_take]; omega
    refine ⟨⟨some x, l.take len0, cap0⟩, by unfold RowB.v; rw [hll], ?_, by show (l.take len0).length ≤ cap0; omega, by show cap0 ≤ 140737488351232; simp at hw; omega⟩
    have hcc : ∀ j u, (u8s (l.take len0))[j]? = some u → W.cell? (x.add j) = some u := by
      intro j u hu
      have hj : j < (u8s (l.take len0)).length := (List.getElem?_eq_some_iff.1 hu).1
      rw [u8s_length, hll] at hj
      rw [hcell j (by simp; omega), ← hu]
      simp [u8s, hj, List.getElem?_eq_getElem (show j < l.length by omega)]
    by_cases hb : x.block < W.heap.size
    · exact Rd.ofAddr hb hcc
    · intro hn
      obtain ⟨y, r, hyr⟩ := List.exists_cons_of_ne_nil hn
      have := hcc 0 y (by rw [hyr]; rfl)
      have h2 := World.block_lt_of_cell? W _ this
      simp [Addr.add] at h2
      omega
theorem choose_rows {α : Type} [Inhabited α] {p : Nat → α → Prop} (m : Nat) (h : ∀ i, i < m → ∃ q, p i q) : ∃ L : List α, L.length = m ∧ ∀ i (hi : i < L.length), p i L[i] := by
  obtain ⟨f, hf⟩ := choose_lt h
  refine ⟨(List.range m).map f, by simp, fun i hi => ?_⟩
  simp only [List.getElem_map, List.getElem_range]
  exact hf i (by simpa using hi)

end Go.Proofs.Ytajakmfloeefpaa
/- A struct of three numbers among the arguments, opened. -/
namespace Go.Proofs.Ytajakmfloeefpaa
open Go.ChangeShapes Go.WideShapes Go.ChangeAt Go.RowKit Go.Deep
set_option maxRecDepth 100000

theorem trod_struct3 {H : Type} {enc : TypeId × Value → H} {P : Program} {w : World} {base : Nat} {spare : Nat → Bool} {held : Bool} {t : TypeId} {f0 f1 f2 : Field} {fuel : Nat} {cs : List Value} {x : DataW H × List MemPlace}
    (ht : P.underlying t = some (.struct #[f0, f1, f2])) (h : DataW.trod enc P w base spare held fuel t cs = some x) :
    ∃ y0 y1 y2 n, x.1 = .agg [y0.1, y1.1, y2.1] ∧ cs.length = P.cellsOf t ∧ DataW.trod enc P w base spare held n f0.type ((cs.drop f0.offset).take (P.cellsOf f0.type)) = some y0 ∧
      DataW.trod enc P w base spare held n f1.type ((cs.drop f1.offset).take (P.cellsOf f1.type)) = some y1 ∧ DataW.trod enc P w base spare held n f2.type ((cs.drop f2.offset).take (P.cellsOf f2.type)) = some y2 := by
  obtain ⟨xs, n, _, rfl, hl, hlen, hf⟩ := DataW.trod_struct ht h
  match xs, hlen with
  | [y0, y1, y2], _ => exact ⟨y0, y1, y2, n, by simp, hl, by simpa using hf 0 f0 rfl, by simpa using hf 1 f1 rfl, by simpa using hf 2 f2 rfl⟩
theorem open_area {H : Type} {enc : TypeId × Value → H} {W : World} {base : Nat} {v : Value} {d : DataW H} {p : List MemPlace} (hv : Value.okWide Try.prog W .any base 23 v)
    (h : DataW.Trod enc Try.prog W 0 (fun _ => true) true 23 v d p) :
    ∃ m n k : Int, v = .agg #[.int .i64 m, .int .i64 n, .int .i64 k] ∧ (-9223372036854775808 ≤ m ∧ m ≤ 9223372036854775807) ∧ (-9223372036854775808 ≤ n ∧ n ≤ 9223372036854775807) ∧ (-9223372036854775808 ≤ k ∧ k ≤ 9223372036854775807) := by
  obtain ⟨cs, rfl, hcs⟩ : ∃ cs : Array Value, v = .agg cs ∧ cs.size = Try.prog.cellsOf 23 := by
    simp only [Value.okWide, Try.underlying23] at hv
    obtain ⟨cs, h1, h2, _⟩ := hv
    exact ⟨cs, h1, h2⟩
  obtain ⟨l⟩ := cs
  have h3 : Try.prog.cellsOf 23 = 3 := by kernel_rfl
  match l, hcs.trans h3 with
  | [c0, c1, c2], _ =>
    obtain ⟨fuel, hf⟩ := h
    obtain ⟨y0, y1, y2, m, _, _, g0, g1, g2⟩ := trod_struct3 Try.underlying23 hf
    have g0' : DataW.trod enc Try.prog W 0 (fun _ => true) true m 3 [c0] = some y0 := by simpa [Value.cells, show Try.prog.cellsOf 3 = 1 from by kernel_rfl] using g0
    have g1' : DataW.trod enc Try.prog W 0 (fun _ => true) true m 3 [c1] = some y1 := by simpa [Value.cells, show Try.prog.cellsOf 3 = 1 from by kernel_rfl] using g1
    have g2' : DataW.trod enc Try.prog W 0 (fun _ => true) true m 3 [c2] = some y2 := by simpa [Value.cells, show Try.prog.cellsOf 3 = 1 from by kernel_rfl] using g2
    obtain ⟨a, e0, _, wa⟩ := DataW.trod_int Try.underlying3 g0'
    obtain ⟨b, e1, _, wb⟩ := DataW.trod_int Try.underlying3 g1'
    obtain ⟨k, e2, _, wc⟩ := DataW.trod_int Try.underlying3 g2'
    simp only [List.cons.injEq, and_true] at e0 e1 e2
    subst e0 e1 e2
    exact ⟨a, b, k, rfl, fits_num wa, fits_num wb, fits_num wc⟩
end Go.Proofs.Ytajakmfloeefpaa
/- A disk in memory: what its block and its two maps hold. New, diskOf, Size, Steps, dead, has, step, Arm. -/
namespace Go.Proofs.Ytajakmfloeefpaa
open Go.RowKit Go.Maps

theorem keyZ : Maps.Keyed Try.prog 3 := Maps.int_keyed Try.underlying3

open Classical in
/-- How a sector reads: as its bytes. -/
noncomputable def secR (v : Value) : Option (DataW Unit × List MemPlace) :=
  if h : ∃ l : List UInt8, l.length = 64 ∧ v = .agg (u8s l).toArray then some (.lit (.string h.choose), []) else none
theorem secR_mk (l : List UInt8) (hl : l.length = 64) : secR (.agg (u8s l).toArray) = some (.lit (.string l), []) := by
  unfold secR
  have h : ∃ l' : List UInt8, l'.length = 64 ∧ Value.agg (u8s l).toArray = .agg (u8s l').toArray := ⟨l, hl, rfl⟩
  rw [dif_pos h]
  have h2 := h.choose_spec.2
  injection h2 with h3
  have h4 : u8s l = u8s h.choose := by
    have := congrArg Array.toList h3
    simpa using this
  rw [← u8s_inj h4]
theorem secR_inv {v : Value} {d : DataW Unit} {ps : List MemPlace} (h : secR v = some (d, ps)) : ∃ l : List UInt8, l.length = 64 ∧ v = .agg (u8s l).toArray ∧ d = .lit (.string l) ∧ ps = [] := by
  unfold secR at h
  split at h
  · rename_i hx
    injection h with h
    injection h with h1 h2
    exact ⟨hx.choose, hx.choose_spec.1, hx.choose_spec.2, h1.symm, h2.symm⟩
  · cases h

/-- The numbers of sectors, as keys. -/
def kz (i : Int) : Lit := .int .i64 i
theorem kz_of (i : Int) (h0 : -9223372036854775808 ≤ i) (h1 : i ≤ 9223372036854775807) : keyOf Try.prog 3 (.int .i64 i) = some (kz i) := by
  refine Maps.keyOf_int_mk Try.underlying3 ?_
  have b1 : IntKind.i64.min = -9223372036854775808 := by decide +kernel
  have b2 : IntKind.i64.max = 9223372036854775807 := by decide +kernel
  simp [Lit.wf]
  omega
theorem kz_ne {i j : Int} (h : i ≠ j) : kz i ≠ kz j := fun e => h (by unfold kz at e; injection e)
def zero64 : List UInt8 := List.replicate 64 0

/-- A disk: its size, what is sure, what was written since, the steps, whether it is armed, what is left. -/
structure DK where
  size : Int
  sure : DataW Unit
  wr : DataW Unit
  steps : Int
  armed : Bool
  left : Int
def DK.cells (D : DK) (bs bw : Nat) : Array Value := #[.int .i64 D.size, .map (some bs), .map (some bw), .int .i64 D.steps, .bool D.armed, .int .i64 D.left]

/-- It lies at block p; T: how often it was written, at most. -/
def DiskAt (w : World) (p bs bw : Nat) (D : DK) (T : Nat) : Prop :=
  w.heap[p]? = some (.cells (D.cells bs bw) 83 (0, 0)) ∧ bs ≠ bw ∧ ∃ ns nw, w.ownsMap Try.prog 3 secR bs ns D.sure ∧ w.ownsMap Try.prog 3 secR bw nw D.wr ∧ ns + nw ≤ T

theorem DiskAt.lt {w : World} {p bs bw T : Nat} {D : DK} (h : DiskAt w p bs bw D T) : p < w.heap.size ∧ bs < w.heap.size ∧ bw < w.heap.size := by
  obtain ⟨h1, _, ns, nw, h2, h3, _⟩ := h
  exact ⟨(Array.getElem?_eq_some_iff.1 h1).1, h2.lt, h3.lt⟩
theorem map_below {w w' : World} {b n B : Nat} {D : DataW Unit} (h : w.ownsMap Try.prog 3 secR b n D) (hb : Below B w w') (hB : b < B) : w'.ownsMap Try.prog 3 secR b n D := by
  obtain ⟨es, clock, h1, F, hs, hD⟩ := h
  exact ⟨es, clock, (hb.block b hB).trans h1, F, hs, hD⟩
theorem DiskAt.below {w w' : World} {p bs bw T B : Nat} {D : DK} (h : DiskAt w p bs bw D T) (hb : Below B w w') (hp : p < B) (hs : bs < B) (hw : bw < B) : DiskAt w' p bs bw D T := by
  obtain ⟨h1, hne, ns, nw, h2, h3, h4⟩ := h
  exact ⟨(hb.block p hp).trans h1, hne, ns, nw, map_below h2 hb hs, map_below h3 hb hw, h4⟩

set_option maxRecDepth 100000 in
theorem size_any (p bs bw T : Nat) (D : DK) (w : World) (h : DiskAt w p bs bw D T) :
    Calls Try.prog 28 #[.pointer (some ⟨p, 0, none⟩)] w fun e w' => e = .returned (.int .i64 D.size) ∧ w = w' := by
  have hg := h.1
  unfold DK.cells at hg
  have a0 := cell_of_row w p 0 _ _ _ hg
  clear h hg
  go_enter Try.func28, Try.ntmps28
  go_wp2
  go_ret
  exact ⟨rfl, rfl⟩
set_option maxRecDepth 100000 in
theorem steps_any (p bs bw T : Nat) (D : DK) (w : World) (h : DiskAt w p bs bw D T) :
    Calls Try.prog 25 #[.pointer (some ⟨p, 0, none⟩)] w fun e w' => e = .returned (.int .i64 D.steps) ∧ w = w' := by
  have hg := h.1
  unfold DK.cells at hg
  have a3 := cell_of_row w p 3 _ _ _ hg
  clear h hg
  go_enter Try.func25, Try.ntmps25
  go_wp2
  go_ret
  exact ⟨rfl, rfl⟩
/-- Is it dead? -/
def DK.dead (D : DK) : Bool := D.armed && (D.left == 0)
set_option maxRecDepth 100000 in
theorem dead_any (p bs bw T : Nat) (D : DK) (w : World) (h : DiskAt w p bs bw D T) :
    Calls Try.prog 42 #[.pointer (some ⟨p, 0, none⟩)] w fun e w' => e = .returned (.bool D.dead) ∧ w = w' := by
  have hg := h.1
  unfold DK.cells at hg
  have a4 := cell_of_row w p 4 _ _ _ hg
  have a5 := cell_of_row w p 5 _ _ _ hg
  clear h hg
  obtain ⟨z, s, wr, st, ar, lf⟩ := D
  unfold DK.dead
  cases ar with
  | false =>
    go_enter Try.func42, Try.ntmps42
    go_wp2
    go_ret
    exact ⟨rfl, rfl⟩
  | true =>
    go_enter Try.func42, Try.ntmps42
    go_wp2
    go_ret
    exact ⟨by simp, rfl⟩
set_option maxRecDepth 100000 in
theorem has_any (p bs bw T : Nat) (D : DK) (i : Int) (w : World) (h : DiskAt w p bs bw D T) :
    Calls Try.prog 43 #[.pointer (some ⟨p, 0, none⟩), .int .i64 i] w fun e w' => e = .returned (.bool (decide (0 ≤ i ∧ i < D.size))) ∧ w = w' := by
  have hg := h.1
  unfold DK.cells at hg
  have a0 := cell_of_row w p 0 _ _ _ hg
  clear h hg
  obtain ⟨b, hb⟩ : ∃ b, b = decide (0 ≤ i ∧ i < D.size) := ⟨_, rfl⟩
  rw [← hb]
  have HQ := Lib.hid hb
  clear hb
  by_cases h0 : 0 ≤ i
  · by_cases h1 : i < D.size
    · have hbt : b = true := HQ.out.trans (decide_eq_true ⟨h0, h1⟩)
      subst hbt
      go_enter Try.func43, Try.ntmps43
      go_wp2
      go_ret
      exact ⟨rfl, rfl⟩
    · have hbt : b = false := HQ.out.trans (decide_eq_false (fun h => h1 h.2))
      subst hbt
      go_enter Try.func43, Try.ntmps43
      go_wp2
      go_ret
      exact ⟨rfl, rfl⟩
  · have hbt : b = false := HQ.out.trans (decide_eq_false (fun h => h0 h.1))
    subst hbt
    go_enter Try.func43, Try.ntmps43
    go_wp2
    go_ret
    exact ⟨rfl, rfl⟩
end Go.Proofs.Ytajakmfloeefpaa
/- A disk's step, Arm, diskOf, New; what stays. -/
namespace Go.Proofs.Ytajakmfloeefpaa
open Go.RowKit Go.Maps

theorem map_fr {w w' : World} {b n : Nat} {D : DataW Unit} {S : List Nat} (h : w.ownsMap Try.prog 3 secR b n D) (hf : Fr w w' S) (hb : b ∉ S) : w'.ownsMap Try.prog 3 secR b n D := by
  have hlt := h.lt
  obtain ⟨es, clock, h1, F, hs, hD⟩ := h
  exact ⟨es, clock, (hf.block b hlt hb).trans h1, F, hs, hD⟩
/-- Another disk stays. -/
theorem DiskAt.fr {w w' : World} {p bs bw T : Nat} {D : DK} {S : List Nat} (h : DiskAt w p bs bw D T) (hf : Fr w w' S) (hp : p ∉ S) (hs : bs ∉ S) (hw : bw ∉ S) : DiskAt w' p bs bw D T := by
  have hlt := h.lt
  obtain ⟨h1, hne, ns, nw, h2, h3, h4⟩ := h
  exact ⟨(hf.block p hlt.1 hp).trans h1, hne, ns, nw, map_fr h2 hf hs, map_fr h3 hf hw, h4⟩
theorem DiskAt.mono {w : World} {p bs bw T T' : Nat} {D : DK} (h : DiskAt w p bs bw D T) (hT : T ≤ T') : DiskAt w p bs bw D T' := by
  obtain ⟨h1, hne, ns, nw, h2, h3, h4⟩ := h
  exact ⟨h1, hne, ns, nw, h2, h3, by omega⟩
/-- The block of a disk is none of its maps'. -/
theorem DiskAt.apart {w : World} {p bs bw T : Nat} {D : DK} (h : DiskAt w p bs bw D T) : p ≠ bs ∧ p ≠ bw ∧ bs ≠ bw := by
  obtain ⟨h1, hne, ns, nw, ⟨es, cl, h2, _⟩, ⟨es2, cl2, h3, _⟩, _⟩ := h
  refine ⟨?_, ?_, hne⟩
  · rintro rfl
    rw [h1] at h2
    cases h2
  · rintro rfl
    rw [h1] at h3
    cases h3

/-- A disk behind a step that is done. -/
def DK.stepped (D : DK) : DK := { D with left := if D.armed then D.left - 1 else D.left, steps := D.steps + 1 }
set_option maxRecDepth 100000 in
set_option maxHeartbeats 1000000 in
theorem step_any (p bs bw T : Nat) (D : DK) (w : World) (h : DiskAt w p bs bw D T) (hl : 0 ≤ D.left ∧ D.left ≤ 9223372036854775807) (hs : 0 ≤ D.steps ∧ D.steps ≤ 1000000000) :
    Calls Try.prog 44 #[.pointer (some ⟨p, 0, none⟩)] w fun e w' => (D.dead = true ∧ e = .returned (.int .i64 30) ∧ w = w') ∨ (D.dead = false ∧ e = .returned (.int .i64 0) ∧ DiskAt w' p bs bw D.stepped T ∧ Fr w w' [p]) := by
  have hd := dead_any p bs bw T D w h
  have hap := h.apart
  obtain ⟨hg, hne, ns, nw, h2, h3, h4⟩ := h
  unfold DK.cells at hg
  obtain ⟨b, hb⟩ : ∃ b, b = D.dead := ⟨_, rfl⟩
  rw [← hb] at hd ⊢
  have HD := Lib.hid hd
  have HB := Lib.hid hb
  clear hd hb
  cases b with
  | true =>
    go_enter Try.func44, Try.ntmps44
    go_wp2_with (go_at_call 42; (with_reducible refine HD.out.mono ?_); rintro e w' ⟨rfl, rfl⟩)
    go_ret
    exact .inl ⟨trivial, rfl, rfl⟩
  | false =>
    have a3 := cell_of_row w p 3 _ _ _ hg
    have a4 := cell_of_row w p 4 _ _ _ hg
    have a5 := cell_of_row w p 5 _ _ _ hg
    have f3 := frozen_of_row w p 3 _ _ hg
    have f4 := frozen_of_row w p 4 _ _ hg
    have f5 := frozen_of_row w p 5 _ _ hg
    have HG := Lib.hid hg
    have H2 := Lib.hid h2
    have H3 := Lib.hid h3
    clear hg h2 h3
    obtain ⟨z, su, wr, st, ar, lf⟩ := D
    simp only at hl hs a3 a4 a5
    obtain ⟨hl0, hl1⟩ := hl
    obtain ⟨hs0, hs1⟩ := hs
    cases ar with
    | false =>
      have hfin : DiskAt (w.setCell ⟨p, 3, none⟩ (.int .i64 (st + 1))) p bs bw (DK.stepped ⟨z, su, wr, st, false, lf⟩) T ∧ Fr w (w.setCell ⟨p, 3, none⟩ (.int .i64 (st + 1))) [p] := by
        have hfr : Fr w (w.setCell ⟨p, 3, none⟩ (.int .i64 (st + 1))) [p] := (Fr.refl w [p]).setCell (by simp) _
        refine ⟨⟨?_, hne, ns, nw, map_fr H2.out hfr (by simp; exact fun e => hap.1 e.symm), map_fr H3.out hfr (by simp; exact fun e => hap.2.1 e.symm), h4⟩, hfr⟩
        exact heap_setCell_same w p 3 _ _ _ HG.out
      have HF := Lib.hid hfin
      clear hfin
      go_enter Try.func44, Try.ntmps44
      go_wp2_with (go_at_call 42; (with_reducible refine HD.out.mono ?_); rintro e w' ⟨rfl, rfl⟩)
      go_ret
      exact .inr ⟨trivial, rfl, HF.out.1, HF.out.2⟩
    | true =>
      have hfin : DiskAt ((w.setCell ⟨p, 5, none⟩ (.int .i64 (lf - 1))).setCell ⟨p, 3, none⟩ (.int .i64 (st + 1))) p bs bw (DK.stepped ⟨z, su, wr, st, true, lf⟩) T ∧ Fr w ((w.setCell ⟨p, 5, none⟩ (.int .i64 (lf - 1))).setCell ⟨p, 3, none⟩ (.int .i64 (st + 1))) [p] := by
        have hfr : Fr w ((w.setCell ⟨p, 5, none⟩ (.int .i64 (lf - 1))).setCell ⟨p, 3, none⟩ (.int .i64 (st + 1))) [p] := ((Fr.refl w [p]).setCell (by simp) _).setCell (by simp) _
        refine ⟨⟨?_, hne, ns, nw, map_fr H2.out hfr (by simp; exact fun e => hap.1 e.symm), map_fr H3.out hfr (by simp; exact fun e => hap.2.1 e.symm), h4⟩, hfr⟩
        exact heap_setCell_same _ p 3 _ _ _ (heap_setCell_same w p 5 _ _ _ HG.out)
      have HF := Lib.hid hfin
      clear hfin
      go_enter Try.func44, Try.ntmps44
      go_wp2_with (go_at_call 42; (with_reducible refine HD.out.mono ?_); rintro e w' ⟨rfl, rfl⟩)
      go_ret
      exact .inr ⟨trivial, rfl, HF.out.1, HF.out.2⟩
end Go.Proofs.Ytajakmfloeefpaa
/- A disk's Arm, diskOf, New. -/
namespace Go.Proofs.Ytajakmfloeefpaa
open Go.RowKit Go.Maps

/-- What Arm answers, and the disk behind it. -/
def DK.armE (D : DK) (n : Int) : Int := if n < 0 then 1 else if D.dead then 30 else 0
def DK.armD (D : DK) (n : Int) : DK := if n < 0 then D else if D.dead then D else { D with armed := true, left := n }
set_option maxRecDepth 100000 in
set_option maxHeartbeats 1000000 in
theorem arm_any (p bs bw T : Nat) (D : DK) (n : Int) (w : World) (h : DiskAt w p bs bw D T) :
    Calls Try.prog 13 #[.pointer (some ⟨p, 0, none⟩), .int .i64 n] w fun e w' => e = .returned (.int .i64 (D.armE n)) ∧ DiskAt w' p bs bw (D.armD n) T ∧ Fr w w' [p] := by
  have hd := dead_any p bs bw T D w h
  have hap := h.apart
  by_cases hn : n < 0
  · have h1 : D.armE n = 1 := if_pos hn
    have h2 : D.armD n = D := if_pos hn
    rw [h1, h2]
    have HH := Lib.hid h
    clear h hd h1 h2 hap
    go_enter Try.func13, Try.ntmps13
    go_wp2
    go_ret
    exact ⟨rfl, HH.out, Fr.refl _ _⟩
  · obtain ⟨b, hb⟩ : ∃ b, b = D.dead := ⟨_, rfl⟩
    have h1 : D.armE n = if b then 30 else 0 := by unfold DK.armE; rw [if_neg hn, hb]
    have h2 : D.armD n = if b then D else { D with armed := true, left := n } := by unfold DK.armD; rw [if_neg hn, hb]
    rw [h1, h2]
    rw [← hb] at hd
    have HD := Lib.hid hd
    clear hd hb h1 h2
    cases b with
    | true =>
      have HH := Lib.hid h
      clear h
      go_enter Try.func13, Try.ntmps13
      go_wp2_with (go_at_call 42; (with_reducible refine HD.out.mono ?_); rintro e w' ⟨rfl, rfl⟩)
      go_ret
      exact ⟨rfl, HH.out, Fr.refl _ _⟩
    | false =>
      obtain ⟨hg, hne, ns, nw, h2, h3, h4⟩ := h
      unfold DK.cells at hg
      have a4 := cell_of_row w p 4 _ _ _ hg
      have a5 := cell_of_row w p 5 _ _ _ hg
      have f4 := frozen_of_row w p 4 _ _ hg
      have f5 := frozen_of_row w p 5 _ _ hg
      have hfin : DiskAt ((w.setCell ⟨p, 4, none⟩ (.bool true)).setCell ⟨p, 5, none⟩ (.int .i64 n)) p bs bw { D with armed := true, left := n } T ∧ Fr w ((w.setCell ⟨p, 4, none⟩ (.bool true)).setCell ⟨p, 5, none⟩ (.int .i64 n)) [p] := by
        have hfr : Fr w ((w.setCell ⟨p, 4, none⟩ (.bool true)).setCell ⟨p, 5, none⟩ (.int .i64 n)) [p] := ((Fr.refl w [p]).setCell (by simp) _).setCell (by simp) _
        refine ⟨⟨?_, hne, ns, nw, map_fr h2 hfr (by simp; exact fun e => hap.1 e.symm), map_fr h3 hfr (by simp; exact fun e => hap.2.1 e.symm), h4⟩, hfr⟩
        exact heap_setCell_same _ p 5 _ _ _ (heap_setCell_same w p 4 _ _ _ hg)
      have HF := Lib.hid hfin
      clear hfin hg h2 h3 h4
      go_enter Try.func13, Try.ntmps13
      go_wp2_with (go_at_call 42; (with_reducible refine HD.out.mono ?_); rintro e w' ⟨rfl, rfl⟩)
      go_ret
      exact ⟨rfl, HF.out.1, HF.out.2⟩

set_option maxRecDepth 100000 in
set_option maxHeartbeats 1000000 in
/-- A disk of what is sure. -/
theorem diskOf_any (z : Int) (bs ns : Nat) (S : DataW Unit) (w : World) (h : w.ownsMap Try.prog 3 secR bs ns S) :
    Calls Try.prog 26 #[.int .i64 z, .map (some bs)] w fun e w' => e = .returned (.pointer (some ⟨w.heap.size + 1, 0, none⟩)) ∧ DiskAt w' (w.heap.size + 1) bs w.heap.size ⟨z, S, .map [], 0, false, 0⟩ ns ∧ Fr w w' [] := by
  have hmm := @run_makeMap Try.prog
  have hlt := h.lt
  have hs1 : (w.alloc (.map #[] 0)).heap.size = w.heap.size + 1 := by simp
  have hfin : DiskAt ((w.alloc (.map #[] 0)).alloc (.cells #[.int .i64 z, .map (some bs), .map (some w.heap.size), .int .i64 0, .bool false, .int .i64 0] 83)) (w.heap.size + 1) bs w.heap.size ⟨z, S, .map [], 0, false, 0⟩ ns := by
    refine ⟨?_, by omega, ns, 0, (h.alloc _).alloc _, (World.ownsMap_made _ _ _ _).alloc _, by omega⟩
    have := heap_alloc_new (w.alloc (.map #[] 0)) (.cells #[.int .i64 z, .map (some bs), .map (some w.heap.size), .int .i64 0, .bool false, .int .i64 0] 83)
    rw [hs1] at this
    exact this
  have hfr : Fr w ((w.alloc (.map #[] 0)).alloc (.cells #[.int .i64 z, .map (some bs), .map (some w.heap.size), .int .i64 0, .bool false, .int .i64 0] 83)) [] := ((Fr.refl _ _).alloc _).alloc _
  have HF := Lib.hid hfin
  have HR := Lib.hid hfr
  clear h hfin hfr
  go_enter Try.func26, Try.ntmps26
  go_wp2
  go_ret
  exact ⟨by simp, HF.out, HR.out⟩

set_option maxRecDepth 100000 in
set_option maxHeartbeats 1000000 in
theorem new_bad (n : Int) (w : World) (h : n < 1 ∨ 4096 < n) :
    Calls Try.prog 5 #[.int .i64 n] w fun e w' => e = .returned (.tuple #[.pointer none, .int .i64 1]) ∧ w = w' := by
  by_cases h1 : n < 1
  · go_enter Try.func5, Try.ntmps5
    go_wp2
    go_ret2
    exact ⟨rfl, rfl⟩
  · have h2 : 4096 < n := by omega
    clear h
    go_enter Try.func5, Try.ntmps5
    go_wp2
    go_ret2
    exact ⟨rfl, rfl⟩
/-- A new disk of so many sectors. -/
def DK.new (n : Int) : DK := ⟨n, .map [], .map [], 0, false, 0⟩
set_option maxRecDepth 100000 in
set_option maxHeartbeats 1000000 in
theorem new_any (n : Int) (w : World) (h1 : 1 ≤ n) (h2 : n ≤ 4096) :
    Calls Try.prog 5 #[.int .i64 n] w fun e w' => e = .returned (.tuple #[.pointer (some ⟨w.heap.size + 2, 0, none⟩), .int .i64 0]) ∧ DiskAt w' (w.heap.size + 2) w.heap.size (w.heap.size + 1) (DK.new n) 0 ∧ Fr w w' [] := by
  have hmm := @run_makeMap Try.prog
  have hd := diskOf_any n w.heap.size 0 (.map []) (w.alloc (.map #[] 0)) (World.ownsMap_made _ _ _ _)
  have hs1 : (w.alloc (.map #[] 0)).heap.size = w.heap.size + 1 := by simp
  rw [hs1] at hd
  have HD := Lib.hid hd
  have HR := Lib.hid (show Fr w (w.alloc (.map #[] 0)) [] from (Fr.refl _ _).alloc _)
  clear hd
  go_enter Try.func5, Try.ntmps5
  go_wp2_with (go_at_call 26; (with_reducible refine HD.out.mono ?_); rintro e w' ⟨rfl, hD, hF⟩)
  go_ret2
  exact ⟨rfl, hD, HR.out.trans hF⟩
end Go.Proofs.Ytajakmfloeefpaa
/- A disk's Write. -/
namespace Go.Proofs.Ytajakmfloeefpaa
open Go.RowKit Go.Maps

theorem info_sec : (Try.prog.info? 87).map (fun i => (i.zero, i.size)) = some (some (Value.agg (u8s zero64).toArray), 64) := by kernel_rfl
theorem size_sec : (Try.prog.info? 87).map (·.size) = some 64 := by kernel_rfl
/-- A load in a region that draws, by its run. -/
theorem wpStill_load {P : Program} {ops : Array Oper} {w : World} {Q : Act → Prop} {a : Act} {o : Oper} {rest : List Oper} (ty : TypeId) (x : Operand) (ho : o.op = .load ty x) (pv v : Value) (hx : a.eval x = pv) (hr : (Instr.loadAt ty pv).run P w = .ok v w) (hw : Region.wanted o (yielded ops a.tmps) = true) (h : wpStill P ops w Q rest (a.put o.dst v)) : wpStill P ops w Q (o :: rest) a := by
  refine wpStill_step fun K hK => ?_
  rw [if_pos hw]
  unfold Oper.still execOp
  simp only [ho, hx, Sem.run_bind, hr, Result.andThen_ok, Sem.run_pure, Oper.stillUpon_value]
  exact hK _ h

/-- A disk behind a write that is done. -/
def DK.written (D : DK) (i : Int) (l : List UInt8) : DK := { D.stepped with wr := D.wr.put (kz i) (.lit (.string l)) }
set_option maxRecDepth 100000 in
set_option maxHeartbeats 1000000 in
theorem write_bad (p bs bw T : Nat) (D : DK) (i : Int) (a : Option Addr) (n c : Nat) (w : World) (h : DiskAt w p bs bw D T) (hbad : ¬ (0 ≤ i ∧ i < D.size) ∨ n ≠ 64) :
    Calls Try.prog 15 #[.pointer (some ⟨p, 0, none⟩), .int .i64 i, .slice a n c] w fun e w' => e = .returned (.int .i64 1) ∧ w = w' := by
  have hh := has_any p bs bw T D i w h
  clear h
  obtain ⟨b, hb⟩ : ∃ b, b = decide (0 ≤ i ∧ i < D.size) := ⟨_, rfl⟩
  rw [← hb] at hh
  have HH := Lib.hid hh
  clear hh
  cases b with
  | false =>
    clear hb hbad
    go_enter Try.func15, Try.ntmps15
    go_wp2_with (go_at_call 43; (with_reducible refine HH.out.mono ?_); rintro e w' ⟨rfl, rfl⟩)
    go_ret
    exact ⟨rfl, rfl⟩
  | true =>
    have hn : n ≠ 64 := hbad.resolve_left (fun hx => hx (of_decide_eq_true hb.symm))
    have hn' : ¬ ((n : Int) = 64) := fun e => hn (by omega)
    clear hb hbad hn
    go_enter Try.func15, Try.ntmps15
    go_wp2_with (go_at_call 43; (with_reducible refine HH.out.mono ?_); rintro e w' ⟨rfl, rfl⟩)
    go_ret
    exact ⟨rfl, rfl⟩
set_option maxRecDepth 100000 in
set_option maxHeartbeats 1000000 in
theorem write_dead (p bs bw T : Nat) (D : DK) (i : Int) (a : Option Addr) (c : Nat) (w : World) (h : DiskAt w p bs bw D T) (hi : 0 ≤ i ∧ i < D.size) (hd : D.dead = true) (hl : 0 ≤ D.left ∧ D.left ≤ 9223372036854775807) (hs : 0 ≤ D.steps ∧ D.steps ≤ 1000000000) :
    Calls Try.prog 15 #[.pointer (some ⟨p, 0, none⟩), .int .i64 i, .slice a 64 c] w fun e w' => e = .returned (.int .i64 30) ∧ w = w' := by
  have hh := has_any p bs bw T D i w h
  rw [decide_eq_true hi] at hh
  have hst : Calls Try.prog 44 #[.pointer (some ⟨p, 0, none⟩)] w fun e w' => e = .returned (.int .i64 30) ∧ w = w' := (step_any p bs bw T D w h hl hs).mono (by
    rintro e w' (⟨_, h2⟩ | ⟨h1, _⟩)
    · exact h2
    · rw [hd] at h1; cases h1)
  have HH := Lib.hid hh
  have HS := Lib.hid hst
  clear hh hst h hd hl hs hi
  go_enter Try.func15, Try.ntmps15
  go_wp2_with (first
    | (go_at_call 43; (with_reducible refine HH.out.mono ?_); rintro e w' ⟨rfl, rfl⟩)
    | (go_at_call 44; (with_reducible refine HS.out.mono ?_); rintro e w' ⟨rfl, rfl⟩))
  go_ret
  exact ⟨rfl, rfl⟩

set_option maxRecDepth 100000 in
set_option maxHeartbeats 1000000 in
theorem write_any (p bs bw T : Nat) (D : DK) (i : Int) (sb so : Nat) (c : Nat) (l : List UInt8) (w : World) (h : DiskAt w p bs bw D T) (hi : 0 ≤ i ∧ i < D.size) (hd : D.dead = false) (hl : 0 ≤ D.left ∧ D.left ≤ 9223372036854775807) (hs : 0 ≤ D.steps ∧ D.steps ≤ 1000000000)
    (hz : D.size ≤ 4096) (hT : T ≤ 1000000000) (hL : l.length = 64) (hr : w.rangeAt sb so (u8s l)) (hsp : sb ≠ p) :
    Calls Try.prog 15 #[.pointer (some ⟨p, 0, none⟩), .int .i64 i, .slice (some ⟨sb, so, none⟩) 64 c] w fun e w' => e = .returned (.int .i64 0) ∧ DiskAt w' p bs bw (D.written i l) (T + 1) ∧ Fr w w' [p, bw] := by
  have hh := has_any p bs bw T D i w h
  rw [decide_eq_true hi] at hh
  have hst : Calls Try.prog 44 #[.pointer (some ⟨p, 0, none⟩)] w fun e w' => e = .returned (.int .i64 0) ∧ DiskAt w' p bs bw D.stepped T ∧ Fr w w' [p] := (step_any p bs bw T D w h hl hs).mono (by
    rintro e w' (⟨h1, _⟩ | ⟨_, h2⟩)
    · rw [hd] at h1; cases h1
    · exact h2)
  have hkey := kz_of i (by omega) (by omega)
  have hsec := secR_mk l hL
  have HK := Lib.hid hkey
  have HC := Lib.hid hsec
  have HR := Lib.hid hr
  have HL := Lib.hid hL
  have HT := Lib.hid hT
  have HH := Lib.hid hh
  have HS := Lib.hid hst
  clear hh hst h hd hl hs hi hz hkey hsec hr hT hL
  have hA : ∀ w : World, (Instr.arrayAt 87 (.slice (some ⟨sb, so, none⟩) 64 c)).run Try.prog w = .ok (.pointer (some ⟨sb, so, none⟩)) w := fun w => by
    unfold Instr.arrayAt
    rw [Sem.run_bind, run_underlying Try.underlying87 w]
    simp [Result.andThen]
  go_enter Try.func15, Try.ntmps15
  go_wp2_with (first
    | (go_at_call 43; (with_reducible refine HH.out.mono ?_); rintro e w' ⟨rfl, rfl⟩)
    | (go_at_call 44; (with_reducible refine HS.out.mono ?_); rintro e w1 ⟨rfl, hD, hF⟩))
  have hr1 : w1.rangeAt sb so (u8s l) := fun j v hv => by
    have h0 := HR.out j v hv
    have hb := World.block_lt_of_cell? w _ h0
    rw [← h0]
    unfold World.cell?
    rw [hF.block sb hb (by simp; exact hsp)]
  have hld : ∀ w2 : World, w2.rangeAt sb so (u8s l) → (Instr.loadAt 87 (.pointer (some ⟨sb, so, none⟩))).run Try.prog w2 = .ok (.agg (u8s l).toArray) w2 := fun w2 h2 =>
    run_loadAt_mid w2 sb so _ _ _ h2 Try.underlying87 rfl (by rw [u8s_len, HL.out]; exact size_sec)
  have hl1 := hld w1 hr1
  have hl2 := hld w1.drew ((World.rangeAt_drew _ _ _ _).2 hr1)
  have hg := hD.1
  unfold DK.cells at hg
  have a2 := cell_of_row w1 p 2 _ _ _ hg
  clear hg hld
  go_still_tail 8, (by kernel_rfl)
  refine wpStill_load _ _ rfl _ _ rfl hl2 (by kernel_rfl) ?_
  refine wpStill_nil ?_
  obtain ⟨hg, hne, ns, nw, h2, h3, h4⟩ := hD
  have hT := HT.out
  refine wpList_mapUpdate_own w1.drew rfl _ _ _ 64 rfl 3 87 keyZ Try.underlying64 secR bw nw _ rfl (map_below h3 (Below.drew (Below.refl w1.heap.size w1)) h3.lt) (by unfold maxLen; omega) _ _ _ rfl rfl HK.out _ _ HC.out ?_
  intro w2 hown hgrow
  have hap : p ≠ bw := by
    rintro rfl
    obtain ⟨es, cl, h5, _⟩ := h3
    rw [hg] at h5
    cases h5
  have hfr1 : Fr w1 w2 [bw] := ((Fr.refl w1 [bw]).drew).trans (Fr.of_grown hgrow)
  have hfin : DiskAt w2 p bs bw (D.written i l) (T + 1) ∧ Fr w w2 [p, bw] := by
    refine ⟨⟨?_, hne, ns, nw + 1, map_fr h2 hfr1 (by simp; exact hne), hown, by omega⟩, (hF.mono (by simp)).trans (hfr1.mono (by simp))⟩
    rw [hfr1.block p (Array.getElem?_eq_some_iff.1 hg).1 (by simp; exact hap)]
    exact hg
  have HF := Lib.hid hfin
  clear hfin hfr1 hown hgrow h2 h3 h4 hg hl1 hl2 a2 hr1 hF hT hA
  go_wp2
  go_ret
  exact ⟨rfl, HF.out.1, HF.out.2⟩
end Go.Proofs.Ytajakmfloeefpaa
/- A disk's Read. -/
namespace Go.Proofs.Ytajakmfloeefpaa
open Go.RowKit Go.Maps

def zlit : DataW Unit := .lit (.string zero64)
/-- What stands at sector i. -/
def DK.get (D : DK) (i : Int) : DataW Unit := if Maps.has D.wr (kz i) then D.wr.atKey (kz i) zlit else D.sure.atKey (kz i) zlit
theorem zero_sec (w : World) : (zeroValue 87).run Try.prog w = .ok (.agg (u8s zero64).toArray) w := (zero_of_info info_sec).1 w
theorem zero64_len : zero64.length = 64 := by simp [zero64]
theorem one_u8s (l : List UInt8) : (u8s l).toArray.all (·.oneCell') = true := by
  refine all_oneCell_toArray fun v hv => ?_
  induction l with
  | nil => cases hv
  | cons x l ih =>
    rw [u8s_cons] at hv
    rcases List.mem_cons.1 hv with rfl | h
    · rfl
    · exact ih h
theorem size_u8s (l : List UInt8) (h : l.length = 64) : (Try.prog.info? 87).map (·.size) = some (u8s l).toArray.size := by
  rw [List.size_toArray, u8s_len, h]; exact size_sec
/-- A sector into the sector that was made last. -/
theorem store_sec (w : World) (l l' : List UInt8) (h : l.length = 64) (h' : l'.length = 64) :
    (Instr.storeAt 87 (.pointer (some ⟨w.heap.size, 0, none⟩)) (.agg (u8s l').toArray)).run Try.prog (w.alloc (.cells (u8s l).toArray 87)) = .ok () (w.alloc (.cells (u8s l').toArray 87)) :=
  run_storeAt_new w _ _ _ (size_u8s l' h') (by simp [u8s_len, h, h']) (one_u8s l')
theorem store_cells (w : World) (l l' : List UInt8) (h : l.length = 64) (h' : l'.length = 64) :
    (storeCells ⟨w.heap.size, 0, none⟩ (u8s l') 0).run Try.prog (w.alloc (.cells (u8s l).toArray 87)) = .ok () (w.alloc (.cells (u8s l').toArray 87)) := by
  have := run_storeCells_new (P := Try.prog) w 87 (u8s l).toArray (u8s l').toArray (size_u8s l' h') (by simp [u8s_len, h, h']) (one_u8s l')
  exact this
/-- A lookup with ok, as an equation. -/
theorem look_sec {w : World} {b n : Nat} {D : DataW Unit} (h : w.ownsMap Try.prog 3 secR b n D) (i : Int) (h0 : -9223372036854775808 ≤ i) (h1 : i ≤ 9223372036854775807) :
    ∃ l : List UInt8, l.length = 64 ∧ (Instr.lookup 64 (.map (some b)) (.int .i64 i) true).run Try.prog w = .ok (.tuple #[.agg (u8s l).toArray, .bool (Maps.has D (kz i))]) w ∧ D.atKey (kz i) zlit = .lit (.string l) := by
  obtain ⟨v, ps, hr, hv⟩ := h.look_ok keyZ Try.underlying64 (zero_sec w) (secR_mk zero64 zero64_len) (kz_of i h0 h1)
  obtain ⟨l, hl, rfl, hd, _⟩ := secR_inv hv
  exact ⟨l, hl, hr, hd⟩
theorem lookup_sec {w : World} {b n : Nat} {D : DataW Unit} (h : w.ownsMap Try.prog 3 secR b n D) (i : Int) (h0 : -9223372036854775808 ≤ i) (h1 : i ≤ 9223372036854775807) :
    ∃ l : List UInt8, l.length = 64 ∧ (∀ w' : World, w'.ownsMap Try.prog 3 secR b n D → True) ∧ (Instr.lookup 64 (.map (some b)) (.int .i64 i) false).run Try.prog w = .ok (.agg (u8s l).toArray) w ∧ D.atKey (kz i) zlit = .lit (.string l) := by
  obtain ⟨v, ps, hr, hv⟩ := h.lookup keyZ Try.underlying64 (zero_sec w) (secR_mk zero64 zero64_len) (kz_of i h0 h1)
  obtain ⟨l, hl, rfl, hd, _⟩ := secR_inv hv
  exact ⟨l, hl, fun _ _ => trivial, hr, hd⟩

set_option maxRecDepth 100000 in
set_option maxHeartbeats 1000000 in
theorem read_bad (p bs bw T : Nat) (D : DK) (i : Int) (w : World) (h : DiskAt w p bs bw D T) (hbad : ¬ (0 ≤ i ∧ i < D.size)) :
    Calls Try.prog 51 #[.pointer (some ⟨p, 0, none⟩), .int .i64 i] w fun e w' => e = .returned (.tuple #[.slice none 0 0, .int .i64 1]) ∧ w = w' := by
  have hh := has_any p bs bw T D i w h
  rw [decide_eq_false hbad] at hh
  have HH := Lib.hid hh
  clear hh h hbad
  go_enter Try.func51, Try.ntmps51
  go_wp2_with (go_at_call 43; (with_reducible refine HH.out.mono ?_); rintro e w' ⟨rfl, rfl⟩)
  go_ret2
  exact ⟨rfl, rfl⟩
set_option maxRecDepth 100000 in
set_option maxHeartbeats 1000000 in
theorem read_any (p bs bw T : Nat) (D : DK) (i : Int) (w : World) (h : DiskAt w p bs bw D T) (hi : 0 ≤ i ∧ i < D.size) (hz : D.size ≤ 4096) :
    Calls Try.prog 51 #[.pointer (some ⟨p, 0, none⟩), .int .i64 i] w fun e w' => ∃ l : List UInt8, l.length = 64 ∧ D.get i = .lit (.string l) ∧ e = .returned (.tuple #[.slice (some ⟨w.heap.size, 0, none⟩) 64 64, .int .i64 0]) ∧ w' = w.alloc (.cells (u8s l).toArray 87) := by
  have hh := has_any p bs bw T D i w h
  rw [decide_eq_true hi] at hh
  obtain ⟨hg, hne, ns, nw, h2, h3, h4⟩ := h
  unfold DK.cells at hg
  have a1 := cell_of_row w p 1 _ _ _ hg
  have a2 := cell_of_row w p 2 _ _ _ hg
  obtain ⟨l1, hl1, e1, d1⟩ := look_sec h3 i (by omega) (by omega)
  have hp := (Array.getElem?_eq_some_iff.1 hg).1
  have a1' := cell_of_row (w.alloc (.cells (u8s l1).toArray 87)) p 1 _ _ _ ((Below.heap_alloc w _ p hp).trans hg)
  obtain ⟨l2, hl2, _, e2, d2⟩ := lookup_sec (h2.alloc (.cells (u8s l1).toArray 87)) i (by omega) (by omega)
  have s1 := store_cells w zero64 l1 zero64_len hl1
  have s2 := store_cells w l1 l2 hl1 hl2
  have n1 : (u8s l1).length = 64 := by rw [u8s_len, hl1]
  have n2 : (u8s l2).length = 64 := by rw [u8s_len, hl2]
  have hze := zero_sec
  have hu : ∀ w : World, (underlying 87).run Try.prog w = _ := run_underlying Try.underlying87
  have hget : D.get i = if Maps.has D.wr (kz i) then .lit (.string l1) else .lit (.string l2) := by unfold DK.get; rw [d1, d2]
  obtain ⟨b, hb⟩ : ∃ b, b = Maps.has D.wr (kz i) := ⟨_, rfl⟩
  rw [← hb] at e1 hget
  have HH := Lib.hid hh
  clear hh hb h2 h3 h4 hg d1 d2
  cases b with
  | true =>
    have HF := Lib.hid (And.intro hl1 hget)
    clear hl1 hget hl2 e2 s2 n2 a1 a1'
    go_enter Try.func51, Try.ntmps51
    go_wp2_with (go_at_call 43; (with_reducible refine HH.out.mono ?_); rintro e w' ⟨rfl, rfl⟩)
    go_ret2
    exact ⟨l1, HF.out.1, HF.out.2, rfl, rfl⟩
  | false =>
    have HF := Lib.hid (And.intro hl2 hget)
    clear hl1 hget hl2 a1
    go_enter Try.func51, Try.ntmps51
    go_wp2_with (go_at_call 43; (with_reducible refine HH.out.mono ?_); rintro e w' ⟨rfl, rfl⟩)
    go_ret2
    exact ⟨l2, HF.out.1, HF.out.2, rfl, rfl⟩
end Go.Proofs.Ytajakmfloeefpaa
/- maps.Copy of sectors; clear of a map; a disk's Flush. -/
namespace Go.Proofs.Ytajakmfloeefpaa
open Go.RowKit Go.Maps

theorem secV_inv (v : Value) (y : DataW Unit × List MemPlace) (h : secR v = some y) : ∃ l : List UInt8, v = (fun l : List UInt8 => Value.agg (u8s l).toArray) l := by
  obtain ⟨d, ps⟩ := y
  obtain ⟨l, _, rfl, _⟩ := secR_inv h
  exact ⟨l, rfl⟩
theorem secV_len {l : List UInt8} {y : DataW Unit × List MemPlace} (h : secR (.agg (u8s l).toArray) = some y) : l.length = 64 := by
  obtain ⟨d, ps⟩ := y
  obtain ⟨l', hl', e, _⟩ := secR_inv h
  injection e with e
  have := u8s_inj (congrArg Array.toList e)
  rw [this]; exact hl'
theorem range_new (w : World) (l : List UInt8) : (w.alloc (.cells (u8s l).toArray 87)).rangeAt w.heap.size 0 (u8s l) := fun j v hv => by
  rw [cell_of_row _ _ (0 + j) _ _ _ (heap_alloc_last w _)]
  simpa using hv

set_option maxHeartbeats 4000000 in
set_option maxRecDepth 100000 in
theorem copy_any (bd bs nd ns : Nat) (Dd Ds : DataW Unit) (w : World) (hd : w.ownsMap Try.prog 3 secR bd nd Dd) (hs : w.ownsMap Try.prog 3 secR bs ns Ds) (hne : bd ≠ bs) (hroom : nd + Maps.size Ds ≤ maxLen) :
    Calls Try.prog 63 #[.map (some bd), .map (some bs)] w fun e w' => e = .returned (.tuple #[]) ∧ w'.ownsMap Try.prog 3 secR bd (nd + Maps.size Ds) (Lib.mergeD Dd Ds) ∧ w'.ownsMap Try.prog 3 secR bs ns Ds ∧ w.grownBy w' (some bd) := by
  have hbd := hd.lt
  have hbs := hs.lt
  have hze := zero_sec
  have hu : ∀ w : World, (underlying 87).run Try.prog w = _ := run_underlying Try.underlying87
  go_enter Try.func63, Try.ntmps63
  go_wp2_with (first
    | (at_range; refine wpList_range_own _ rfl _ 64 rfl 3 87 keyZ Try.underlying64 secR bs ns _ rfl hs ?_; intro w0 hrg0 hg0 hs0)
    | go_in)
  go_frame
  go_loopw [8] (fun _ wr => ∃ (left : Lit → Bool) (cnt : Nat) (Dout : DataW Unit), wr.ranges Try.prog 3 secR bs w.heap.size ns Ds left cnt ∧ cnt ≤ Maps.size Ds ∧
      wr.ownsMap Try.prog 3 secR bd (nd + (Maps.size Ds - cnt)) Dout ∧ Merged Dout Dd Ds left ∧ w.grownBy wr (some bd))
    (fun _ wr => wr.rangeLeft bs w.heap.size)
  case atStart =>
    exact ⟨_, _, Dd, hrg0, Nat.le_refl _, (hd.kept hg0 (by simp)).mono (by omega), merged_start Dd Ds, hg0.but _⟩
  case round =>
    obtain ⟨left, cnt, Dout, hrg, hcs, hout, hM, hgw⟩ := hrel
    go_wp2_with (first
      | (at_next; refine wpList_next_ranges _ rfl _ rfl 3 keyZ secR id (fun l : List UInt8 => Value.agg (u8s l).toArray) (fun key _ _ => ⟨key, rfl⟩) secV_inv bs w.heap.size ns _ _ _ rfl hrg ?_ ?_)
      | go_in)
    · intro hc0 hl0
      go_wp2
      go_end0
      subst hc0
      have e := merged_eq keyZ.one hM hl0 (hout.canon keyZ) (hd.canonK keyZ) (hs.canonK keyZ)
      subst e
      exact ⟨rfl, by simpa using hout, hrg.owns, hgw⟩
    · intro x c kl yd yp w1 cnt1 hkey hlx hv hat hrg1 hlt hg1 hs1 hen
      have hout1 := hout.kept hg1 (fun e => by have := Option.some.inj e; omega)
      have HS := Lib.hid hs1
      clear hs1
      have hl := secV_len hv
      have s1 := store_cells w1 zero64 c zero64_len hl
      have n1 : (u8s c).length = 64 := by rw [u8s_len, hl]
      have hrange := range_new w1 c
      have hsize : (Try.prog.info? 87).map (·.size) = some (u8s c).length := by rw [n1]; exact size_sec
      go_wp2_with (first
        | (refine wpList_load_mid rfl 87 (.tmp 5) rfl w1.heap.size 0 rfl (u8s c) _ hrange Try.underlying87 rfl hsize ?_)
        | (at_mapUpdate; refine wpList_mapUpdate_own _ rfl _ _ _ 64 rfl 3 87 keyZ Try.underlying64 secR bd _ _ rfl (hout1.alloc _) (by omega) _ _ _ rfl rfl hkey yd yp hv ?_; intro w2 hout2 hg2; go_frame)
        | go_in)
      have ha1 := World.grownBy_alloc w1 (.cells (u8s c).toArray 87) (some bd)
      have hrg2 := (hrg1.kept ha1 (fun e => hne (Option.some.inj e).symm) (fun e => by have := Option.some.inj e; omega)).kept hg2 (fun e => hne (Option.some.inj e).symm) (fun e => by have := Option.some.inj e; omega)
      go_roundw
      case rel =>
        exact ⟨_, cnt1, _, hrg2, by omega, hout2.mono (by omega), merged_step hM hout.isMap (keyZ.key hkey) hat, ((hgw.andThen hg1 (fun j hj => .inl (by cases hj; exact Nat.le_refl _))).andThen ha1 (fun j hj => .inr hj)).andThen hg2 (fun j hj => .inr hj)⟩
      case measure => rw [hrg2.left_eq, hrg.left_eq]; exact hlt
end Go.Proofs.Ytajakmfloeefpaa
/- A disk's Flush. -/
namespace Go.Proofs.Ytajakmfloeefpaa
open Go.RowKit Go.Maps

/-- clear of a map. -/
theorem clear_run {k e t : TypeId} {P : Program} {R : Value → Option (DataW Unit × List MemPlace)} {w : World} {b n : Nat} {D : DataW Unit} (h : w.ownsMap P k R b n D) (ht : P.underlying t = some (.map k e)) (ty : TypeId) :
    ∃ w', (Builtin.clear_ #[t] ty #[.map (some b)]).run P w = .ok (.tuple #[]) w' ∧ w'.ownsMap P k R b 0 (.map []) ∧ w.grownBy w' (some b) := by
  obtain ⟨es, clock, hb, F, hs, rfl⟩ := h
  refine ⟨{ w with heap := w.heap.setIfInBounds b (.map #[] clock) }, ?_, ⟨#[], clock, ?_, ⟨by simp, MapKept.stamped_empty clock, by simp⟩, Nat.le_refl _, rfl⟩, ⟨rfl, rfl, rfl, by simp, fun i _ hi => ?_⟩⟩
  · simp [Builtin.clear_, run_underlying ht, MapKept.run_getObj_map hb, MapKept.run_setObj_map _ hb, Result.andThen]
  · have hlt := (Array.getElem?_eq_some_iff.1 hb).1
    simp [hlt]
  · have hne : b ≠ i := fun e => hi (by rw [e])
    simp [hne]
theorem wpList_clear_own {P : Program} {ops : Array Oper} {rest : List Oper} {o : Oper} {a : Act} {Q : Exit → Act → World → Prop} (w : World) (hg : o.guard = none) (m : Operand) (t : TypeId) (hop : o.op = Op.call { callee := Callee.builtin Builtin.clear, args := #[m], argTypes := #[t] })
    (k e : TypeId) (ht : P.underlying t = some (.map k e)) (R : Value → Option (DataW Unit × List MemPlace)) (b n : Nat) (D : DataW Unit) (hm : a.eval m = .map (some b)) (hown : w.ownsMap P k R b n D)
    (hK : ∀ w', w'.ownsMap P k R b 0 (.map []) → w.grownBy w' (some b) → wpList P ops Q rest (a.put o.dst (.tuple #[])) w') :
    wpList P ops Q (o :: rest) a w := by
  refine wpList_plain hg fun K' hK' => ?_
  obtain ⟨w', hrun, r1, r2⟩ := clear_run hown ht o.type
  unfold Oper.wp
  simp [execOp, hop, resolve, invoke, builtin, hm, hrun, Result.andThen]
  exact hK' _ _ (hK w' r1 r2)

theorem flush_cell {w1 w2 : World} {p bs bw : Nat} {D : DK} (hg : w1.heap[p]? = some (.cells (D.cells bs bw) 83)) (hp : p < w1.heap.size) (hne : p ≠ bs) (hgr : w1.drew.grownBy w2 (some bs)) : w2.cell? ⟨p, 2, none⟩ = some (.map (some bw)) := by
  have h2 : w2.heap[p]? = some (.cells (D.cells bs bw) 83) := (hgr.block p hp (fun e => hne (Option.some.inj e))).trans hg
  unfold DK.cells at h2
  exact cell_of_row w2 p 2 _ _ _ h2
/-- A disk behind a flush that is done. -/
def DK.flushed (D : DK) : DK := { D.stepped with sure := Lib.mergeD D.sure D.wr, wr := .map [] }
set_option maxRecDepth 100000 in
set_option maxHeartbeats 1000000 in
theorem flush_dead (p bs bw T : Nat) (D : DK) (w : World) (h : DiskAt w p bs bw D T) (hd : D.dead = true) (hl : 0 ≤ D.left ∧ D.left ≤ 9223372036854775807) (hs : 0 ≤ D.steps ∧ D.steps ≤ 1000000000) :
    Calls Try.prog 57 #[.pointer (some ⟨p, 0, none⟩)] w fun e w' => e = .returned (.int .i64 30) ∧ w = w' := by
  have hst : Calls Try.prog 44 #[.pointer (some ⟨p, 0, none⟩)] w fun e w' => e = .returned (.int .i64 30) ∧ w = w' := (step_any p bs bw T D w h hl hs).mono (by
    rintro e w' (⟨_, h2⟩ | ⟨h1, _⟩)
    · exact h2
    · rw [hd] at h1; cases h1)
  have HS := Lib.hid hst
  clear hst h hd hl hs
  go_enter Try.func57, Try.ntmps57
  go_wp2_with (go_at_call 44; (with_reducible refine HS.out.mono ?_); rintro e w' ⟨rfl, rfl⟩)
  go_ret
  exact ⟨rfl, rfl⟩

set_option maxRecDepth 100000 in
set_option maxHeartbeats 1000000 in
theorem flush_any (p bs bw T : Nat) (D : DK) (w : World) (h : DiskAt w p bs bw D T) (hd : D.dead = false) (hl : 0 ≤ D.left ∧ D.left ≤ 9223372036854775807) (hs : 0 ≤ D.steps ∧ D.steps ≤ 1000000000) (hT : T ≤ 1000000000) :
    Calls Try.prog 57 #[.pointer (some ⟨p, 0, none⟩)] w fun e w' => e = .returned (.int .i64 0) ∧ DiskAt w' p bs bw D.flushed T ∧ Fr w w' [p, bs, bw] := by
  have hst : Calls Try.prog 44 #[.pointer (some ⟨p, 0, none⟩)] w fun e w' => e = .returned (.int .i64 0) ∧ DiskAt w' p bs bw D.stepped T ∧ Fr w w' [p] := (step_any p bs bw T D w h hl hs).mono (by
    rintro e w' (⟨h1, _⟩ | ⟨_, h2⟩)
    · rw [hd] at h1; cases h1
    · exact h2)
  have HT := Lib.hid hT
  have HS := Lib.hid hst
  clear hst h hd hl hs hT
  go_enter Try.func57, Try.ntmps57
  go_wp2_with (go_at_call 44; (with_reducible refine HS.out.mono ?_); rintro e w1 ⟨rfl, hD, hF⟩)
  have hap := hD.apart
  obtain ⟨hg, hne, ns, nw, h2, h3, h4⟩ := hD
  have hp := (Array.getElem?_eq_some_iff.1 hg).1
  have hT := HT.out
  have hsz := h3.size_le
  have hml : (1000000000 : Nat) ≤ maxLen := by decide
  have hcp := copy_any bs bw ns nw D.stepped.sure D.stepped.wr w1.drew h2 h3 hne (by omega)
  have hgc := hg
  unfold DK.cells at hgc
  have a1 := cell_of_row w1 p 1 _ _ _ hgc
  have a2 := cell_of_row w1 p 2 _ _ _ hgc
  have HG := Lib.hid hg
  have HC := Lib.hid hcp
  have HA := Lib.hid hap
  have HN := Lib.hid (And.intro (And.intro h4 hsz) (And.intro hp hF))
  clear hg hcp hgc h2 h3 h4 hT hsz hml hp hF hap hne
  go_still_tail 8, (by kernel_rfl)
  change wpList _ _ _ _ _ w1.drew
  go_wp2_with (first
    | (go_at_call 63; (with_reducible refine HC.out.mono ?_); rintro e w2 ⟨rfl, hs2, hw2, hgr2⟩; have hb2 := flush_cell HG.out HN.out.2.1 HA.out.1 hgr2)
    | (refine wpList_clear_own w2 rfl _ _ rfl 3 87 Try.underlying64 secR bw nw _ rfl hw2 ?_; intro w3 hw3 hgr3)
    | go_in)
  go_ret
  refine ⟨rfl, ?_⟩
  obtain ⟨⟨h4, hsz⟩, hp, hF⟩ := HN.out
  obtain ⟨n1, n2, n3⟩ := HA.out
  have hf2 : Fr w1 w2 [bs] := ((Fr.refl w1 [bs]).drew).trans (Fr.of_grown hgr2)
  have hf3 : Fr w1 w3 [bs, bw] := (hf2.mono (by simp)).trans ((Fr.of_grown hgr3).mono (by simp))
  refine ⟨⟨?_, n3, ns + size D.stepped.wr, 0, map_fr hs2 (Fr.of_grown hgr3) (by simp; exact n3), hw3, by omega⟩, (hF.mono (by simp)).trans (hf3.mono (by simp))⟩
  rw [hf3.block p hp (by simp; exact ⟨n1, n2⟩)]
  exact HG.out
end Go.Proofs.Ytajakmfloeefpaa
