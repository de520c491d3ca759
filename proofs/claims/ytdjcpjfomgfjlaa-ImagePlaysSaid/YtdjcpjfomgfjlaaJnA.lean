/- Joined: Mem Fr DskZ DskY DskX LogAr ImgOp. -/
import Derived.Below
import Derived.Laws.OwnMore
import Derived.Laws.AppendOwn
import Derived.Laws.IdiomStrings
import Derived.Laws.Rows
import Derived.Deep.Draws
import Derived.Maps.AppendAt
import Derived.OwnWalk
import Derived.Test.YtdjcpjfomgfjlaaProg
import Derived.WalkKit
import Derived.WalkSpells
import Derived.WalkLawsBesides
import Derived.WalkSmall
import Derived.Carry
import Derived.Deep.QuietTactic
import Derived.BigQuiet
import Derived.KernelRfl
import Derived.Lib.Hide
import Derived.Lib.SliceRun
import Derived.Deep.RegionHeld3
import Derived.Deep.RegionLaw
import Derived.Deep.RegionWith
import Derived.Deep.OwnRows
import Derived.ProofKit
import Derived.SizedLaws
import Derived.Deep.Slices
import Derived.Deep.Grids
import Derived.ChangeSame
import Derived.OpenShut
/- Words for memory (KeyW, KeyP and KeyOwnL as one text), used by the proofs of this seat: what a slice reads as, what a slice of the call's own holds. Nothing of the program is stated here. -/
namespace Go.Proofs.Ytdjcpjfomgfjlaa
open Go.RowKit

theorem addBlock (p : Addr) (n : Nat) : (p.add n).block = p.block := by unfold Addr.add; split <;> rfl
theorem addAdd (p : Addr) (i j : Nat) : (p.add i).add j = p.add (i + j) := by
  unfold Addr.add
  by_cases hi : i = 0 <;> by_cases hj : j = 0 <;> simp [hi, hj, Nat.add_assoc]
theorem addZero (p : Addr) : p.add 0 = p := by simp [Addr.add]

theorem plainAdd (b o n : Nat) : (⟨b, o, none⟩ : Addr).add n = ⟨b, o + n, none⟩ := by
  unfold Addr.add
  by_cases h : n = 0 <;> simp [h]

/-- From the address A on lie the cells xs, below block B. -/
def Rd (w : World) (B : Nat) (A : Option Addr) (xs : List Value) : Prop :=
  xs ≠ [] → ∃ b o, A = some ⟨b, o, none⟩ ∧ b < B ∧ ∀ j u, xs[j]? = some u → w.cell? ⟨b, o + j, none⟩ = some u

section
variable {w w' : World} {B B' : Nat} {A : Option Addr} {xs ys : List Value}
theorem Rd.emp (w : World) (B : Nat) (A : Option Addr) : Rd w B A [] := fun h => absurd rfl h
theorem Rd.get (h : Rd w B A xs) {k : Nat} (hk : k < xs.length) : ∃ b o, A = some ⟨b, o, none⟩ ∧ b < B ∧ w.cell? ⟨b, o + k, none⟩ = some xs[k] := by
  obtain ⟨b, o, e, hb, hc⟩ := h (by rintro rfl; simp at hk)
  exact ⟨b, o, e, hb, hc k _ (List.getElem?_eq_getElem hk)⟩
theorem Rd.move (h : Rd w B A xs) (hk : ∀ p : Addr, p.block < B → w'.cell? p = w.cell? p) : Rd w' B A xs := fun hn => by
  obtain ⟨b, o, e, hb, hc⟩ := h hn
  exact ⟨b, o, e, hb, fun j u hu => (hk _ hb).trans (hc j u hu)⟩
theorem Rd.more (h : Rd w B A xs) (hB : B ≤ B') : Rd w B' A xs := fun hn => by
  obtain ⟨b, o, e, hb, hc⟩ := h hn
  exact ⟨b, o, e, by omega, hc⟩
theorem Rd.below (h : Rd w B A xs) {C : Nat} (hb : Below C w w') (hC : B ≤ C) : Rd w' B A xs := h.move fun _ hp => hb.cell (by omega)
theorem Rd.drew (h : Rd w B A xs) : Rd w.drew B A xs := h
theorem Rd.drewN (h : Rd w B A xs) (n : Nat) : Rd (w.drewN n) B A xs := h
theorem Rd.alloc (h : Rd w B A xs) (hB : B ≤ w.heap.size) (o : Obj) : Rd (w.alloc o) B A xs := h.move fun p _ => World.cell?_alloc_lt w o p (by omega)
theorem Rd.setCell (h : Rd w B A xs) {p : Addr} (hB : B ≤ p.block) (u : Value) : Rd (w.setCell p u) B A xs :=
  h.move fun q _ => World.cell?_setCell_other w p q u (fun e => by subst e; omega)
theorem Rd.grown (h : Rd w B A xs) {row : Option Nat} (hg : w.grownBy w' row) (hB : B ≤ w.heap.size) (hr : ∀ g, row = some g → B ≤ g) : Rd w' B A xs :=
  h.move fun p _ => World.cell?_of_block (hg.block p.block (by omega) (fun e => by have := hr _ e.symm; omega))
theorem Rd.take (h : Rd w B A xs) (n : Nat) : Rd w B A (xs.take n) := fun hn => by
  obtain ⟨b, o, e, hb, hc⟩ := h (by rintro rfl; simp at hn)
  exact ⟨b, o, e, hb, fun j u hu => hc j u (by
    rw [List.getElem?_take] at hu
    split at hu
    · exact hu
    · cases hu)⟩
/-- A cut, as the model spells its address. -/
theorem Rd.cut (h : Rd w B A xs) {k size cap n : Nat} (hl : xs.length = n * size) (hkn : k ≤ n) (hc : n ≤ cap) :
    Rd w B (if cap = k then A else A.map (·.add (k * size))) (xs.drop (k * size)) := fun hn => by
  have hlt : k * size < xs.length := by
    rcases Nat.lt_or_ge (k * size) xs.length with h1 | h1
    · exact h1
    · exact absurd (List.drop_of_length_le h1) hn
  obtain ⟨b, o, rfl, hb, hcell⟩ := h (by rintro rfl; simp at hlt)
  have hne : cap ≠ k := by
    rintro rfl
    have : n = cap := by omega
    subst this
    omega
  rw [if_neg hne]
  refine ⟨b, o + k * size, by rw [Option.map_some, plainAdd], hb, fun j u hu => ?_⟩
  rw [Nat.add_assoc]
  exact hcell _ u (by rw [← hu, List.getElem?_drop])
theorem Rd.ofOwn {base n c size : Nat} {e : TypeId} (h : w.ownsRow base e size (.slice A n c) n xs) : Rd w w.heap.size A xs := fun hn => by
  rcases h.2 with ⟨hv, h0⟩ | ⟨g, cap, cur, hv, _, hh, hr⟩
  · subst h0
    exact absurd (List.eq_nil_of_length_eq_zero (by simpa using h.1)) hn
  · have hA : A = some ⟨g, 0, none⟩ := by injection hv
    subst hA
    have hlt := (h.lt g rfl).2
    exact ⟨g, 0, rfl, hlt, fun j u hu => by rw [← plainAdd]; exact h.cells (g := g) rfl j u hu⟩
/-- What stands in a block that has just been made. -/
theorem Rd.new (w : World) (cs : Array Value) (t : TypeId) (fr : Nat × Nat) : Rd (w.alloc (.cells cs t fr)) (w.heap.size + 1) (some ⟨w.heap.size, 0, .none⟩) cs.toList := fun _ =>
  ⟨_, _, rfl, Nat.lt_succ_self _, fun j u hu => by
    have hb : (w.alloc (.cells cs t fr)).heap[w.heap.size]? = some (.cells cs t fr) := heap_alloc_new w _
    rw [Nat.zero_add, cell_of_row (w.alloc (.cells cs t fr)) w.heap.size j cs t fr hb, ← hu, Array.getElem?_toList]⟩
/-- A reading at whatever address is one at a plain address. -/
theorem Rd.ofAddr {p : Addr} (hb : p.block < B) (h : ∀ j u, xs[j]? = some u → w.cell? (p.add j) = some u) : Rd w B (some p) xs := fun hn => by
  obtain ⟨x, l, rfl⟩ := List.exists_cons_of_ne_nil hn
  obtain ⟨b, o, spot⟩ := p
  have hspot : spot = none := by simpa [Addr.add] using World.cell?_spot (h 0 x rfl)
  subst hspot
  exact ⟨b, o, rfl, hb, fun j u hu => by rw [← plainAdd]; exact h j u hu⟩
end

theorem below_draws {B : Nat} {a w : World} (h : Below B a w) (n : Nat) : Below B a (w.drewN n) := ⟨h.os, h.tape, h.output, h.size, h.block⟩

/-- Bytes as cells. -/
def u8s (l : List UInt8) : List Value := l.map fun b => .int .u8 (b.toNat : Int)
@[simp] theorem u8s_nil : u8s [] = [] := rfl
theorem u8s_cons (b : UInt8) (l : List UInt8) : u8s (b :: l) = .int .u8 (b.toNat : Int) :: u8s l := rfl
theorem u8s_append (l k : List UInt8) : u8s (l ++ k) = u8s l ++ u8s k := List.map_append
theorem u8s_length (l : List UInt8) : (u8s l).length = l.length := List.length_map _
theorem u8s_take (l : List UInt8) (n : Nat) : u8s (l.take n) = (u8s l).take n := List.map_take
theorem u8s_drop (l : List UInt8) (n : Nat) : u8s (l.drop n) = (u8s l).drop n := List.map_drop
theorem u8s_get (l : List UInt8) (k : Nat) (h : k < l.length) : (u8s l)[k]'(by rw [u8s_length]; exact h) = .int .u8 (l[k].toNat : Int) := by simp [u8s]
theorem u8s_one (l : List UInt8) : ∀ u ∈ u8s l, u.oneCell' = true := by
  intro u hu
  obtain ⟨b, _, rfl⟩ := List.mem_map.1 hu
  rfl

/-- The slice value v, of the call's own, holds the bytes l (e: the number of the type uint8). -/
def OwnB (w : World) (base : Nat) (e : TypeId) (v : Value) (l : List UInt8) : Prop := w.ownsRow base e 1 v l.length (u8s l)

section
variable {w w' : World} {base : Nat} {e : TypeId} {v : Value} {l : List UInt8}
theorem OwnB.nil (w : World) (base : Nat) (e : TypeId) : OwnB w base e (.slice none 0 0) [] := World.ownsRow_nil w base e 1
theorem OwnB.shape (h : OwnB w base e v l) : ∃ A c, v = .slice A l.length c ∧ l.length ≤ c ∧ c ≤ maxLen ∧ Rd w w.heap.size A (u8s l) ∧ (∀ p, A = some p → base ≤ p.block) := by
  have h' := h
  unfold OwnB at h'
  rcases h.2 with ⟨hv, h0⟩ | ⟨g, cap, cur, hv, hg, hh, hle, hm, hr⟩
  · exact ⟨none, 0, by rw [hv, h0], by omega, by simp [maxLen], by rw [List.eq_nil_of_length_eq_zero h0]; exact Rd.emp _ _ _, fun p hp => by cases hp⟩
  · subst hv
    exact ⟨some ⟨g, 0, none⟩, cap, rfl, hle, hm, Rd.ofOwn h', fun p hp => by injection hp with hp; subst hp; exact hg⟩
theorem OwnB.alloc (h : OwnB w base e v l) (o : Obj) : OwnB (w.alloc o) base e v l := World.ownsRow.alloc h o
theorem OwnB.drew (h : OwnB w base e v l) : OwnB w.drew base e v l := h
theorem OwnB.drewN (h : OwnB w base e v l) (n : Nat) : OwnB (w.drewN n) base e v l := h
theorem OwnB.below (h : OwnB w base e v l) {B : Nat} (hb : Below B w w') (hB : w.heap.size ≤ B) : OwnB w' base e v l := by
  refine World.ownsRow.kept (row := none) h ⟨hb.os, hb.tape, hb.output, hb.size, fun k hk _ => hb.block k (by omega)⟩ ?_
  rcases h.2 with ⟨hv, _⟩ | ⟨g, cap, cur, hv, _⟩
  · left; rw [hv]; rfl
  · right; rw [hv]; simp [Value.ownBlock]
theorem OwnB.mono (h : OwnB w base e v l) {base' : Nat} (hb : base' ≤ base) : OwnB w base' e v l := by
  refine ⟨h.1, ?_⟩
  rcases h.2 with h2 | ⟨g, cap, cur, hv, hg, r⟩
  · exact .inl h2
  · exact .inr ⟨g, cap, cur, hv, by omega, r⟩
/-- An empty slice that has just been made by a literal. -/
theorem OwnB.lit0 (w : World) (hb : base ≤ w.heap.size) : OwnB (w.alloc (.cells #[] e)) base e (.slice (some ⟨w.heap.size, 0, .none⟩) 0 0) [] := by
  have := World.ownsRow_made (e := e) (size := 1) w #[] 0 hb (by simp [maxLen]) (by simp)
  exact this
theorem OwnB.below' (h : OwnB w base e v l) {row : Option Nat} (hg : w.grownBy w' row) (hr : row = v.ownBlock) (hbase : base ≤ w.heap.size) : Below base w w' :=
  (Below.refl base w).grown hg hbase (fun k hk => (World.ownsRow.lt h k (hr ▸ hk)).1)
end

section
variable {w w' : World} {base : Nat} {e : TypeId} {v : Value} {l : List UInt8}
/-- A row that holds something lies at the head of a block of the call's own. -/
theorem OwnB.form (h : OwnB w base e v l) (hl : 0 < l.length) : ∃ g c, v = .slice (some ⟨g, 0, none⟩) l.length c ∧ base ≤ g ∧ g < w.heap.size ∧ l.length ≤ c ∧ c ≤ maxLen := by
  have h' := h
  unfold OwnB at h'
  rcases h.2 with ⟨_, h0⟩ | ⟨g, cap, cur, hv, hg, hh, hle, hm, hr⟩
  · omega
  · subst hv
    exact ⟨g, cap, rfl, hg, (World.ownsRow.lt h' g rfl).2, hle, hm⟩
theorem OwnB.cell {g c : Nat} (h : OwnB w base e (.slice (some ⟨g, 0, none⟩) l.length c) l) {j : Nat} (hj : j < l.length) : w.cell? ⟨g, j, none⟩ = some (.int .u8 (l[j].toNat : Int)) := by
  have := World.ownsRow.cellAt h j (by simpa using hj)
  rw [this, List.getElem?_eq_getElem (by rw [u8s_length]; exact hj), u8s_get l j hj]
theorem OwnB.free {g c : Nat} (h : OwnB w base e (.slice (some ⟨g, 0, none⟩) l.length c) l) (j : Nat) : w.frozen? ⟨g, j, none⟩ = false := World.ownsRow.frozenAt h j
theorem u8s_set (l : List UInt8) (j : Nat) (b : UInt8) : u8s (l.set j b) = (u8s l).set j (.int .u8 (b.toNat : Int)) := by simp [u8s, List.map_set]
theorem OwnB.store {g c : Nat} (h : OwnB w base e (.slice (some ⟨g, 0, none⟩) l.length c) l) (j : Nat) (b : UInt8) :
    OwnB (w.setCell ⟨g, j, none⟩ (.int .u8 (b.toNat : Int))) base e (.slice (some ⟨g, 0, none⟩) l.length c) (l.set j b) := by
  have := (World.ownsRow.stored h j (.int .u8 (b.toNat : Int))).1
  unfold OwnB
  rw [u8s_set, List.length_set]
  exact this
end

/-- append of bytes onto a row of the call's own; the source may be nil or empty. -/
theorem run_appB {P : Program} (w : World) (base : Nat) (t ty e : TypeId) (i : TypeInfo) (z : Value) (ht : P.underlying t = some (.slice e)) (hi : P.info? e = some i) (hz : i.zero = some z)
    (hsize : i.size = 1) (hby : i.bytes = 1) (hzs : z.cells.size = 1) (v : Value) (l : List UInt8) (hown : OwnB w base e v l)
    (B : Nat) (A : Option Addr) (m c : Nat) (k : List UInt8) (hm : m = k.length) (hr : Rd w B A (u8s k)) (hlen : l.length + k.length ≤ 140737488355328) (hbase : base ≤ w.heap.size) :
    ∃ v' w', (Builtin.append_ #[t, t] ty #[v, .slice A m c]).run P w = .ok v' w' ∧ OwnB w' base e v' (l ++ k) ∧ w.grownBy w' v.ownBlock ∧ (v'.ownBlock = v.ownBlock ∨ v'.ownBlock = some w.heap.size) := by
  subst hm
  have hown' := hown
  unfold OwnB at hown'
  have hml : l.length + k.length ≤ maxLen := by simp only [maxLen]; omega
  rcases Nat.eq_zero_or_pos k.length with h0 | h0
  · have hk : k = [] := List.eq_nil_of_length_eq_zero h0
    subst hk
    rcases A with _ | p
    · refine ⟨v, w, ?_, by simpa using hown, World.grownBy.refl w _, .inl rfl⟩
      rcases hown'.2 with ⟨rfl, _⟩ | ⟨g, cap, cur, rfl, _, _, hnc, _⟩
      · simp [Builtin.append_, run_underlying ht, sizeOf, typeInfo, hi, Builtin.lenOf, Builtin.firstCells]
      · simp [Builtin.append_, run_underlying ht, sizeOf, typeInfo, hi, Builtin.lenOf, Builtin.firstCells, hnc, storeCells]
    · obtain ⟨v', w', hrun, h2, h3, _, h5⟩ := run_append_own_at (P := P) w base t ty e i z 1 1 ht hi hz hsize hby hzs (by omega) v _ _ hown' p 0 c [] (by simp) (by simp) (by simp) (by simpa using hml) (by simpa using hlen) hbase
      exact ⟨v', w', hrun, by simpa [OwnB] using h2, h3, h5⟩
  · obtain ⟨b, o, rfl, _, hc⟩ := hr (by intro e0; have := u8s_length k; rw [e0] at this; simp at this; omega)
    obtain ⟨v', w', hrun, h2, h3, _, h5⟩ := run_append_own_at (P := P) w base t ty e i z 1 1 ht hi hz hsize hby hzs (by omega) v _ _ hown' ⟨b, o, none⟩ k.length c (u8s k) (by rw [u8s_length]; omega) (fun j u hu => by rw [plainAdd]; exact hc j u hu) (u8s_one k) hml (by omega) hbase
    refine ⟨v', w', hrun, ?_, h3, h5⟩
    unfold OwnB
    rw [u8s_append, List.length_append]
    exact h2

theorem wpList_appB {P : Program} (w : World) {ops : Array Oper} {rest : List Oper} {o : Oper} {a : Act} {Q : Exit → Act → World → Prop} (hgd : o.guard = none) (s x : Operand) (t : TypeId)
    (ho : o.op = .call { callee := .builtin .append, args := #[s, x], argTypes := #[t, t] })
    (base : Nat) (e : TypeId) (i : TypeInfo) (z : Value) (ht : P.underlying t = some (.slice e)) (hi : P.info? e = some i) (hz : i.zero = some z)
    (hsize : i.size = 1) (hby : i.bytes = 1) (hzs : z.cells.size = 1) (v : Value) (l : List UInt8) (hs : a.eval s = v) (hown : OwnB w base e v l)
    (B : Nat) (A : Option Addr) (m c : Nat) (k : List UInt8) (hx : a.eval x = .slice A m c) (hm : m = k.length) (hr : Rd w B A (u8s k)) (hlen : l.length + k.length ≤ 140737488355328) (hbase : base ≤ w.heap.size)
    (h : ∀ v' w', OwnB w' base e v' (l ++ k) → w.grownBy w' v.ownBlock → (v'.ownBlock = v.ownBlock ∨ v'.ownBlock = some w.heap.size) → wpList P ops Q rest (a.put o.dst v') w') : wpList P ops Q (o :: rest) a w := by
  refine wpList_plain hgd fun K hK => ?_
  obtain ⟨v', w', hrun, h2, h3, h4⟩ := run_appB (P := P) w base t o.type e i z ht hi hz hsize hby hzs v l hown B A m c k hm hr hlen hbase
  unfold Oper.wp execOp
  simp only [ho, resolve, invoke, builtin, Sem.run_bind, Sem.run_pure, Result.andThen_ok, List.map_toArray, List.map_cons, List.map_nil, hs, hx, hrun]
  exact hK _ _ (h v' w' h2 h3 h4)

/-- string(b) of bytes that lie in memory. -/
theorem run_strB {P : Program} (w : World) (src dst e : TypeId) (A : Option Addr) (n cap B : Nat) (l : List UInt8) (hs : P.underlying src = some (.slice e)) (he : P.underlying e = some (.int .u8)) (hd : P.underlying dst = some .string)
    (hn : n = l.length) (hr : Rd w B A (u8s l)) : (convert src dst (.slice A n cap)).run P w = .ok (.string ⟨l.toArray⟩) w := by
  subst hn
  rcases A with _ | p
  · have h0 : l = [] := by
      rcases l with _ | ⟨b, l⟩
      · rfl
      · obtain ⟨_, _, hp, _⟩ := hr (by simp [u8s])
        cases hp
    subst h0
    rw [run_convert_bytes_string w src dst e _ _ cap hs he hd]
    simp [Conv.bytesToString]
    rfl
  · refine run_convert_bytes_back w src dst e p cap l hs he hd fun j hj => ?_
    obtain ⟨b, o, hq, _, hc⟩ := hr.get (k := j) (by rw [u8s_length]; exact hj)
    injection hq with hq
    subst hq
    rw [plainAdd, hc, u8s_get l j hj]
section
variable {w w' : World} {base : Nat} {e : TypeId} {v : Value} {size n : Nat} {xs : List Value}
theorem own_shape (h : w.ownsRow base e size v n xs) : ∃ A c, v = .slice A n c ∧ n ≤ c ∧ c ≤ maxLen ∧ Rd w w.heap.size A xs := by
  have h' := h
  rcases h.2 with ⟨hv, h0⟩ | ⟨g, cap, cur, hv, hg, hh, hle, hm, hr⟩
  · exact ⟨none, 0, by rw [hv, h0], by omega, by simp [maxLen], by
      have : xs = [] := List.eq_nil_of_length_eq_zero (by rw [h.1, h0]; simp)
      rw [this]; exact Rd.emp _ _ _⟩
  · subst hv
    exact ⟨some ⟨g, 0, none⟩, cap, rfl, hle, hm, Rd.ofOwn h'⟩
theorem own_below (h : w.ownsRow base e size v n xs) {B : Nat} (hb : Below B w w') (hB : w.heap.size ≤ B) : w'.ownsRow base e size v n xs := by
  refine World.ownsRow.kept (row := none) h ⟨hb.os, hb.tape, hb.output, hb.size, fun k hk _ => hb.block k (by omega)⟩ ?_
  rcases h.2 with ⟨hv, _⟩ | ⟨g, cap, cur, hv, _⟩
  · left; rw [hv]; rfl
  · right; rw [hv]; simp [Value.ownBlock]
theorem own_mono (h : w.ownsRow base e size v n xs) {base' : Nat} (hb : base' ≤ base) : w.ownsRow base' e size v n xs := by
  refine ⟨h.1, ?_⟩
  rcases h.2 with h2 | ⟨g, cap, cur, hv, hg, r⟩
  · exact .inl h2
  · exact .inr ⟨g, cap, cur, hv, by omega, r⟩
theorem own_lit0 (w : World) (hb : base ≤ w.heap.size) : (w.alloc (.cells #[] e)).ownsRow base e size (.slice (some ⟨w.heap.size, 0, .none⟩) 0 0) 0 [] :=
  World.ownsRow_made (e := e) (size := size) w #[] 0 hb (by simp [maxLen]) (by simp)
end

/-- append onto a row of the call's own, of elements of whatever size; the source may be nil or empty. -/
theorem run_appR {P : Program} (w : World) (base : Nat) (t ty e : TypeId) (i : TypeInfo) (z : Value) (size bytes : Nat) (ht : P.underlying t = some (.slice e)) (hi : P.info? e = some i) (hz : i.zero = some z)
    (hsize : i.size = size) (hby : i.bytes = bytes) (hzs : z.cells.size = size) (hs0 : 0 < size) (v : Value) (n : Nat) (xs : List Value) (hown : w.ownsRow base e size v n xs)
    (B : Nat) (A : Option Addr) (m c : Nat) (ys : List Value) (hm : ys.length = m * size) (hr : Rd w B A ys) (h1 : ∀ u ∈ ys, u.oneCell' = true) (hlen : (n + m) * bytes ≤ 140737488355328) (hb1 : 1 ≤ bytes) (hbase : base ≤ w.heap.size) :
    ∃ v' w', (Builtin.append_ #[t, t] ty #[v, .slice A m c]).run P w = .ok v' w' ∧ w'.ownsRow base e size v' (n + m) (xs ++ ys) ∧ w.grownBy w' v.ownBlock ∧ (v'.ownBlock = v.ownBlock ∨ v'.ownBlock = some w.heap.size) := by
  have hml : n + m ≤ maxLen := by
    have : n + m ≤ (n + m) * bytes := Nat.le_mul_of_pos_right _ (by omega)
    simp only [maxLen]; omega
  rcases Nat.eq_zero_or_pos m with h0 | h0
  · subst h0
    have hk : ys = [] := List.eq_nil_of_length_eq_zero (by rw [hm]; simp)
    subst hk
    rcases A with _ | p
    · refine ⟨v, w, ?_, by simpa using hown, World.grownBy.refl w _, .inl rfl⟩
      rcases hown.2 with ⟨rfl, _⟩ | ⟨g, cap, cur, rfl, _, _, hnc, _⟩
      · simp [Builtin.append_, run_underlying ht, sizeOf, typeInfo, hi, Builtin.lenOf, Builtin.firstCells]
      · simp [Builtin.append_, run_underlying ht, sizeOf, typeInfo, hi, Builtin.lenOf, Builtin.firstCells, hnc, storeCells]
    · obtain ⟨v', w', hrun, h2, h3, _, h5⟩ := run_append_own_at (P := P) w base t ty e i z size bytes ht hi hz hsize hby hzs hs0 v _ _ hown p 0 c [] (by simp) (by simp) (by simp) hml hlen hbase
      exact ⟨v', w', hrun, h2, h3, h5⟩
  · have hne : ys ≠ [] := by
      rintro rfl
      have h2 : 0 < m * size := Nat.mul_pos h0 hs0
      rw [← hm] at h2
      simp at h2
    obtain ⟨b, o, rfl, _, hc⟩ := hr hne
    obtain ⟨v', w', hrun, h2, h3, _, h5⟩ := run_append_own_at (P := P) w base t ty e i z size bytes ht hi hz hsize hby hzs hs0 v _ _ hown ⟨b, o, none⟩ m c ys hm (fun j u hu => by rw [plainAdd]; exact hc j u hu) h1 hml hlen hbase
    exact ⟨v', w', hrun, h2, h3, h5⟩

theorem wpList_appR {P : Program} (w : World) {ops : Array Oper} {rest : List Oper} {o : Oper} {a : Act} {Q : Exit → Act → World → Prop} (hgd : o.guard = none) (s x : Operand) (t : TypeId)
    (ho : o.op = .call { callee := .builtin .append, args := #[s, x], argTypes := #[t, t] })
    (base : Nat) (e : TypeId) (i : TypeInfo) (z : Value) (size bytes : Nat) (ht : P.underlying t = some (.slice e)) (hi : P.info? e = some i) (hz : i.zero = some z)
    (hsize : i.size = size) (hby : i.bytes = bytes) (hzs : z.cells.size = size) (hs0 : 0 < size) (v : Value) (n : Nat) (xs : List Value) (hs : a.eval s = v) (hown : w.ownsRow base e size v n xs)
    (B : Nat) (A : Option Addr) (m c : Nat) (ys : List Value) (hx : a.eval x = .slice A m c) (hm : ys.length = m * size) (hr : Rd w B A ys) (h1 : ∀ u ∈ ys, u.oneCell' = true) (hlen : (n + m) * bytes ≤ 140737488355328) (hb1 : 1 ≤ bytes) (hbase : base ≤ w.heap.size)
    (h : ∀ v' w', w'.ownsRow base e size v' (n + m) (xs ++ ys) → w.grownBy w' v.ownBlock → (v'.ownBlock = v.ownBlock ∨ v'.ownBlock = some w.heap.size) → wpList P ops Q rest (a.put o.dst v') w') : wpList P ops Q (o :: rest) a w := by
  refine wpList_plain hgd fun K hK => ?_
  obtain ⟨v', w', hrun, h2, h3, h4⟩ := run_appR (P := P) w base t o.type e i z size bytes ht hi hz hsize hby hzs hs0 v n xs hown B A m c ys hm hr h1 hlen hb1 hbase
  unfold Oper.wp execOp
  simp only [ho, resolve, invoke, builtin, Sem.run_bind, Sem.run_pure, Result.andThen_ok, List.map_toArray, List.map_cons, List.map_nil, hs, hx, hrun]
  exact hK _ _ (h v' w' h2 h3 h4)

theorem grown_below {w w' : World} {g B : Nat} (h : w.grownBy w' (some g)) (hg : B ≤ g) (hB : B ≤ w.heap.size) : Below B w w' :=
  (Below.refl _ _).grown h hB (fun k hk => by injection hk with hk; omega)
theorem grownBy_trans {a b c : World} {g : Nat} (h : a.grownBy b (some g)) (k : b.grownBy c (some g)) : a.grownBy c (some g) := World.grownBy.trans h k

theorem own_keptBy {w w' : World} {base g size n : Nat} {e : TypeId} {v : Value} {xs : List Value} (h : w.ownsRow base e size v n xs) (hg : w.grownBy w' (some g)) (hlt : g < base) : w'.ownsRow base e size v n xs := by
  refine World.ownsRow.kept h hg ?_
  rcases hv : v.ownBlock with _ | k
  · exact .inl rfl
  · refine .inr ?_
    intro e
    injection e with e
    have := (World.ownsRow.lt h k hv).1
    omega

end Go.Proofs.Ytdjcpjfomgfjlaa
/- What stays of a world; rows and bytes in memory: words that the walks of several layers share. -/
namespace Go.Proofs.Ytdjcpjfomgfjlaa
open Go.RowKit Go.Maps

/-- Of the blocks that were there, only these may have turned. -/
structure Fr (w w' : World) (S : List Nat) : Prop where
  os : w'.os = w.os
  tape : w'.tape = w.tape
  output : w'.output = w.output
  size : w.heap.size ≤ w'.heap.size
  block : ∀ k, k < w.heap.size → k ∉ S → w'.heap[k]? = w.heap[k]?
theorem Fr.refl (w : World) (S : List Nat) : Fr w w S := ⟨rfl, rfl, rfl, Nat.le_refl _, fun _ _ _ => rfl⟩
theorem Fr.trans {a b c : World} {S : List Nat} (h : Fr a b S) (k : Fr b c S) : Fr a c S :=
  ⟨k.os.trans h.os, k.tape.trans h.tape, k.output.trans h.output, Nat.le_trans h.size k.size, fun i hi hs => (k.block i (Nat.lt_of_lt_of_le hi h.size) hs).trans (h.block i hi hs)⟩
theorem Fr.more {a b c : World} {S S' : List Nat} (h : Fr a b S) (k : Fr b c S') (hS : ∀ s ∈ S', s ∈ S ∨ a.heap.size ≤ s) : Fr a c S :=
  ⟨k.os.trans h.os, k.tape.trans h.tape, k.output.trans h.output, Nat.le_trans h.size k.size, fun i hi hs => (k.block i (Nat.lt_of_lt_of_le hi h.size) (fun hm => (hS i hm).elim hs (fun h => by omega))).trans (h.block i hi hs)⟩
theorem Fr.mono {w w' : World} {S S' : List Nat} (h : Fr w w' S) (hS : ∀ x ∈ S, x ∈ S') : Fr w w' S' :=
  ⟨h.os, h.tape, h.output, h.size, fun k hk hs => h.block k hk fun hx => hs (hS k hx)⟩
theorem Fr.below {w w' : World} {S : List Nat} (h : Fr w w' S) {B : Nat} (hB : B ≤ w.heap.size) (hS : ∀ x ∈ S, B ≤ x) : Below B w w' :=
  ⟨h.os, h.tape, h.output, h.size, fun k hk => h.block k (Nat.lt_of_lt_of_le hk hB) fun hx => by have := hS k hx; omega⟩
theorem Fr.of_below {w w' : World} (h : Below w.heap.size w w') (S : List Nat) : Fr w w' S := ⟨h.os, h.tape, h.output, h.size, fun k hk _ => h.block k hk⟩
theorem Fr.of_grown {w w' : World} {b : Nat} (h : w.grownBy w' (some b)) : Fr w w' [b] :=
  ⟨h.os, h.tape, h.output, h.size, fun k hk hs => h.block k hk fun e => by injection e with e; exact hs (by simp [e])⟩
theorem Fr.of_grown0 {w w' : World} (h : w.grownBy w' none) (S : List Nat) : Fr w w' S :=
  ⟨h.os, h.tape, h.output, h.size, fun k hk _ => h.block k hk fun e => by cases e⟩
theorem Fr.setCell {a w : World} {S : List Nat} (h : Fr a w S) {p : Addr} (hp : p.block ∈ S) (u : Value) : Fr a (w.setCell p u) S :=
  h.trans ⟨rfl, rfl, rfl, by simp [World.setCell], fun k _ hs => Below.heap_setCell _ _ _ _ (fun e => hs (e ▸ hp))⟩
theorem Fr.alloc {a w : World} {S : List Nat} (h : Fr a w S) (o : Obj) : Fr a (w.alloc o) S :=
  h.trans ⟨rfl, rfl, rfl, by simp, fun k hk _ => Below.heap_alloc _ _ _ hk⟩
theorem Fr.drew {a w : World} {S : List Nat} (h : Fr a w S) : Fr a w.drew S := ⟨h.os, h.tape, h.output, h.size, h.block⟩
theorem Fr.drewN {a w : World} {S : List Nat} (h : Fr a w S) (n : Nat) : Fr a (w.drewN n) S := ⟨h.os, h.tape, h.output, h.size, h.block⟩
theorem u8s_inj : ∀ {a b : List UInt8}, u8s a = u8s b → a = b
  | [], [], _ => rfl
  | [], _ :: _, h => by cases h
  | _ :: _, [], h => by cases h
  | x :: a, y :: b, h => by
    rw [u8s_cons, u8s_cons] at h
    injection h with h1 h2
    injection h1 with _ h3
    have : x.toNat = y.toNat := by omega
    rw [UInt8.toNat_inj.mp this, u8s_inj h2]
theorem u8s_len : ∀ l : List UInt8, (u8s l).length = l.length
  | [] => rfl
  | x :: l => by rw [u8s_cons]; simp [u8s_len l]
/-- A slice that reads xs, in none of the blocks of X. -/
def Sl (w : World) (X : List Nat) (A : Option Addr) (xs : List Value) : Prop := Rd w w.heap.size A xs ∧ ∀ a, A = some a → a.block ∉ X
theorem Sl.below {w w' : World} {X : List Nat} {A : Option Addr} {xs : List Value} (h : Sl w X A xs) (hb : Below w.heap.size w w') : Sl w' X A xs := by
  refine ⟨fun hn => ?_, h.2⟩
  obtain ⟨b, o, e, hlt, hc⟩ := h.1 hn
  exact ⟨b, o, e, Nat.lt_of_lt_of_le hlt hb.size, fun j u hu => by rw [← hc j u hu]; exact hb.cell (p := ⟨b, o + j, none⟩) hlt⟩
theorem Sl.fr {w w' : World} {X S : List Nat} {A : Option Addr} {xs : List Value} (h : Sl w X A xs) (hf : Fr w w' S) (hS : ∀ x ∈ S, x ∈ X) : Sl w' X A xs := by
  refine ⟨fun hn => ?_, h.2⟩
  obtain ⟨b, o, e, hlt, hc⟩ := h.1 hn
  have hx : b ∉ S := fun hb => h.2 _ e (hS b hb)
  exact ⟨b, o, e, Nat.lt_of_lt_of_le hlt hf.size, fun j u hu => by rw [← hc j u hu]; exact World.cell?_of_block (hf.block b hlt hx)⟩
theorem alloc1_size (w : World) (o : Obj) : (w.alloc o).heap.size = w.heap.size + 1 := by simp
theorem ret_int {k : IntKind} {a b : Int} (h : a = b) : Ending.returned (.int k a) = .returned (.int k b) := by rw [h]
theorem infoU8 : (Try.prog.info? 5).map (fun i => (i.zero, i.size, i.bytes)) = some (some (.int .u8 0), 1, 1) := by kernel_rfl
theorem lower {B C : Nat} {a b : World} (h : Below B a b) (hB : C ≤ B) : Below C a b := ⟨h.os, h.tape, h.output, h.size, fun k hk => h.block k (by omega)⟩
theorem Fr.lower {a b : World} {S : List Nat} {C : Nat} (h : Fr a b S) (hC : C ≤ a.heap.size) (hS : ∀ x ∈ S, C ≤ x) : Below C a b := h.below hC hS
theorem strAt {w : World} {A : Option Addr} {n c B : Nat} {l : List UInt8} (hr : Rd w B A (u8s l)) (hn : n = l.length) :
    (convert 45 9 (.slice A n c)).run Try.prog w = .ok (.string ⟨l.toArray⟩) w :=
  run_strB (P := Try.prog) w 45 9 5 A n c B l Try.underlying45 Try.underlying5 Try.underlying9 hn hr
theorem Sl.drew {w : World} {X : List Nat} {A : Option Addr} {xs : List Value} (h : Sl w X A xs) : Sl w.drew X A xs := h
theorem not_nil (g n c : Nat) (w : World) : (binOp BinOp.eql 45 (.slice (some ⟨g, 0, none⟩) n c) (.slice none 0 0)).run Try.prog w = .ok (.bool false) w := Lib.run_eql_slice_nil w _ _ (some ⟨g, 0, none⟩) n c 0 0 Try.underlying45
theorem Below.drewN' {B : Nat} {a b : World} (h : Below B a b) (n : Nat) : Below B a (b.drewN n) := ⟨h.os, h.tape, h.output, h.size, h.block⟩
theorem beq_bytes {a b : List UInt8} (h : a ≠ b) : (a == b) = false := beq_eq_false_iff_ne.2 h
theorem infoStr : (Try.prog.info? 9).map (fun i => (i.zero, i.size, i.bytes)) = some (some (.string .empty), 1, 16) := by kernel_rfl
theorem infoBool : (Try.prog.info? 4).map (fun i => (i.zero, i.size, i.bytes)) = some (some (.bool false), 1, 1) := by kernel_rfl
theorem infoInt : (Try.prog.info? 3).map (fun i => (i.zero, i.size, i.bytes)) = some (some (.int .i64 0), 1, 8) := by kernel_rfl
theorem own_form {w : World} {base size n : Nat} {e : TypeId} {v : Value} {xs : List Value} (h : w.ownsRow base e size v n xs) (hn : 0 < n) : ∃ g c, v = .slice (some ⟨g, 0, none⟩) n c ∧ base ≤ g ∧ g < w.heap.size ∧ n ≤ c ∧ c ≤ maxLen := by
  have h' := h
  rcases h.2 with ⟨_, h0⟩ | ⟨g, cap, cur, hv, hg, hh, hle, hm, hr⟩
  · omega
  · subst hv
    exact ⟨g, cap, rfl, hg, (World.ownsRow.lt h' g rfl).2, hle, hm⟩
/-- What a call owns reads as a slice in none of some elder blocks. -/
theorem own_sl {w : World} {base size n : Nat} {e : TypeId} {X : List Nat} {v : Value} {xs : List Value} (h : w.ownsRow base e size v n xs) (hX : ∀ x ∈ X, x < base) : ∃ A c, v = .slice A n c ∧ n ≤ c ∧ c ≤ maxLen ∧ Sl w X A xs := by
  have h' := h
  rcases h.2 with ⟨hv, h0⟩ | ⟨g, cap, cur, hv, hg, hh, hle, hm, hr⟩
  · exact ⟨none, 0, by rw [hv, h0], by omega, by simp [maxLen], by
      have : xs = [] := List.eq_nil_of_length_eq_zero (by rw [h.1, h0]; simp)
      rw [this]; exact ⟨Rd.emp _ _ _, fun a ha => by cases ha⟩⟩
  · subst hv
    exact ⟨some ⟨g, 0, none⟩, cap, rfl, hle, hm, Rd.ofOwn h', fun a ha => by cases ha; exact fun hx => by have := hX g hx; omega⟩
theorem grown_fr {w w' : World} {g : Nat} (h : w.grownBy w' (some g)) : Fr w w' [g] := Fr.of_grown h
theorem lower' {B C : Nat} {a b : World} (h : Below B a b) (hB : C ≤ B) : Below C a b := ⟨h.os, h.tape, h.output, h.size, fun k hk => h.block k (by omega)⟩
theorem heap_lt {w : World} {b : Nat} {o : Obj} (h : w.heap[b]? = some o) : b < w.heap.size := (Array.getElem?_eq_some_iff.1 h).1
theorem append0_below {W w2 : World} {e : TypeId} (h : (W.alloc (.cells #[] e)).grownBy w2 (Value.slice (some ⟨W.heap.size, 0, none⟩) 0 0).ownBlock) : Below W.heap.size W w2 :=
  ((Below.refl _ W).alloc (Nat.le_refl _) _).trans (grown_below (g := W.heap.size) h (Nat.le_refl _) (by simp))
theorem two_new (w : World) (o o' : Obj) : ((w.alloc o).alloc o').heap[w.heap.size]? = some o ∧ ((w.alloc o).alloc o').heap[w.heap.size + 1]? = some o' := by
  refine ⟨(Below.heap_alloc _ _ _ (by simp)).trans (heap_alloc_new w o), ?_⟩
  have := heap_alloc_new (w.alloc o) o'
  rw [alloc1_size] at this
  exact this
theorem append0_below' {W w2 : World} {e : TypeId} {n : Nat} (hn : W.heap.size = n) (h : (W.alloc (.cells #[] e)).grownBy w2 (Value.slice (some ⟨n, 0, none⟩) 0 0).ownBlock) : Below n W w2 := by
  subst hn
  exact append0_below h
theorem own_lit0' {e : TypeId} {size n : Nat} (W : World) (hn : W.heap.size = n) : (W.alloc (.cells #[] e)).ownsRow n e size (.slice (some ⟨n, 0, none⟩) 0 0) 0 [] := by
  subst hn
  exact own_lit0 W (Nat.le_refl _)
/-- append whose run is known, at the operation, in a region that draws its order. -/
theorem step_appK {ops : Array Oper} {o : Oper} {a : Act} {K : Act → World → Prop} {Q : Exit → Act → World → Prop} {E : Prop} (w : World) (hw : Region.wanted o (yielded ops a.tmps) = true) (s x : Operand) (t : TypeId)
    (ho : o.op = .call { callee := .builtin .append, args := #[s, x], argTypes := #[t, t] }) (hty : o.type = t) (v y v' : Value) (w' : World) (hs : a.eval s = v) (hx : a.eval x = y)
    (hrun : (Builtin.append_ #[t, t] t #[v, y]).run Try.prog w = .ok v' w') (h : K (a.put o.dst v') w') :
    if Region.wanted o (yielded ops a.tmps) = true then Oper.wp Try.prog o a w K Q else E := by
  rw [if_pos hw]
  unfold Oper.wp execOp
  simp only [ho, hty, resolve, invoke, builtin, Sem.run_bind, Sem.run_pure, Result.andThen_ok, List.map_toArray, List.map_cons, List.map_nil, hs, hx, hrun]
  exact h
/-- append whose run is known, at the operation, in a region that draws its order. -/
theorem step_appK' {o : Oper} {a : Act} {K : Act → World → Prop} {Q : Exit → Act → World → Prop} (w : World) (s x : Operand) (t : TypeId)
    (ho : o.op = .call { callee := .builtin .append, args := #[s, x], argTypes := #[t, t] }) (hty : o.type = t) (v y v' : Value) (w' : World) (hs : a.eval s = v) (hx : a.eval x = y)
    (hrun : (Builtin.append_ #[t, t] t #[v, y]).run Try.prog w = .ok v' w') (h : K (a.put o.dst v') w') :
    Oper.wp Try.prog o a w K Q := by
  unfold Oper.wp execOp
  simp only [ho, hty, resolve, invoke, builtin, Sem.run_bind, Sem.run_pure, Result.andThen_ok, List.map_toArray, List.map_cons, List.map_nil, hs, hx, hrun]
  exact h
theorem grown_below' {w w' : World} {r : Option Nat} {B : Nat} (h : w.grownBy w' r) (hg : ∀ k, r = some k → B ≤ k) (hB : B ≤ w.heap.size) : Below B w w' :=
  ⟨h.os, h.tape, h.output, h.size, fun k hk => h.block k (by omega) (fun e => by have := hg k e.symm; omega)⟩
theorem own_ge {w : World} {base size n : Nat} {e : TypeId} {v : Value} {xs : List Value} (h : w.ownsRow base e size v n xs) : ∀ s ∈ v.ownBlock.toList, base ≤ s := fun s hs => (World.ownsRow.lt h s (by simpa using hs)).1
/-- Bytes that lie in a block of bytes. -/
def DataAt (w : World) (A : Option Addr) (l : List UInt8) : Prop := Rd w w.heap.size A (u8s l) ∧ ∀ a, A = some a → ∃ cs fr, w.heap[a.block]? = some (.cells cs 5 fr)
/-- A block that holds no bytes. -/
def NoBytes (w : World) (b : Nat) : Prop := ∀ cs fr, w.heap[b]? ≠ some (.cells cs 5 fr)
theorem DataAt.fr {w w' : World} {A : Option Addr} {l : List UInt8} {S : List Nat} (h : DataAt w A l) (hf : Fr w w' S) (hS : ∀ s ∈ S, NoBytes w s) : DataAt w' A l := by
  have hns : ∀ a, A = some a → a.block ∉ S ∧ a.block < w.heap.size := fun a ha => by
    obtain ⟨cs, fr, hg⟩ := h.2 a ha
    exact ⟨fun hm => hS _ hm cs fr hg, heap_lt hg⟩
  refine ⟨fun hn => ?_, fun a ha => ?_⟩
  · obtain ⟨b, o, e, hb, hc⟩ := h.1 hn
    have := hns _ e
    exact ⟨b, o, e, Nat.lt_of_lt_of_le hb hf.size, fun j u hu => (World.cell?_of_block (hf.block b hb this.1)).trans (hc j u hu)⟩
  · obtain ⟨cs, fr, hg⟩ := h.2 a ha
    exact ⟨cs, fr, (hf.block _ (hns a ha).2 (hns a ha).1).trans hg⟩
theorem noBytes_own {w : World} {base size n : Nat} {e : TypeId} {v : Value} {xs : List Value} (h : w.ownsRow base e size v n xs) (he : e ≠ 5) : ∀ s ∈ v.ownBlock.toList, NoBytes w s := by
  intro s hs cs fr hg
  rcases h.2 with ⟨hv, _⟩ | ⟨g, cap, cur, hv, _, hgg, _⟩
  · rw [hv] at hs; simp [Value.ownBlock] at hs
  · rw [hv] at hs
    simp [Value.ownBlock] at hs
    subst hs
    rw [hgg] at hg
    cases hg
    exact he rfl
theorem own_apart {w : World} {b1 b2 s1 s2 n1 n2 : Nat} {e1 e2 : TypeId} {v1 v2 : Value} {x1 x2 : List Value} (h1 : w.ownsRow b1 e1 s1 v1 n1 x1) (h2 : w.ownsRow b2 e2 s2 v2 n2 x2) (he : e1 ≠ e2) : ∀ s ∈ v1.ownBlock.toList, s ∉ v2.ownBlock.toList := by
  intro s hs hs2
  rcases h1.2 with ⟨hv, _⟩ | ⟨g, cap, cur, hv, _, hgg, _⟩
  · rw [hv] at hs; simp [Value.ownBlock] at hs
  · rcases h2.2 with ⟨hv2, _⟩ | ⟨g2, cap2, cur2, hv2, _, hgg2, _⟩
    · rw [hv2] at hs2; simp [Value.ownBlock] at hs2
    · rw [hv] at hs
      rw [hv2] at hs2
      simp [Value.ownBlock] at hs hs2
      subst hs hs2
      rw [hgg] at hgg2
      cases hgg2
      exact he rfl
theorem rowFrS {w w' : World} {base size n : Nat} {e : TypeId} {v : Value} {xs : List Value} {S : List Nat} (h : w.ownsRow base e size v n xs) (hf : Fr w w' S) (hS : ∀ s ∈ v.ownBlock.toList, s ∉ S) : w'.ownsRow base e size v n xs := by
  refine ⟨h.1, ?_⟩
  rcases h.2 with h2 | ⟨g, cap, cur, hv, hg, hgg, r⟩
  · exact .inl h2
  · refine .inr ⟨g, cap, cur, hv, hg, ?_, r⟩
    rw [hf.block g (Array.getElem?_eq_some_iff.1 hgg).1 (hS g (by rw [hv]; simp [Value.ownBlock]))]
    exact hgg
end Go.Proofs.Ytdjcpjfomgfjlaa
/- What the arguments of this seat's statements are, opened to lists. -/
namespace Go.Proofs.Ytdjcpjfomgfjlaa
open Go.ChangeShapes Go.WideShapes Go.ChangeAt Go.RowKit Go.Deep
set_option maxRecDepth 100000

theorem weights_of {H : Type} {ts : List TypeId} {ds : List (DataW H)} (h : (DataW.weightsEach Try.prog ts ds).all (· ≤ reachBytes) = true) {j : Nat} {t : TypeId} {d : DataW H} (ht : ts[j]? = some t) (hd : ds[j]? = some d) :
    ∀ n ∈ d.weights Try.prog t, n ≤ reachBytes := fun n hn => by
  have := List.all_eq_true.1 h _ (DataW.weights_mem_each ht hd n hn)
  simpa using this
theorem open_num {H : Type} {enc : TypeId × Value → H} {W : World} {base : Nat} {v : Value} {d : DataW H} {p : List MemPlace} (hv : Value.okWide Try.prog W .any base 3 v)
    (h : DataW.Trod enc Try.prog W 0 (fun _ => true) true 3 v d p) : ∃ n : Int, v = .int .i64 n ∧ -9223372036854775808 ≤ n ∧ n ≤ 9223372036854775807 := by
  obtain ⟨n, rfl, rfl, rfl, hw⟩ := open_int Try.underlying3 hv h
  have b1 : IntKind.i64.min = -9223372036854775808 := by decide +kernel
  have b2 : IntKind.i64.max = 9223372036854775807 := by decide +kernel
  simp [Lit.wf] at hw
  exact ⟨n, rfl, by omega, by omega⟩
theorem fits_num {n : Int} (h : (Lit.int .i64 n).wf = true) : -9223372036854775808 ≤ n ∧ n ≤ 9223372036854775807 := by
  have b1 : IntKind.i64.min = -9223372036854775808 := by decide +kernel
  have b2 : IntKind.i64.max = 9223372036854775807 := by decide +kernel
  simp [Lit.wf] at h
  omega
end Go.Proofs.Ytdjcpjfomgfjlaa
/- Lists of bytes among the arguments, opened. -/
namespace Go.Proofs.Ytdjcpjfomgfjlaa
open Go.ChangeShapes Go.WideShapes Go.ChangeAt Go.RowKit Go.Deep
set_option maxRecDepth 100000

theorem bytes_u8 : Try.prog.bytesOf 5 = 1 := by kernel_rfl
/-- Numbers that fit a byte are bytes. -/
theorem ints_u8 : ∀ (zs : List Int), (∀ n ∈ zs, (Lit.int .u8 n).wf = true) → ∃ l : List UInt8, zs = l.map (fun b => (b.toNat : Int))
  | [], _ => ⟨[], rfl⟩
  | z :: zs, h => by
    obtain ⟨l, rfl⟩ := ints_u8 zs fun n hn => h n (List.mem_cons_of_mem _ hn)
    have hz := h z (List.mem_cons_self ..)
    have hb : 0 ≤ z ∧ z ≤ 255 := by
      have b1 : IntKind.u8.min = 0 := by decide +kernel
      have b2 : IntKind.u8.max = 255 := by decide +kernel
      simp [Lit.wf] at hz
      omega
    refine ⟨UInt8.ofNat z.toNat :: l, ?_⟩
    simp [UInt8.toNat_ofNat']
    omega

theorem open_bytes {H : Type} {enc : TypeId × Value → H} {W : World} {base : Nat} {v : Value} {d : DataW H} {p : List MemPlace} (hv : Value.okWide Try.prog W .any base 45 v)
    (h : DataW.Trod enc Try.prog W 0 (fun _ => true) true 45 v d p) (hsz : ∀ n ∈ d.weights Try.prog 45, n ≤ reachBytes) :
    ∃ (A : Option Addr) (l : List UInt8) (c : Nat), v = .slice A l.length c ∧ Rd W W.heap.size A (u8s l) ∧ l.length ≤ c ∧ c ≤ 140737488351232 := by
  obtain ⟨a0, len0, cap0, rfl⟩ := okWide_slice Try.underlying45 hv
  obtain ⟨fuel, hf⟩ := h
  rcases open_ints Try.underlying45 Try.underlying5 (by kernel_rfl) hf with ⟨hcs, _⟩ | ⟨x, len, c, zs, hcs, _, hl, hm, hz, hx, hcell, hwz⟩
  · simp [Value.cells] at hcs
    obtain ⟨rfl, rfl, rfl⟩ := hcs
    exact ⟨none, [], 0, rfl, Rd.emp _ _ _, by simp, by omega⟩
  · simp [Value.cells] at hcs
    obtain ⟨rfl, rfl, rfl⟩ := hcs
    simp only [if_true] at hz
    simp only [Prod.mk.injEq] at hx
    obtain ⟨rfl, -⟩ := hx
    have hw := hsz ((((lits (H := H) .u8 (zs.take len0)).length + (lits (H := H) .u8 (zs.drop len0)).length)) * Try.prog.bytesOf 5) (by simp [DataW.weights, Try.underlying45])
    rw [bytes_u8] at hw
    simp only [lits, List.length_map, List.length_take, List.length_drop, reachBytes] at hw
    obtain ⟨l, rfl⟩ := ints_u8 zs hwz
    rw [List.length_map] at hz
    have hll : (l.take len0).length = len0 := by rw [List.length_take]; omega
    refine ⟨some x, l.take len0, cap0, by rw [hll], ?_, by omega, by simp at hw; omega⟩
    have hcc : ∀ j u, (u8s (l.take len0))[j]? = some u → W.cell? (x.add j) = some u := by
      intro j u hu
      have hj : j < (u8s (l.take len0)).length := (List.getElem?_eq_some_iff.1 hu).1
      rw [u8s_length, hll] at hj
      rw [hcell j (by simp; omega), ← hu]
      simp [u8s, hj, List.getElem?_eq_getElem (show j < l.length by omega)]
    by_cases hb : x.block < W.heap.size
    · exact Rd.ofAddr hb hcc
    · intro hn
      obtain ⟨y, r, hyr⟩ := List.exists_cons_of_ne_nil hn
      have := hcc 0 y (by rw [hyr]; rfl)
      have h2 := World.block_lt_of_cell? W _ this
      simp [Addr.add] at h2
      omega

end Go.Proofs.Ytdjcpjfomgfjlaa
/- Rows of bytes among the arguments, opened. -/
namespace Go.Proofs.Ytdjcpjfomgfjlaa
open Go.ChangeShapes Go.WideShapes Go.ChangeAt Go.RowKit Go.Deep
set_option maxRecDepth 100000

theorem weightsAll_mem {H : Type} {P : Program} {e : TypeId} : ∀ {l : List (DataW H)} {d : DataW H}, d ∈ l → ∀ n ∈ d.weights P e, n ∈ DataW.weightsAll P e l
  | [], _, h, _, _ => by cases h
  | x :: r, d, h, n, hn => by
    simp only [DataW.weightsAll, List.mem_append]
    rcases List.mem_cons.1 h with rfl | h
    · exact .inl hn
    · exact .inr (weightsAll_mem h n hn)

/-- A slice of bytes that lies somewhere. -/
structure RowB where
  A : Option Addr
  l : List UInt8
  c : Nat
instance : Inhabited RowB := ⟨⟨none, [], 0⟩⟩
def RowB.v (r : RowB) : Value := .slice r.A r.l.length r.c
/-- It lies in a world, and is no longer than may be. -/
def RowB.ok (r : RowB) (W : World) (B : Nat) : Prop := Rd W B r.A (u8s r.l) ∧ r.l.length ≤ r.c ∧ r.c ≤ 140737488351232
theorem RowB.ok.below {r : RowB} {w w' : World} {B C : Nat} (h : r.ok w B) (hb : Below C w w') (hB : B ≤ C) : r.ok w' B := ⟨h.1.below hb hB, h.2.1, h.2.2⟩

theorem bytes_trod {H : Type} {enc : TypeId × Value → H} {W : World} {fuel : Nat} {v : Value} {y : DataW H × List MemPlace}
    (hf : DataW.trod enc Try.prog W 0 (fun _ => true) true fuel 45 [v] = some y) (hsz : ∀ n ∈ y.1.weights Try.prog 45, n ≤ reachBytes) :
    ∃ r : RowB, v = r.v ∧ r.ok W W.heap.size := by
  rcases open_ints Try.underlying45 Try.underlying5 (by kernel_rfl) hf with ⟨hcs, _⟩ | ⟨x, len0, cap0, zs, hcs, _, hl, hm, hz, hx, hcell, hwz⟩
  · simp only [List.cons.injEq, and_true] at hcs
    subst hcs
    exact ⟨⟨none, [], 0⟩, rfl, Rd.emp _ _ _, by simp, by simp⟩
  · simp only [List.cons.injEq, and_true] at hcs
    subst hcs
    simp only [if_true] at hz
    subst hx
    have hw := hsz ((((lits (H := H) .u8 (zs.take len0)).length + (lits (H := H) .u8 (zs.drop len0)).length)) * Try.prog.bytesOf 5) (by simp [DataW.weights, Try.underlying45])
    rw [bytes_u8] at hw
    simp only [lits, List.length_map, List.length_take, List.length_drop, reachBytes] at hw
    obtain ⟨l, rfl⟩ := ints_u8 zs hwz
    rw [List.length_map] at hz
    have hll : (l.take len0).length = len0 := by rw [List.length_take]; omega
    refine ⟨⟨some x, l.take len0, cap0⟩, by unfold RowB.v; rw [hll], ?_, by show (l.take len0).length ≤ cap0; omega, by show cap0 ≤ 140737488351232; simp at hw; omega⟩
    have hcc : ∀ j u, (u8s (l.take len0))[j]? = some u → W.cell? (x.add j) = some u := by
      intro j u hu
      have hj : j < (u8s (l.take len0)).length := (List.getElem?_eq_some_iff.1 hu).1
      rw [u8s_length, hll] at hj
      rw [hcell j (by simp; omega), ← hu]
      simp [u8s, hj, List.getElem?_eq_getElem (show j < l.length by omega)]
    by_cases hb : x.block < W.heap.size
    · exact Rd.ofAddr hb hcc
    · intro hn
      obtain ⟨y, r, hyr⟩ := List.exists_cons_of_ne_nil hn
      have := hcc 0 y (by rw [hyr]; rfl)
      have h2 := World.block_lt_of_cell? W _ this
      simp [Addr.add] at h2
      omega
theorem choose_rows {α : Type} [Inhabited α] {p : Nat → α → Prop} (m : Nat) (h : ∀ i, i < m → ∃ q, p i q) : ∃ L : List α, L.length = m ∧ ∀ i (hi : i < L.length), p i L[i] := by
  obtain ⟨f, hf⟩ := choose_lt h
  refine ⟨(List.range m).map f, by simp, fun i hi => ?_⟩
  simp only [List.getElem_map, List.getElem_range]
  exact hf i (by simpa using hi)

theorem open_rows {H : Type} {enc : TypeId × Value → H} {W : World} {base : Nat} {v : Value} {d : DataW H} {p : List MemPlace} (hv : Value.okWide Try.prog W .any base 63 v)
    (h : DataW.Trod enc Try.prog W 0 (fun _ => true) true 63 v d p) (hsz : ∀ n ∈ d.weights Try.prog 63, n ≤ reachBytes) :
    ∃ (A : Option Addr) (L : List RowB) (c : Nat), v = .slice A L.length c ∧ Rd W W.heap.size A (L.map RowB.v) ∧ (∀ r ∈ L, r.ok W W.heap.size) ∧ L.length ≤ c ∧ c ≤ 9223372036854775807 := by
  obtain ⟨a0, len0, cap0, rfl⟩ := okWide_slice Try.underlying63 hv
  obtain ⟨fuel, hf⟩ := h
  rcases open_slice1 Try.underlying63 (by kernel_rfl) hf with ⟨hcs, _⟩ | ⟨x, len, cap, m, n, V, D, Pl, hcs, _, hl, hm, hmm, hx, hel⟩
  · simp [Value.cells] at hcs
    obtain ⟨rfl, rfl, rfl⟩ := hcs
    exact ⟨none, [], 0, rfl, Rd.emp _ _ _, by simp, by simp, by omega⟩
  · simp [Value.cells] at hcs
    obtain ⟨rfl, rfl, rfl⟩ := hcs
    simp only [if_true] at hmm
    subst hmm
    simp only [Prod.mk.injEq] at hx
    obtain ⟨rfl, -⟩ := hx
    have hel2 : ∀ i, i < len0 → ∃ q : RowB, V i = q.v ∧ q.ok W W.heap.size := by
      intro i hi
      refine bytes_trod (hel i (by omega)).2 fun n hn => hsz n ?_
      simp only [DataW.weights, Try.underlying63, List.mem_cons, List.mem_append]
      exact .inr (.inl (weightsAll_mem (d := D i) (List.mem_map.2 ⟨i, List.mem_range.2 hi, rfl⟩) _ hn))
    obtain ⟨L, hL, hk⟩ := choose_rows len0 hel2
    subst hL
    refine ⟨some x, L, m, rfl, ?_, ?_, hl, by simp only [maxLen] at hm; omega⟩
    · have hcc : ∀ j u, (L.map RowB.v)[j]? = some u → W.cell? (x.add j) = some u := by
        intro j u hu
        have hj : j < L.length := by simpa using (List.getElem?_eq_some_iff.1 hu).1
        rw [(hel j (by omega)).1, ← hu, (hk j hj).1]
        simp [hj]
      by_cases hb : x.block < W.heap.size
      · exact Rd.ofAddr hb hcc
      · intro hn
        obtain ⟨y, r, hyr⟩ := List.exists_cons_of_ne_nil hn
        have := hcc 0 y (by rw [hyr]; rfl)
        have h2 := World.block_lt_of_cell? W _ this
        simp [Addr.add] at h2
        omega
    · intro q hq
      obtain ⟨i, hi, rfl⟩ := List.mem_iff_getElem.1 hq
      exact (hk i hi).2
end Go.Proofs.Ytdjcpjfomgfjlaa
/- A struct of three numbers among the arguments, opened. -/
namespace Go.Proofs.Ytdjcpjfomgfjlaa
open Go.ChangeShapes Go.WideShapes Go.ChangeAt Go.RowKit Go.Deep
set_option maxRecDepth 100000

theorem trod_struct3 {H : Type} {enc : TypeId × Value → H} {P : Program} {w : World} {base : Nat} {spare : Nat → Bool} {held : Bool} {t : TypeId} {f0 f1 f2 : Field} {fuel : Nat} {cs : List Value} {x : DataW H × List MemPlace}
    (ht : P.underlying t = some (.struct #[f0, f1, f2])) (h : DataW.trod enc P w base spare held fuel t cs = some x) :
    ∃ y0 y1 y2 n, x.1 = .agg [y0.1, y1.1, y2.1] ∧ cs.length = P.cellsOf t ∧ DataW.trod enc P w base spare held n f0.type ((cs.drop f0.offset).take (P.cellsOf f0.type)) = some y0 ∧
      DataW.trod enc P w base spare held n f1.type ((cs.drop f1.offset).take (P.cellsOf f1.type)) = some y1 ∧ DataW.trod enc P w base spare held n f2.type ((cs.drop f2.offset).take (P.cellsOf f2.type)) = some y2 := by
  obtain ⟨xs, n, _, rfl, hl, hlen, hf⟩ := DataW.trod_struct ht h
  match xs, hlen with
  | [y0, y1, y2], _ => exact ⟨y0, y1, y2, n, by simp, hl, by simpa using hf 0 f0 rfl, by simpa using hf 1 f1 rfl, by simpa using hf 2 f2 rfl⟩
theorem open_area {H : Type} {enc : TypeId × Value → H} {W : World} {base : Nat} {v : Value} {d : DataW H} {p : List MemPlace} (hv : Value.okWide Try.prog W .any base 23 v)
    (h : DataW.Trod enc Try.prog W 0 (fun _ => true) true 23 v d p) :
    ∃ m n k : Int, v = .agg #[.int .i64 m, .int .i64 n, .int .i64 k] ∧ (-9223372036854775808 ≤ m ∧ m ≤ 9223372036854775807) ∧ (-9223372036854775808 ≤ n ∧ n ≤ 9223372036854775807) ∧ (-9223372036854775808 ≤ k ∧ k ≤ 9223372036854775807) := by
  obtain ⟨cs, rfl, hcs⟩ : ∃ cs : Array Value, v = .agg cs ∧ cs.size = Try.prog.cellsOf 23 := by
    simp only [Value.okWide, Try.underlying23] at hv
    obtain ⟨cs, h1, h2, _⟩ := hv
    exact ⟨cs, h1, h2⟩
  obtain ⟨l⟩ := cs
  have h3 : Try.prog.cellsOf 23 = 3 := by kernel_rfl
  match l, hcs.trans h3 with
  | [c0, c1, c2], _ =>
    obtain ⟨fuel, hf⟩ := h
    obtain ⟨y0, y1, y2, m, _, _, g0, g1, g2⟩ := trod_struct3 Try.underlying23 hf
    have g0' : DataW.trod enc Try.prog W 0 (fun _ => true) true m 3 [c0] = some y0 := by simpa [Value.cells, show Try.prog.cellsOf 3 = 1 from by kernel_rfl] using g0
    have g1' : DataW.trod enc Try.prog W 0 (fun _ => true) true m 3 [c1] = some y1 := by simpa [Value.cells, show Try.prog.cellsOf 3 = 1 from by kernel_rfl] using g1
    have g2' : DataW.trod enc Try.prog W 0 (fun _ => true) true m 3 [c2] = some y2 := by simpa [Value.cells, show Try.prog.cellsOf 3 = 1 from by kernel_rfl] using g2
    obtain ⟨a, e0, _, wa⟩ := DataW.trod_int Try.underlying3 g0'
    obtain ⟨b, e1, _, wb⟩ := DataW.trod_int Try.underlying3 g1'
    obtain ⟨k, e2, _, wc⟩ := DataW.trod_int Try.underlying3 g2'
    simp only [List.cons.injEq, and_true] at e0 e1 e2
    subst e0 e1 e2
    exact ⟨a, b, k, rfl, fits_num wa, fits_num wb, fits_num wc⟩
end Go.Proofs.Ytdjcpjfomgfjlaa
/- Scripts of a log's calls among the arguments, opened. -/
namespace Go.Proofs.Ytdjcpjfomgfjlaa
open Go.ChangeShapes Go.WideShapes Go.ChangeAt Go.RowKit Go.Deep
set_option maxRecDepth 100000

/-- One call. -/
structure OpL where
  kind : Int
  n : Int
  cut : Int
  b : RowB
  KA : Option Addr
  keep : List Bool
  kc : Nat
structure OpL.ok (o : OpL) (W : World) (B : Nat) : Prop where
  n : -9223372036854775808 ≤ o.n ∧ o.n ≤ 9223372036854775807
  b : o.b.ok W B
  keep : Rd W B o.KA (o.keep.map Value.bool)
  kc : o.keep.length ≤ 140737488351232
theorem trod_struct5 {H : Type} {enc : TypeId × Value → H} {P : Program} {w : World} {base : Nat} {spare : Nat → Bool} {held : Bool} {t : TypeId} {f0 f1 f2 f3 f4 : Field} {fuel : Nat} {cs : List Value} {x : DataW H × List MemPlace}
    (ht : P.underlying t = some (.struct #[f0, f1, f2, f3, f4])) (h : DataW.trod enc P w base spare held fuel t cs = some x) :
    ∃ y0 y1 y2 y3 y4 n, x.1 = .agg [y0.1, y1.1, y2.1, y3.1, y4.1] ∧ cs.length = P.cellsOf t ∧ DataW.trod enc P w base spare held n f0.type ((cs.drop f0.offset).take (P.cellsOf f0.type)) = some y0 ∧
      DataW.trod enc P w base spare held n f1.type ((cs.drop f1.offset).take (P.cellsOf f1.type)) = some y1 ∧ DataW.trod enc P w base spare held n f2.type ((cs.drop f2.offset).take (P.cellsOf f2.type)) = some y2 ∧
      DataW.trod enc P w base spare held n f3.type ((cs.drop f3.offset).take (P.cellsOf f3.type)) = some y3 ∧ DataW.trod enc P w base spare held n f4.type ((cs.drop f4.offset).take (P.cellsOf f4.type)) = some y4 := by
  obtain ⟨xs, n, _, rfl, hl, hlen, hf⟩ := DataW.trod_struct ht h
  match xs, hlen with
  | [y0, y1, y2, y3, y4], _ => exact ⟨y0, y1, y2, y3, y4, n, by simp, hl, by simpa using hf 0 f0 rfl, by simpa using hf 1 f1 rfl, by simpa using hf 2 f2 rfl, by simpa using hf 3 f3 rfl, by simpa using hf 4 f4 rfl⟩
theorem bytes_bool : Try.prog.bytesOf 4 = 1 := by kernel_rfl
theorem flags_trod {H : Type} {enc : TypeId × Value → H} {W : World} {fuel : Nat} {v : Value} {y : DataW H × List MemPlace}
    (hf : DataW.trod enc Try.prog W 0 (fun _ => true) true fuel 31 [v] = some y) (hsz : ∀ n ∈ y.1.weights Try.prog 31, n ≤ reachBytes) :
    ∃ (A : Option Addr) (l : List Bool) (c : Nat), v = .slice A l.length c ∧ Rd W W.heap.size A (l.map Value.bool) ∧ l.length ≤ 140737488351232 := by
  rcases open_bools Try.underlying31 Try.underlying4 (by kernel_rfl) hf with ⟨hcs, _⟩ | ⟨x, len0, cap0, Bf, hcs, _, hl, hm, hx, hcell⟩
  · simp only [List.cons.injEq, and_true] at hcs
    subst hcs
    exact ⟨none, [], 0, rfl, Rd.emp _ _ _, by simp⟩
  · simp only [List.cons.injEq, and_true] at hcs
    subst hcs
    have hw : len0 ≤ 140737488351232 := by
      have hy : y.1 = boolRow (some x) len0 cap0 Bf := by rw [hx]
      have := hsz ((len0 + (cap0 - len0)) * Try.prog.bytesOf 4) (by rw [hy]; simp [boolRow, DataW.weights, Try.underlying31])
      rw [bytes_bool] at this
      simp only [reachBytes] at this
      omega
    refine ⟨some x, (List.range len0).map Bf, cap0, by simp, ?_, by simpa using hw⟩
    have hcc : ∀ j u, (((List.range len0).map Bf).map Value.bool)[j]? = some u → W.cell? (x.add j) = some u := by
      intro j u hu
      have hj : j < len0 := by simpa using (List.getElem?_eq_some_iff.1 hu).1
      rw [hcell j (by omega), ← hu]
      simp [hj]
    by_cases hb : x.block < W.heap.size
    · exact Rd.ofAddr hb hcc
    · intro hn
      obtain ⟨y, r, hyr⟩ := List.exists_cons_of_ne_nil hn
      have := hcc 0 y (by rw [hyr]; rfl)
      have h2 := World.block_lt_of_cell? W _ this
      simp [Addr.add] at h2
      omega
instance : Inhabited OpL := ⟨⟨0, 0, 0, default, none, [], 0⟩⟩
def OpL.cells (o : OpL) : List Value := [.int .i64 o.kind, .int .i64 o.n, .int .i64 o.cut, .slice o.b.A o.b.l.length o.b.c, .slice o.KA o.keep.length o.kc]
def opsL (L : List OpL) : List Value := L.flatMap OpL.cells
theorem opsL_len (L : List OpL) : (opsL L).length = L.length * 5 := by
  induction L with
  | nil => rfl
  | cons a L ih => simp only [opsL, List.flatMap_cons, List.length_append] at ih ⊢; rw [ih]; simp [OpL.cells]; omega
theorem opsL_get (L : List OpL) : ∀ (i : Nat) (h : i < L.length) (j : Nat), j < 5 → (opsL L)[i * 5 + j]? = (L[i].cells)[j]? := by
  induction L with
  | nil => intro i h; exact absurd h (by simp)
  | cons a L ih =>
    intro i h j hj
    cases i with
    | zero =>
      show (a.cells ++ opsL L)[0 * 5 + j]? = _
      rw [List.getElem?_append_left (by simp [OpL.cells]; omega)]
      simp
    | succ i =>
      show (a.cells ++ opsL L)[(i + 1) * 5 + j]? = _
      rw [List.getElem?_append_right (by simp [OpL.cells]; omega)]
      have : (i + 1) * 5 + j - a.cells.length = i * 5 + j := by simp [OpL.cells]; omega
      rw [this, ih i (by simpa using h) j hj]
      simp
theorem cells_opL : Try.prog.cellsOf 74 = 5 := by kernel_rfl
theorem open_opsL {H : Type} {enc : TypeId × Value → H} {W : World} {base : Nat} {v : Value} {d : DataW H} {p : List MemPlace} (hv : Value.okWide Try.prog W .any base 69 v)
    (h : DataW.Trod enc Try.prog W 0 (fun _ => true) true 69 v d p) (hsz : ∀ n ∈ d.weights Try.prog 69, n ≤ reachBytes) :
    ∃ (A : Option Addr) (L : List OpL) (c : Nat), v = .slice A L.length c ∧ Rd W W.heap.size A (opsL L) ∧ (∀ o ∈ L, o.ok W W.heap.size) := by
  obtain ⟨a0, len0, cap0, rfl⟩ := okWide_slice Try.underlying69 hv
  obtain ⟨fuel, hf⟩ := h
  rcases open_slice Try.underlying69 hf with ⟨hcs, _⟩ | ⟨x, len, cap, m, n, D, Pl, hcs, _, hl, hm, hmm, hx, hel⟩
  · simp [Value.cells] at hcs
    obtain ⟨rfl, rfl, rfl⟩ := hcs
    exact ⟨none, [], 0, rfl, Rd.emp _ _ _, by simp⟩
  · simp [Value.cells] at hcs
    obtain ⟨rfl, rfl, rfl⟩ := hcs
    simp only [if_true] at hmm
    subst hmm
    simp only [Prod.mk.injEq] at hx
    obtain ⟨rfl, -⟩ := hx
    rw [cells_opL] at hel
    have hel2 : ∀ i, i < len0 → ∃ q : OpL, q.ok W W.heap.size ∧ ∀ j u, q.cells[j]? = some u → W.cell? ((x.add (i * 5)).add j) = some u := by
      intro i hi
      obtain ⟨cs', hc, ht⟩ := hel i (by omega)
      obtain ⟨y0, y1, y2, y3, y4, n', hy, hlen, h0, h1, h2, h3, h4⟩ := trod_struct5 Try.underlying74 ht
      obtain ⟨_, hcl, hat⟩ := World.cells?_some hc
      match cs', hcl with
      | [c0, c1, c2, c3, c4], _ =>
        have g0 : DataW.trod enc Try.prog W 0 (fun _ => true) true n' 3 [c0] = some y0 := by simpa [show Try.prog.cellsOf 3 = 1 from by kernel_rfl] using h0
        have g1 : DataW.trod enc Try.prog W 0 (fun _ => true) true n' 3 [c1] = some y1 := by simpa [show Try.prog.cellsOf 3 = 1 from by kernel_rfl] using h1
        have g2 : DataW.trod enc Try.prog W 0 (fun _ => true) true n' 3 [c2] = some y2 := by simpa [show Try.prog.cellsOf 3 = 1 from by kernel_rfl] using h2
        have g3 : DataW.trod enc Try.prog W 0 (fun _ => true) true n' 45 [c3] = some y3 := by simpa [show Try.prog.cellsOf 45 = 1 from by kernel_rfl] using h3
        have g4 : DataW.trod enc Try.prog W 0 (fun _ => true) true n' 31 [c4] = some y4 := by simpa [show Try.prog.cellsOf 31 = 1 from by kernel_rfl] using h4
        have hwt : ∀ (k : Nat) (t : TypeId) (y : DataW H × List MemPlace), (∀ nn ∈ y.1.weights Try.prog t, nn ∈ (D i).weights Try.prog 74) → ∀ nn ∈ y.1.weights Try.prog t, nn ≤ reachBytes := by
          intro _ t y hin nn hnn
          refine hsz nn ?_
          simp only [DataW.weights, Try.underlying69, List.mem_cons, List.mem_append]
          exact .inr (.inl (weightsAll_mem (d := D i) (List.mem_map.2 ⟨i, List.mem_range.2 hi, rfl⟩) _ (hin nn hnn)))
        obtain ⟨z0, e0, _, w0⟩ := DataW.trod_int Try.underlying3 g0
        obtain ⟨z1, e1, _, w1⟩ := DataW.trod_int Try.underlying3 g1
        obtain ⟨z2, e2, _, _⟩ := DataW.trod_int Try.underlying3 g2
        have hDi : D i = .agg [y0.1, y1.1, y2.1, y3.1, y4.1] := hy
        obtain ⟨r, hr, hrok⟩ := bytes_trod g3 (hwt 3 45 y3 (fun nn hnn => by rw [hDi]; simp only [DataW.weights, Try.underlying74]; simp [DataW.weightsEach, hnn]))
        obtain ⟨KA, kl, kc, hk, hkr, hkl⟩ := flags_trod g4 (hwt 4 31 y4 (fun nn hnn => by rw [hDi]; simp only [DataW.weights, Try.underlying74]; simp [DataW.weightsEach, hnn]))
        simp only [List.cons.injEq, and_true] at e0 e1 e2
        subst e0 e1 e2 hr hk
        refine ⟨⟨z0, z1, z2, r, KA, kl, kc⟩, ⟨fits_num w1, hrok, hkr, hkl⟩, fun j u hu => ?_⟩
        have hj : j < 5 := by
          have := (List.getElem?_eq_some_iff.1 hu).1
          simpa [OpL.cells] using this
        rw [hat j hj, ← hu]
        rfl
    obtain ⟨L, hL, hk⟩ := choose_rows len0 hel2
    subst hL
    refine ⟨some x, L, m, rfl, ?_, ?_⟩
    · have hcc : ∀ j u, (opsL L)[j]? = some u → W.cell? (x.add j) = some u := by
        intro j u hu
        have hj : j < L.length * 5 := by
          have := (List.getElem?_eq_some_iff.1 hu).1
          rwa [opsL_len] at this
        have hd : j = j / 5 * 5 + j % 5 := by omega
        have hk3 : j / 5 < L.length := by omega
        rw [hd, opsL_get L (j / 5) hk3 (j % 5) (by omega)] at hu
        have := (hk (j / 5) hk3).2 (j % 5) u hu
        rw [addAdd] at this
        rw [hd]
        exact this
      by_cases hb : x.block < W.heap.size
      · exact Rd.ofAddr hb hcc
      · intro hn
        obtain ⟨y, r, hyr⟩ := List.exists_cons_of_ne_nil hn
        have := hcc 0 y (by rw [hyr]; rfl)
        have h2 := World.block_lt_of_cell? W _ this
        simp [Addr.add] at h2
        omega
    · intro q hq
      obtain ⟨i, hi, rfl⟩ := List.mem_iff_getElem.1 hq
      exact (hk i hi).1
end Go.Proofs.Ytdjcpjfomgfjlaa
