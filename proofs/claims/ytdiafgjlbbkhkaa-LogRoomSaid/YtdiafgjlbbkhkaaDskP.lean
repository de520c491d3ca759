/- Words that several walks over disks share. -/
import Derived.Test.YtdiafgjlbbkhkaaDskO
import Derived.Test.YtdiafgjlbbkhkaaRefA
import Derived.Lib.SliceRun
import Derived.Deep.RegionHeld3
import Derived.Deep.RegionLaw
import Derived.Deep.RegionWith
import Derived.Deep.OwnRows
namespace Go.Proofs.Ytdiafgjlbbkhkaa
open Go.RowKit Go.Maps

theorem bytesC (A : Option Addr) (b : List UInt8) (c B : Nat) (w : World) (hr : Rd w B A (u8s b)) (hB : B ≤ w.heap.size) (hb : b.length ≤ 4611686018427387904) :
    Calls Try.prog 24 #[.slice A b.length c] w fun e w' => ∃ g, e = .returned (.slice (some ⟨g, 0, none⟩) 64 64) ∧ w.heap.size ≤ g ∧ g < w'.heap.size ∧ Rd w' w'.heap.size (some ⟨g, 0, none⟩) (u8s (bytesL b)) ∧ Below w.heap.size w w' := by
  refine (bytes_any A b c B w hr hB hb).mono ?_
  rintro e w' ⟨rfl, hg, hb⟩
  have hlt := (Array.getElem?_eq_some_iff.1 hg).1
  refine ⟨_, rfl, Nat.le_refl _, hlt, fun _ => ⟨_, 0, rfl, hlt, fun j u hu => ?_⟩, hb⟩
  rw [cell_of_row _ _ _ _ _ _ hg]
  simpa using hu

theorem lower {B C : Nat} {a b : World} (h : Below B a b) (hB : C ≤ B) : Below C a b := ⟨h.os, h.tape, h.output, h.size, fun k hk => h.block k (by omega)⟩
theorem Fr.lower {a b : World} {S : List Nat} {C : Nat} (h : Fr a b S) (hC : C ≤ a.heap.size) (hS : ∀ x ∈ S, C ≤ x) : Below C a b := h.below hC hS

theorem strAt {w : World} {A : Option Addr} {n c B : Nat} {l : List UInt8} (hr : Rd w B A (u8s l)) (hn : n = l.length) :
    (convert 36 9 (.slice A n c)).run Try.prog w = .ok (.string ⟨l.toArray⟩) w :=
  run_strB (P := Try.prog) w 36 9 5 A n c B l Try.underlying36 Try.underlying5 Try.underlying9 hn hr
theorem make64 (w : World) : (Instr.makeSlice 36 (.int .i64 64) (.int .i64 64)).run Try.prog w = .ok (.slice (some ⟨w.heap.size, 0, none⟩) 64 64) (w.alloc (.cells (u8s zero64).toArray 5)) := by
  have h := run_make_row' (P := Try.prog) 36 5 (.int .u8 0) 1 Try.underlying36 infoU8 rfl .i64 .i64 64 (by omega) (by omega) w
  rw [made64] at h
  exact h
theorem filter_one (i : Nat) : ∀ n : Nat, ((List.range n).filter fun j => decide (j = i)).length = if i < n then 1 else 0
  | 0 => by simp
  | n + 1 => by
    rw [List.range_succ, List.filter_append, List.length_append, filter_one i n]
    by_cases h : i < n
    · rw [if_pos h, if_pos (by omega), List.filter_cons, if_neg (by simp; omega)]; rfl
    · by_cases e : n = i
      · rw [if_neg h, if_pos (by omega), List.filter_cons, if_pos (by simp [e])]; rfl
      · rw [if_neg h, if_neg (by omega), List.filter_cons, if_neg (by simpa using e)]; rfl
theorem crashed_get (M : DM) (i : Nat) : (M.crashed [] (-1) 0).get i = M.sure i := by
  show M.left1 [] (-1) 0 i = _
  unfold DM.left1
  cases M.wr i with
  | none => rfl
  | some l => simp
theorem sl_str {w : World} {X : List Nat} {A : Option Addr} {l : List UInt8} (h : Sl w X A (u8s l)) (hl : l.length = 64) :
    (convert 36 9 (.slice A 64 64)).run Try.prog w = .ok (.string ⟨l.toArray⟩) w := strAt h.1 hl.symm
theorem Sl.drew {w : World} {X : List Nat} {A : Option Addr} {xs : List Value} (h : Sl w X A xs) : Sl w.drew X A xs := h
theorem unarmed {M : DM} (h : M.armed = false) : M.dead = false := by unfold DM.dead; rw [h]; rfl
theorem write_plain {M : DM} {i : Nat} {l : List UInt8} (ha : M.armed = false) (hi : i < M.size) (hl : l.length = 64) : M.writeE (i : Int) l = 0 ∧ M.writeM (i : Int) l = M.written i l := by
  have hn : ¬ (¬ (0 ≤ (i : Int) ∧ (i : Int) < (M.size : Int)) ∨ l.length ≠ 64) := by rw [hl]; omega
  unfold DM.writeE DM.writeM
  rw [if_neg hn, if_neg hn, unarmed ha]
  exact ⟨rfl, rfl⟩
theorem flush_plain {M : DM} (ha : M.armed = false) : M.flushE = 0 ∧ M.flushM = M.flushed := by
  unfold DM.flushE DM.flushM
  rw [unarmed ha]
  exact ⟨rfl, rfl⟩
theorem crashed_facts (M : DM) (keep : List Bool) (torn cut : Int) : (M.crashed keep torn cut).size = M.size ∧ (M.crashed keep torn cut).steps = 0 ∧ (M.crashed keep torn cut).fresh.length = 0 := by
  refine ⟨rfl, rfl, ?_⟩
  have : (M.crashed keep torn cut).fresh = [] := by unfold DM.fresh; simp [DM.crashed]
  rw [this]; rfl
/-- Where the first difference stands nothing of the one is left. -/
theorem drop_same {b l s : List UInt8} {n k : Nat} (hb : b = l.take n ++ s.drop n) (hl : l.length = 64) (hs : s.length = 64) (hk : k ≤ 64) (hd : k = 64 ∨ b[k]? ≠ l[k]?) : b.drop k = s.drop k := by
  have hbl : b.length = 64 := by rw [hb]; simp [hl, hs]; omega
  rcases hd with rfl | hd
  · rw [List.drop_of_length_le (by omega), List.drop_of_length_le (by omega)]
  · by_cases hk64 : k = 64
    · rw [List.drop_of_length_le (by omega), List.drop_of_length_le (by omega)]
    · have hnk : n ≤ k := by
        rcases Nat.lt_or_ge k n with h | h
        · exfalso; apply hd
          rw [hb, List.getElem?_append_left (by simp; omega), List.getElem?_take, if_pos h]
        · exact h
      rw [hb, List.drop_append, List.length_take, hl]
      rw [List.drop_of_length_le (by simp; omega), List.nil_append, List.drop_drop]
      congr 1
      omega
/-- Bytes of two bytes that were just laid. -/
theorem bytes_two (x y : UInt8) (w : World) :
    Calls Try.prog 24 #[.slice (some ⟨w.heap.size, 0, none⟩) 2 2] (w.alloc (.cells #[.int .u8 (x.toNat : Int), .int .u8 (y.toNat : Int)] 5)) fun e w' => ∃ g, e = .returned (.slice (some ⟨g, 0, none⟩) 64 64) ∧ w.heap.size < g ∧ g < w'.heap.size ∧ Rd w' w'.heap.size (some ⟨g, 0, none⟩) (u8s (bytesL [x, y])) ∧ Below w.heap.size w w' := by
  have hs : (w.alloc (.cells #[.int .u8 (x.toNat : Int), .int .u8 (y.toNat : Int)] 5)).heap.size = w.heap.size + 1 := by simp
  have hr : Rd (w.alloc (.cells #[.int .u8 (x.toNat : Int), .int .u8 (y.toNat : Int)] 5)) (w.heap.size + 1) (some ⟨w.heap.size, 0, none⟩) (u8s [x, y]) := Rd.new w #[.int .u8 (x.toNat : Int), .int .u8 (y.toNat : Int)] 5 (0, 0)
  refine (bytesC (some ⟨w.heap.size, 0, none⟩) [x, y] 2 _ _ hr (by omega) (by simp)).mono ?_
  rintro e w' ⟨g, rfl, h1, h2, h3, h4⟩
  rw [hs] at h1 h4
  exact ⟨g, rfl, by omega, h2, h3, ((Below.refl _ w).alloc (Nat.le_refl _) _).trans (lower h4 (by omega))⟩
theorem wrap_byte (x : UInt8) : wrap64 (x.toNat : Int) = (x.toNat : Int) := by
  have := x.toNat_lt
  unfold wrap64
  omega
theorem bytes_two' (x y : UInt8) (w : World) {n : Nat} (hn : w.heap.size = n) :
    Calls Try.prog 24 #[.slice (some ⟨n, 0, none⟩) 2 2] (w.alloc (.cells #[.int .u8 (x.toNat : Int), .int .u8 (y.toNat : Int)] 5)) fun e w' => ∃ g, e = .returned (.slice (some ⟨g, 0, none⟩) 64 64) ∧ n < g ∧ g < w'.heap.size ∧ Rd w' w'.heap.size (some ⟨g, 0, none⟩) (u8s (bytesL [x, y])) ∧ Below n w w' := by
  subst hn
  exact bytes_two x y w
theorem not_nil (g n c : Nat) (w : World) : (binOp BinOp.eql 36 (.slice (some ⟨g, 0, none⟩) n c) (.slice none 0 0)).run Try.prog w = .ok (.bool false) w := Lib.run_eql_slice_nil w _ _ (some ⟨g, 0, none⟩) n c 0 0 Try.underlying36
theorem Below.drewN' {B : Nat} {a b : World} (h : Below B a b) (n : Nat) : Below B a (b.drewN n) := ⟨h.os, h.tape, h.output, h.size, h.block⟩
theorem rd_drop {w : World} {B g k : Nat} {l : List UInt8} (h : Rd w B (some ⟨g, 0, none⟩) (u8s l)) : Rd w B (some ⟨g, k, none⟩) (u8s (l.drop k)) := by
  intro hn
  have h0 : u8s l ≠ [] := by rintro e; apply hn; have := congrArg List.length e; rw [u8s_len] at this; have h2 : l = [] := List.eq_nil_of_length_eq_zero this; rw [h2]; simp [u8s]
  obtain ⟨b, o, e, hb, hc⟩ := h h0
  cases e
  refine ⟨g, k, rfl, hb, fun j u hu => ?_⟩
  have := hc (k + j) u (by rw [← hu]; simp [u8s, List.getElem?_drop])
  rw [Nat.zero_add] at this
  exact this
theorem beq_bytes {a b : List UInt8} (h : a ≠ b) : (a == b) = false := beq_eq_false_iff_ne.2 h

theorem infoStr : (Try.prog.info? 9).map (fun i => (i.zero, i.size, i.bytes)) = some (some (.string .empty), 1, 16) := by kernel_rfl
theorem infoBool : (Try.prog.info? 4).map (fun i => (i.zero, i.size, i.bytes)) = some (some (.bool false), 1, 1) := by kernel_rfl
theorem infoInt : (Try.prog.info? 3).map (fun i => (i.zero, i.size, i.bytes)) = some (some (.int .i64 0), 1, 8) := by kernel_rfl
theorem own_form {w : World} {base size n : Nat} {e : TypeId} {v : Value} {xs : List Value} (h : w.ownsRow base e size v n xs) (hn : 0 < n) : ∃ g c, v = .slice (some ⟨g, 0, none⟩) n c ∧ base ≤ g ∧ g < w.heap.size ∧ n ≤ c ∧ c ≤ maxLen := by
  have h' := h
  rcases h.2 with ⟨_, h0⟩ | ⟨g, cap, cur, hv, hg, hh, hle, hm, hr⟩
  · omega
  · subst hv
    exact ⟨g, cap, rfl, hg, (World.ownsRow.lt h' g rfl).2, hle, hm⟩
/-- What a call owns reads as a slice in none of some elder blocks. -/
theorem own_sl {w : World} {base size n : Nat} {e : TypeId} {X : List Nat} {v : Value} {xs : List Value} (h : w.ownsRow base e size v n xs) (hX : ∀ x ∈ X, x < base) : ∃ A c, v = .slice A n c ∧ n ≤ c ∧ c ≤ maxLen ∧ Sl w X A xs := by
  have h' := h
  rcases h.2 with ⟨hv, h0⟩ | ⟨g, cap, cur, hv, hg, hh, hle, hm, hr⟩
  · exact ⟨none, 0, by rw [hv, h0], by omega, by simp [maxLen], by
      have : xs = [] := List.eq_nil_of_length_eq_zero (by rw [h.1, h0]; simp)
      rw [this]; exact ⟨Rd.emp _ _ _, fun a ha => by cases ha⟩⟩
  · subst hv
    exact ⟨some ⟨g, 0, none⟩, cap, rfl, hle, hm, Rd.ofOwn h', fun a ha => by cases ha; exact fun hx => by have := hX g hx; omega⟩
theorem grown_fr {w w' : World} {g : Nat} (h : w.grownBy w' (some g)) : Fr w w' [g] := Fr.of_grown h
theorem lower' {B C : Nat} {a b : World} (h : Below B a b) (hB : C ≤ B) : Below C a b := ⟨h.os, h.tape, h.output, h.size, fun k hk => h.block k (by omega)⟩
theorem heap_lt {w : World} {b : Nat} {o : Obj} (h : w.heap[b]? = some o) : b < w.heap.size := (Array.getElem?_eq_some_iff.1 h).1
theorem append0_below {W w2 : World} {e : TypeId} (h : (W.alloc (.cells #[] e)).grownBy w2 (Value.slice (some ⟨W.heap.size, 0, none⟩) 0 0).ownBlock) : Below W.heap.size W w2 :=
  ((Below.refl _ W).alloc (Nat.le_refl _) _).trans (grown_below (g := W.heap.size) h (Nat.le_refl _) (by simp))
theorem two_new (w : World) (o o' : Obj) : ((w.alloc o).alloc o').heap[w.heap.size]? = some o ∧ ((w.alloc o).alloc o').heap[w.heap.size + 1]? = some o' := by
  refine ⟨(Below.heap_alloc _ _ _ (by simp)).trans (heap_alloc_new w o), ?_⟩
  have := heap_alloc_new (w.alloc o) o'
  rw [alloc1_size] at this
  exact this
def ints (L : List Nat) : List Value := L.map fun (i : Nat) => Value.int .i64 (i : Int)
@[simp] theorem ints_len (L : List Nat) : (ints L).length = L.length := by simp [ints]
theorem ints_snoc (L : List Nat) (i : Nat) : ints L ++ [.int .i64 (i : Int)] = ints (L ++ [i]) := by simp [ints]
theorem ints_get (L : List Nat) (i : Nat) (h : i < L.length) : (ints L)[i]'(by simpa using h) = .int .i64 (L[i] : Int) := by simp [ints]
theorem append0_below' {W w2 : World} {e : TypeId} {n : Nat} (hn : W.heap.size = n) (h : (W.alloc (.cells #[] e)).grownBy w2 (Value.slice (some ⟨n, 0, none⟩) 0 0).ownBlock) : Below n W w2 := by
  subst hn
  exact append0_below h
theorem own_lit0' {e : TypeId} {size n : Nat} (W : World) (hn : W.heap.size = n) : (W.alloc (.cells #[] e)).ownsRow n e size (.slice (some ⟨n, 0, none⟩) 0 0) 0 [] := by
  subst hn
  exact own_lit0 W (Nat.le_refl _)
/-- append whose run is known, at the operation, in a region that draws its order. -/
theorem step_appK {ops : Array Oper} {o : Oper} {a : Act} {K : Act → World → Prop} {Q : Exit → Act → World → Prop} {E : Prop} (w : World) (hw : Region.wanted o (yielded ops a.tmps) = true) (s x : Operand) (t : TypeId)
    (ho : o.op = .call { callee := .builtin .append, args := #[s, x], argTypes := #[t, t] }) (hty : o.type = t) (v y v' : Value) (w' : World) (hs : a.eval s = v) (hx : a.eval x = y)
    (hrun : (Builtin.append_ #[t, t] t #[v, y]).run Try.prog w = .ok v' w') (h : K (a.put o.dst v') w') :
    if Region.wanted o (yielded ops a.tmps) = true then Oper.wp Try.prog o a w K Q else E := by
  rw [if_pos hw]
  unfold Oper.wp execOp
  simp only [ho, hty, resolve, invoke, builtin, Sem.run_bind, Sem.run_pure, Result.andThen_ok, List.map_toArray, List.map_cons, List.map_nil, hs, hx, hrun]
  exact h

/-- append whose run is known, at the operation, in a region that draws its order. -/
theorem step_appK' {o : Oper} {a : Act} {K : Act → World → Prop} {Q : Exit → Act → World → Prop} (w : World) (s x : Operand) (t : TypeId)
    (ho : o.op = .call { callee := .builtin .append, args := #[s, x], argTypes := #[t, t] }) (hty : o.type = t) (v y v' : Value) (w' : World) (hs : a.eval s = v) (hx : a.eval x = y)
    (hrun : (Builtin.append_ #[t, t] t #[v, y]).run Try.prog w = .ok v' w') (h : K (a.put o.dst v') w') :
    Oper.wp Try.prog o a w K Q := by
  unfold Oper.wp execOp
  simp only [ho, hty, resolve, invoke, builtin, Sem.run_bind, Sem.run_pure, Result.andThen_ok, List.map_toArray, List.map_cons, List.map_nil, hs, hx, hrun]
  exact h

theorem grown_below' {w w' : World} {r : Option Nat} {B : Nat} (h : w.grownBy w' r) (hg : ∀ k, r = some k → B ≤ k) (hB : B ≤ w.heap.size) : Below B w w' :=
  ⟨h.os, h.tape, h.output, h.size, fun k hk => h.block k (by omega) (fun e => by have := hg k e.symm; omega)⟩
end Go.Proofs.Ytdiafgjlbbkhkaa
