/- What the calls of a queue come to: Len, Take, Put. -/
import Derived.Test.YtfokekciemofiaaSetI
import Derived.Test.YtfokekciemofiaaMapC
import Derived.Defers
import Derived.Maps.AppendAt
import Derived.Recover
set_option linter.unusedSimpArgs false
set_option linter.unusedVariables false
namespace Go.Proofs.Ytfokekciemofiaa
open Go.RowKit

/-- The keys of l, and no others. -/
def onlyI (l : List Int) : Int → Option (DataW Unit) := fun x => if x ∈ l then some (.agg []) else none
/-- The map of those that wait: none yet, or one that has just those of l. -/
def QMapI (w : World) (mo : Option Nat) (n : Nat) (l : List Int) : Prop := (mo = none ∧ l = []) ∨ ∃ mb sz, mo = some mb ∧ MapHas Try.prog 3 .i64 unitElem w mb n sz (onlyI l)
/-- The queue at block qb has l. -/
def QAtI (w : World) (qb : Nat) (v : Value) (mo : Option Nat) (n : Nat) (l : List Int) : Prop :=
  w.heap[qb]? = some (.cells #[v, .map mo] 58 (0, 0)) ∧ Seg w 3 v (valsI l) ∧ ¬ qb ∈ blks v ∧ QMapI w mo n l ∧ l.Nodup ∧ ∀ x ∈ l, (Lit.int .i64 x).wf = true
/-- The blocks that a queue has beside its own. -/
def footI (v : Value) (mo : Option Nat) : List Nat := blks v ++ mo.toList
theorem QMapI.kept {w w' : World} {mo : Option Nat} {n : Nat} {l : List Int} {S : List Nat} (h : QMapI w mo n l) (t : Tch S w w') (hn : ∀ b ∈ mo.toList, ¬ b ∈ S) : QMapI w' mo n l := by
  rcases h with h | ⟨mb, sz, rfl, h⟩
  · exact .inl h
  · exact .inr ⟨mb, sz, rfl, h.kept t (hn mb (by simp))⟩
theorem QAtI.kept {w w' : World} {qb : Nat} {v : Value} {mo : Option Nat} {n : Nat} {l : List Int} {S : List Nat} (h : QAtI w qb v mo n l) (t : Tch S w w') (hq : ¬ qb ∈ S) (hn : ∀ b ∈ footI v mo, ¬ b ∈ S) : QAtI w' qb v mo n l := by
  obtain ⟨h1, h2, h3, h4, h5, h6⟩ := h
  exact ⟨t.obj h1 hq, h2.kept t (fun b hb => hn b (by simp [footI, hb])), h3, h4.kept t (fun b hb => hn b (by simp only [footI, List.mem_append]; exact .inr hb)), h5, h6⟩
theorem QAtI.lt {w : World} {qb : Nat} {v : Value} {mo : Option Nat} {n : Nat} {l : List Int} (h : QAtI w qb v mo n l) : qb < w.heap.size ∧ ∀ b ∈ footI v mo, b < w.heap.size := by
  obtain ⟨h1, h2, h3, h4, h5, h6⟩ := h
  refine ⟨lt_of_obj h1, fun b hb => ?_⟩
  rcases List.mem_append.1 hb with hb | hb
  · exact h2.lt b hb
  · rcases h4 with ⟨rfl, _⟩ | ⟨mb, sz, rfl, h⟩
    · simp at hb
    · simp at hb; subst hb; exact h.lt
theorem QAtI.mono {w : World} {qb : Nat} {v : Value} {mo : Option Nat} {n n' : Nat} {l : List Int} (h : QAtI w qb v mo n l) (hn : n ≤ n') : QAtI w qb v mo n' l := by
  obtain ⟨h1, h2, h3, h4, h5, h6⟩ := h
  refine ⟨h1, h2, h3, ?_, h5, h6⟩
  rcases h4 with h | ⟨mb, sz, rfl, h⟩
  · exact .inl h
  · exact .inr ⟨mb, sz, rfl, h.mono hn⟩

set_option maxHeartbeats 1000000 in
theorem qlen_I (qb : Nat) (v : Value) (mo : Option Nat) (n : Nat) (l : List Int) (w : World) (h : QAtI w qb v mo n l) :
    Calls Try.prog 32 #[.pointer (some ⟨qb, 0, none⟩)] w fun e w' => e = .returned (.int .i64 l.length) ∧ w = w' := by
  obtain ⟨h1, h2, _⟩ := h
  have c0 := cell_of_row w qb 0 _ _ _ h1
  simp at c0
  clear h1
  rcases h2 with ⟨rfl, h0⟩ | ⟨b, off, cap, cur, rfl, g⟩
  · have : l = [] := by simpa [valsI] using h0
    subst this
    go_enter Try.func32, Try.ntmps32
    go_wp2
    go_ret
    exact ⟨rfl, rfl⟩
  · clear g
    rw [vals_lenI] at c0
    go_enter Try.func32, Try.ntmps32
    go_wp2
    go_ret
    exact ⟨rfl, rfl⟩
set_option maxHeartbeats 1000000 in
theorem take_none_I (qb : Nat) (v : Value) (mo : Option Nat) (n : Nat) (w : World) (h : QAtI w qb v mo n []) :
    Calls Try.prog 64 #[.pointer (some ⟨qb, 0, none⟩)] w fun e w' => e = .returned (.tuple #[.int .i64 (0), .bool false]) ∧ w = w' := by
  have hl := qlen_I qb v mo n [] w h
  clear h
  simp only [List.length_nil] at hl
  go_enter Try.func64, Try.ntmps64
  go_wp2_with (go_at_call 32; refine hl.mono ?_; rintro e w' ⟨rfl, rfl⟩)
  go_ret2
  exact ⟨rfl, rfl⟩
/-- What Take leaves. -/
def TookI (qb : Nat) (v : Value) (mo : Option Nat) (n : Nat) (r : List Int) (w w' : World) : Prop := ∃ v', QAtI w' qb v' mo n r ∧ Tch (qb :: footI v mo) w w' ∧ (∀ b ∈ blks v', b ∈ blks v)
set_option maxRecDepth 100000 in
set_option maxHeartbeats 1000000 in
theorem take_some_I (qb : Nat) (v : Value) (mo : Option Nat) (n : Nat) (x : Int) (r : List Int) (w : World) (h : QAtI w qb v mo n (x :: r)) :
    Calls Try.prog 64 #[.pointer (some ⟨qb, 0, none⟩)] w fun e w' => e = .returned (.tuple #[.int .i64 (x), .bool true]) ∧ TookI qb v mo n r w w' := by
  have hl := qlen_I qb v mo n (x :: r) w h
  obtain ⟨h1, h2, h3, h4, h5, h6⟩ := h
  obtain ⟨mb, sz, rfl, hm⟩ : ∃ mb sz, mo = some mb ∧ MapHas Try.prog 3 .i64 unitElem w mb n sz (onlyI (x :: r)) := by
    rcases h4 with ⟨_, h⟩ | h
    · cases h
    · exact h
  clear h4
  have hxw := h6 x (by simp)
  rcases h2 with ⟨rfl, h0⟩ | ⟨b, off, cap, cur, rfl, g1, g2, g3, g4, g5⟩
  · simp [valsI] at h0
  rw [vals_lenI] at g2 g5 h3 ⊢
  have hbq : ¬ b = qb := fun e => h3 (by simp [blks, e])
  have hqb : ¬ qb = b := fun e => hbq e.symm
  have c0 := cell_of_row w qb 0 _ _ _ h1
  have c1 := cell_of_row w qb 1 _ _ _ h1
  have f0 := frozen_of_row w qb 0 _ _ h1
  have fb := frozen_of_row w b off _ _ g1
  have cx : w.cell? ⟨b, off, none⟩ = some (.int .i64 (x)) := by
    have := g5 0 (by simp)
    rw [cell_of_row w b off _ _ _ g1]
    simpa [valsI] using this
  simp only [List.getElem?_toArray, List.getElem?_cons_zero, List.getElem?_cons_succ] at c0 c1
  rw [vals_lenI] at c0
  simp only [List.length_cons] at c0 g2 hl h3 h1 g5 ⊢
  rw [vals_lenI] at h1
  simp only [List.length_cons] at h1
  -- the map's block holds no cells
  obtain ⟨es, ck, hmo⟩ := hm.obj
  have hmq : ¬ mb = qb := fun e => by subst e; rw [h1] at hmo; cases hmo
  have hmb : ¬ mb = b := fun e => by subst e; rw [g1] at hmo; cases hmo
  have key : ∀ off', (0 < cap - 1 → off' = off + 1) → off' + (cap - 1) ≤ cur.size → ∃ w3, (Builtin.delete_ #[56, 3] 0 #[.map (some mb), .int .i64 (x)]).run Try.prog ((w.setCell ⟨b, off, none⟩ (.int .i64 (0))).setCell ⟨qb, 0, none⟩ (.slice (some ⟨b, off', none⟩) r.length (cap - 1))) = .ok (.tuple #[]) w3 ∧
      TookI qb (.slice (some ⟨b, off, none⟩) (r.length + 1) cap) (some mb) n r w w3 := by
    intro off' ho ho2
    have t1 : Tch [qb, b] w ((w.setCell ⟨b, off, none⟩ (.int .i64 (0))).setCell ⟨qb, 0, none⟩ (.slice (some ⟨b, off', none⟩) r.length (cap - 1))) := ((Tch.refl _ w).setCell (p := ⟨b, off, none⟩) (.inl (by simp)) _).setCell (p := ⟨qb, 0, none⟩) (.inl (by simp)) _
    obtain ⟨w3, d1, d2, d3⟩ := (hm.kept t1 (by simp; exact ⟨hmq, hmb⟩)).drop Try.underlying56 Try.underlying3 hxw 0
    have ob : ((w.setCell ⟨b, off, none⟩ (.int .i64 (0))).setCell ⟨qb, 0, none⟩ (.slice (some ⟨b, off', none⟩) r.length (cap - 1))).heap[b]? = some (.cells (cur.setIfInBounds off (.int .i64 (0))) 3 (0, 0)) := by
      rw [heap_setCell_other _ ⟨qb, 0, none⟩ b _ hbq]; exact heap_setCell_same w b off _ _ _ g1
    have oq : ((w.setCell ⟨b, off, none⟩ (.int .i64 (0))).setCell ⟨qb, 0, none⟩ (.slice (some ⟨b, off', none⟩) r.length (cap - 1))).heap[qb]? = some (.cells #[.slice (some ⟨b, off', none⟩) r.length (cap - 1), .map (some mb)] 58 (0, 0)) :=
      heap_setCell_same _ qb 0 _ _ _ ((heap_setCell_other w ⟨b, off, none⟩ qb _ hqb).trans h1)
    have hnd := List.nodup_cons.1 h5
    refine ⟨w3, d1, .slice (some ⟨b, off', none⟩) r.length (cap - 1), ⟨d3.obj oq (by simp; exact fun e => hmq e.symm), .inr ⟨b, off', cap - 1, _, by rw [vals_lenI], d3.obj ob (by simp; exact fun e => hmb e.symm), by rw [vals_lenI]; omega, by omega, by simpa using ho2, fun j hj => ?_⟩, by simp [blks]; exact hqb, .inr ⟨mb, _, rfl, d2.cong fun y hy => ?_⟩, hnd.2, fun y hy => h6 y (by simp [hy])⟩, ?_, fun y hy => by simpa [blks] using hy⟩
    · rw [vals_lenI] at hj
      have := g5 (j + 1) (by omega)
      rw [ho (by omega), Array.getElem?_setIfInBounds, if_neg (by omega), show off + 1 + j = off + (j + 1) by omega, this]
      simp [valsI]
    · simp only [onlyI]
      by_cases e : y = x
      · subst e; simp [hnd.1]
      · simp [e]
    · exact (t1.mono (by intro y hy; simp [footI, blks] at hy ⊢; omega)).trans (d3.mono (by intro y hy; simp [footI, blks] at hy ⊢; omega))
  by_cases hcap : cap = 1
  · subst hcap
    have hr : r = [] := List.eq_nil_of_length_eq_zero (by omega)
    subst hr
    obtain ⟨w3, d1, d2⟩ := key off (by simp) (by omega)
    have HD : Hid _ := d2
    clear key d2 hm g5 g1 h1 h5 h6 hmo
    simp only [List.length_nil, Nat.zero_add, Nat.sub_self] at c0 d1 hl ⊢
    go_enter Try.func64, Try.ntmps64
    go_wp2_with (first | (go_at_call 32; refine hl.mono ?_; rintro e w' ⟨rfl, rfl⟩) | (at_delete; refine wpList_delete_to _ rfl _ _ _ _ rfl rfl rfl d1 ?_))
    go_ret2
    exact ⟨rfl, HD.out⟩
  · obtain ⟨w3, d1, d2⟩ := key (off + 1) (fun _ => rfl) (by omega)
    have HD : Hid _ := d2
    unfold maxLen at g3
    clear key d2 hm g5 g1 h1 h5 h6 hmo
    go_enter Try.func64, Try.ntmps64
    go_wp2_with (first | (go_at_call 32; refine hl.mono ?_; rintro e w' ⟨rfl, rfl⟩) | (at_delete; refine wpList_delete_to _ rfl _ _ _ _ rfl rfl rfl d1 ?_))
    go_ret2
    exact ⟨rfl, HD.out⟩

theorem mapSome_I (mb : Nat) (w : World) : (binOp .eql 56 (.map (some mb)) (.map none)).run Try.prog w = .ok (.bool false) w := by kernel_rfl
theorem mapNil_I (w : World) : (binOp .eql 56 (.map none) (.map none)).run Try.prog w = .ok (.bool true) w := by kernel_rfl
theorem idle_I (w : World) : CallsD Try.prog 61 #[] .returning w fun e u' w' => e = .returned (.tuple #[]) ∧ u' = .returning ∧ w' = w := by
  refine callsD_of_wpS Try.func61 rfl fun c₀ cs hu => ?_
  apply wpS_region
  simp [wpOpsS, go_sem, recoverD, hu, Try.ntmps61, Exit.thenS]
  cases c₀
  simp_all [bodyPostS, results, Try.results61]
set_option maxRecDepth 100000 in
set_option maxHeartbeats 1000000 in
theorem put_no_I (qb : Nat) (v : Value) (mo : Option Nat) (n : Nat) (l : List Int) (x : Int) (w : World) (h : QAtI w qb v mo n l) (hx : (Lit.int .i64 x).wf = true) (hm : x ∈ l) :
    Calls Try.prog 29 #[.pointer (some ⟨qb, 0, none⟩), .int .i64 (x)] w fun e w' => e = .returned (.bool false) ∧ w' = w.alloc (.cells #[] 98) := by
  obtain ⟨h1, h2, h3, h4, h5, h6⟩ := h
  obtain ⟨mb, sz, rfl, hmm⟩ : ∃ mb sz, mo = some mb ∧ MapHas Try.prog 3 .i64 unitElem w mb n sz (onlyI l) := by
    rcases h4 with ⟨_, h⟩ | h
    · subst h; cases hm
    · exact h
  obtain ⟨u, ps, r1, r2⟩ := hmm.lookOk Try.underlying56 Try.underlying3 Try.zeroValue98 unitElem_mk hx
  obtain ⟨rfl, _⟩ := unitElem_inv r2
  have e1 : (onlyI l x).isSome = true := by simp [onlyI, hm]
  rw [e1] at r1
  have c1 := cell_of_row w qb 1 _ _ _ h1
  simp only [List.getElem?_toArray, List.getElem?_cons_zero, List.getElem?_cons_succ] at c1
  clear h1 h2 h3 h4 h5 h6 hmm r2 e1
  go_enter_defers Try.func29, Try.ntmps29
  go_wp2_with (at_lookup; refine wpList_lookup_to _ rfl _ _ _ true rfl rfl rfl r1 ?_)
  refine leaves_cons (f := 61) (args := #[]) (by simp) (by simp [go_sem]) ?_
  refine (idle_I _).mono ?_
  rintro e u' w'' ⟨rfl, rfl, rfl⟩
  exact ⟨_, results_tmp rfl _ _ _, rfl, rfl⟩

/-- What Put leaves. -/
def QPutI (qb : Nat) (v : Value) (mo : Option Nat) (n : Nat) (l : List Int) (w w' : World) : Prop := ∃ v' mo', QAtI w' qb v' mo' (n + 1) l ∧ Tch (qb :: footI v mo) w w' ∧ (∀ b ∈ footI v' mo', b ∈ footI v mo ∨ w.heap.size ≤ b)
/-- From the world in which the map has the item on: the item is laid behind the others. -/
theorem put_end_I (qb : Nat) (v : Value) (mb n sz : Nat) (l : List Int) (x : Int) (w : World) (h1 : w.heap[qb]? = some (.cells #[v, .map (some mb)] 58 (0, 0))) (h2 : Seg w 3 v (valsI l)) (h3 : ¬ qb ∈ blks v)
    (hm : MapHas Try.prog 3 .i64 unitElem w mb n sz (onlyI (l ++ [x]))) (h5 : l.Nodup) (h6 : ∀ x ∈ l, (Lit.int .i64 x).wf = true) (hx : (Lit.int .i64 x).wf = true) (hn : ¬ x ∈ l) (hb : (l.length + 1) * 8 ≤ 140737488355328) :
    ∃ v' w', (Builtin.append_ #[24, 24] 24 #[v, .slice (some ⟨w.heap.size, 0, none⟩) 1 1]).run Try.prog (w.alloc (.cells #[.int .i64 (x)] 3)) = .ok v' w' ∧ (∃ b o c, v' = .slice (some ⟨b, o, none⟩) (l.length + 1) c) ∧ w'.cell? ⟨qb, 0, none⟩ = some v ∧ w'.frozen? ⟨qb, 0, none⟩ = false ∧
      QAtI (w'.setCell ⟨qb, 0, none⟩ v') qb v' (some mb) n (l ++ [x]) ∧ Tch (qb :: blks v) w (w'.setCell ⟨qb, 0, none⟩ v') ∧ (∀ b ∈ blks v', b ∈ blks v ∨ w.heap.size ≤ b) := by
  obtain ⟨v', w', r, s1, s2, s3⟩ := seg_append (P := Try.prog) (w.alloc (.cells #[.int .i64 (x)] 3)) Try.underlying24 infoI rfl (by decide) (h2.alloc _) ⟨w.heap.size, 0, none⟩ 1 1 [.int .i64 (x)] rfl (cell_one_new _ _ _) (by simp [Value.oneCell']) (by rw [vals_lenI]; exact hb) 24
  have hlt := lt_of_obj h1
  have o1 : w'.heap[qb]? = some (.cells #[v, .map (some mb)] 58 (0, 0)) := s2.obj ((Below.heap_alloc w _ qb hlt).trans h1) h3
  have e1 : valsI l ++ [.int .i64 (x)] = valsI (l ++ [x]) := by simp [valsI]
  rw [e1] at s1
  have hnb : ¬ qb ∈ blks v' := fun hm => by
    rcases s3 qb hm with h | h
    · exact h3 h
    · simp at h; omega
  obtain ⟨es, ck, hmo⟩ := hm.obj
  have hmq : ¬ mb = qb := fun e => by subst e; rw [h1] at hmo; cases hmo
  have hmv : ¬ mb ∈ blks v := fun hm => by
    rcases h2 with ⟨rfl, _⟩ | ⟨b, off, cap, cur, rfl, g1, _⟩
    · simp [blks] at hm
    · simp [blks] at hm; subst hm; rw [g1] at hmo; cases hmo
  have t1 : Tch (qb :: blks v) w (w'.setCell ⟨qb, 0, none⟩ v') := (((Tch.refl _ w).alloc _).trans (s2.mono (by intro y hy; exact List.mem_cons_of_mem _ hy))).setCell (p := ⟨qb, 0, none⟩) (.inl (by simp)) _
  refine ⟨v', w', r, ?_, by rw [cell_of_row w' qb 0 _ _ _ o1]; rfl, frozen_of_row w' qb 0 _ _ o1, ⟨heap_setCell_same w' qb 0 _ _ _ o1, s1.kept ((Tch.refl [qb] w').setCell (p := ⟨qb, 0, none⟩) (.inl (by simp)) _) (fun b hb => by simp; intro e; subst e; exact hnb hb), hnb, .inr ⟨mb, sz, rfl, hm.kept t1 (by simp; exact ⟨hmq, hmv⟩)⟩, ?_, fun y hy => ?_⟩, t1, fun b hb => ?_⟩
  · have := seg_some s1 (by rw [vals_lenI]; simp)
    rw [vals_lenI, List.length_append] at this
    exact this
  · rw [List.nodup_append]
    exact ⟨h5, by simp, fun a ha b hb e => by simp at hb; subst hb; subst e; exact hn ha⟩
  · rcases List.mem_append.1 hy with h | h
    · exact h6 y h
    · simp at h; subst h; exact hx
  · rcases s3 b hb with h | h
    · exact .inl h
    · simp at h; exact .inr (by omega)
/-- The same where there is a map: it stays. -/
def QPutSI (qb : Nat) (v : Value) (mb : Nat) (n : Nat) (l : List Int) (w w' : World) : Prop := ∃ v', QAtI w' qb v' (some mb) (n + 1) l ∧ Tch (qb :: footI v (some mb)) w w' ∧ (∀ b ∈ blks v', b ∈ blks v ∨ w.heap.size ≤ b)
set_option maxRecDepth 100000 in
set_option maxHeartbeats 2000000 in
theorem put_someS_I (qb : Nat) (v : Value) (mb : Nat) (n : Nat) (l : List Int) (x : Int) (w : World) (h : QAtI w qb v (some mb) n l) (hx : (Lit.int .i64 x).wf = true) (hn : ¬ x ∈ l) (hb : (l.length + 1) * 8 ≤ 140737488355328) (hml : n < maxLen) :
    Calls Try.prog 29 #[.pointer (some ⟨qb, 0, none⟩), .int .i64 (x)] w fun e w' => e = .returned (.bool true) ∧ QPutSI qb v mb n (l ++ [x]) w w' := by
  obtain ⟨h1, h2, h3, h4, h5, h6⟩ := h
  obtain ⟨sz, hm⟩ : ∃ sz, MapHas Try.prog 3 .i64 unitElem w mb n sz (onlyI l) := by
    rcases h4 with ⟨h, _⟩ | ⟨mb', sz, h, hm⟩
    · cases h
    · cases h; exact ⟨sz, hm⟩
  obtain ⟨u, ps, r1, r2⟩ := hm.lookOk Try.underlying56 Try.underlying3 Try.zeroValue98 unitElem_mk hx
  obtain ⟨rfl, _⟩ := unitElem_inv r2
  have e1 : (onlyI l x).isSome = false := by simp [onlyI, hn]
  rw [e1] at r1
  have c1 := cell_of_row w qb 1 _ _ _ h1
  simp only [List.getElem?_toArray, List.getElem?_cons_zero, List.getElem?_cons_succ] at c1
  have ta : Tch [] w (w.alloc (.cells #[] 98)) := (Tch.refl _ w).alloc _
  obtain ⟨w2, st, m2, t2⟩ := (hm.kept ta (by simp)).store Try.underlying56 Try.underlying3 hml (unitElem_mk) hx
  obtain ⟨es, ck, hmo⟩ := hm.obj
  have hmq : ¬ mb = qb := fun e => by subst e; rw [h1] at hmo; cases hmo
  have hmv : ¬ mb ∈ blks v := fun hm => by
    rcases h2 with ⟨rfl, _⟩ | ⟨b, off, cap, cur, rfl, g1, _⟩
    · simp [blks] at hm
    · simp [blks] at hm; subst hm; rw [g1] at hmo; cases hmo
  have tw : Tch [mb] w w2 := (ta.mono (by simp)).trans t2
  have o2 := tw.obj h1 (by simp; exact fun e => hmq e.symm)
  have d0 := cell_of_row w2 qb 0 _ _ _ o2
  simp only [List.getElem?_toArray, List.getElem?_cons_zero, List.getElem?_cons_succ] at d0
  obtain ⟨v', w', p1, ⟨b', o', c', rfl⟩, p3, p4, p5, p6, p7⟩ := put_end_I qb v mb (n + 1) _ l x w2 o2 (h2.kept tw (fun b hb => by simp; intro e; subst e; exact hmv hb)) h3 (m2.cong fun y hy => by simp only [onlyI, List.mem_append, List.mem_singleton]; by_cases e : y = x <;> simp [e]) h5 h6 hx hn hb
  have HN : Hid (QPutSI qb v mb n (l ++ [x]) w (w'.setCell ⟨qb, 0, none⟩ (.slice (some ⟨b', o', none⟩) (l.length + 1) c'))) := ⟨_, p5, (tw.mono (by intro y hy; simp [footI] at hy ⊢; omega)).trans (p6.mono (by intro y hy; simp [footI] at hy ⊢; rcases hy with h | h; exact .inl h; exact .inr (.inl h))), fun y hy => (p7 y hy).imp id (Nat.le_trans tw.size)⟩
  have hlt := lt_of_obj h1
  have hlt2 := lt_of_obj o2
  have hms := mapSome_I mb
  clear h1 h2 h3 h4 h5 h6 hm r2 e1 m2 t2 tw p5 p6 p7 o2 ta hmo
  go_enter_defers Try.func29, Try.ntmps29
  go_wp2_with (first | (at_lookup; refine wpList_lookup_to _ rfl _ _ _ true rfl rfl rfl r1 ?_) | (at_mapUpdate; refine wpList_update_to _ rfl _ _ _ _ rfl rfl rfl rfl st ?_) | (at_builtin; refine Lib.wpList_append_run _ rfl _ _ _ _ rfl _ _ rfl rfl _ _ p1 ?_))
  refine leaves_cons (f := 61) (args := #[]) (by simp) (by simp [go_sem]) ?_
  refine (idle_I _).mono ?_
  rintro e u' w'' ⟨rfl, rfl, rfl⟩
  exact ⟨_, results_tmp rfl _ _ _, rfl, HN.out⟩
theorem put_some_I (qb : Nat) (v : Value) (mb : Nat) (n : Nat) (l : List Int) (x : Int) (w : World) (h : QAtI w qb v (some mb) n l) (hx : (Lit.int .i64 x).wf = true) (hn : ¬ x ∈ l) (hb : (l.length + 1) * 8 ≤ 140737488355328) (hml : n < maxLen) :
    Calls Try.prog 29 #[.pointer (some ⟨qb, 0, none⟩), .int .i64 (x)] w fun e w' => e = .returned (.bool true) ∧ QPutI qb v (some mb) n (l ++ [x]) w w' := by
  refine (put_someS_I qb v mb n l x w h hx hn hb hml).mono ?_
  rintro e w' ⟨rfl, v', k1, k2, k3⟩
  refine ⟨rfl, v', some mb, k1, k2, fun y hy => ?_⟩
  simp only [footI, List.mem_append] at hy ⊢
  rcases hy with h | h
  · exact (k3 y h).imp .inl id
  · exact .inl (.inr h)
set_option maxRecDepth 100000 in
set_option maxHeartbeats 2000000 in
theorem put_nil_I (qb : Nat) (v : Value) (n : Nat) (x : Int) (w : World) (h : QAtI w qb v none n []) (hx : (Lit.int .i64 x).wf = true) :
    Calls Try.prog 29 #[.pointer (some ⟨qb, 0, none⟩), .int .i64 (x)] w fun e w' => e = .returned (.bool true) ∧ QPutI qb v none n [x] w w' := by
  obtain ⟨h1, h2, h3, h4, h5, h6⟩ := h
  have r1 := Maps.look_nil (P := Try.prog) (w := w) true (Maps.int_keyed Try.underlying3) Try.underlying56 (Try.zeroValue98 w) (Maps.keyOf_int_mk Try.underlying3 hx)
  simp only [if_true] at r1
  have c1 := cell_of_row w qb 1 _ _ _ h1
  have f1 := frozen_of_row w qb 1 _ _ h1
  simp only [List.getElem?_toArray, List.getElem?_cons_zero, List.getElem?_cons_succ] at c1
  have hlt := lt_of_obj h1
  have hms := mapNil_I
  have hmm := @run_makeMap Try.prog
  obtain ⟨W0, hW0⟩ : ∃ W0, W0 = (w.setCell ⟨qb, 1, none⟩ (.map (some (w.heap.size + 1)))).alloc (.cells #[] 98) := ⟨_, rfl⟩
  have z0 : W0.heap.size = w.heap.size + 1 := by rw [hW0]; simp [World.setCell]
  have q0 : (w.setCell ⟨qb, 1, none⟩ (.map (some (w.heap.size + 1)))).heap[qb]? = some (.cells #[v, .map (some (w.heap.size + 1))] 58 (0, 0)) := heap_setCell_same w qb 1 _ _ _ h1
  have q1 : W0.heap[qb]? = some (.cells #[v, .map (some (w.heap.size + 1))] 58 (0, 0)) := by rw [hW0, Below.heap_alloc _ _ qb (by simp [World.setCell]; omega)]; exact q0
  have t0 : Tch [qb] w W0 := by rw [hW0]; exact ((Tch.refl _ w).setCell (p := ⟨qb, 1, none⟩) (.inl (by simp)) _).alloc _
  have m1 := mapHas_made (P := Try.prog) (k := 3) (q := .i64) (R := unitElem) W0
  rw [z0] at m1
  obtain ⟨w2, st, m2, t2⟩ := m1.store Try.underlying56 Try.underlying3 (by decide) (unitElem_mk) hx
  have t1 : Tch [qb] w (W0.alloc (.map #[] 0)) := t0.alloc _
  have q2 : w2.heap[qb]? = some (.cells #[v, .map (some (w.heap.size + 1))] 58 (0, 0)) := t2.obj ((Below.heap_alloc _ _ qb (by omega)).trans q1) (by simp; omega)
  have tw : Tch [qb] w w2 := t1.trans2 t2 (fun y hy => by simp at hy; subst hy; exact .inr (by omega))
  have d0 := cell_of_row w2 qb 0 _ _ _ q2
  simp only [List.getElem?_toArray, List.getElem?_cons_zero, List.getElem?_cons_succ] at d0
  obtain ⟨v', w', p1, ⟨b', o', c', rfl⟩, p3, p4, p5, p6, p7⟩ := put_end_I qb v (w.heap.size + 1) (0 + 1) _ [] x w2 q2 (h2.kept tw (fun b hb => by simp; intro e; subst e; exact h3 hb)) h3 (m2.cong fun y hy => by simp only [onlyI, List.nil_append, List.mem_singleton]) List.nodup_nil (by simp) hx (by simp) (by decide)
  have HN : Hid (QPutI qb v none n [x] w (w'.setCell ⟨qb, 0, none⟩ (.slice (some ⟨b', o', none⟩) (([] : List Int).length + 1) c'))) := ⟨_, some (w.heap.size + 1), p5.mono (by omega), (tw.mono (by intro y hy; simp at hy ⊢; omega)).trans (p6.mono (by intro y hy; simp [footI] at hy ⊢; exact hy)), fun y hy => by
    simp only [footI, List.mem_append] at hy ⊢
    rcases hy with h | h
    · rcases p7 y h with h | h
      · exact .inl (.inl h)
      · exact .inr (Nat.le_trans tw.size h)
    · simp at h; exact .inr (by omega)⟩
  have hlt2 := lt_of_obj q2
  rw [hW0] at st
  clear h1 h2 h3 h4 h5 h6 m1 m2 t2 tw t0 t1 p5 p6 p7 q0 q1 q2 z0 hW0
  simp only [List.length_nil, Nat.zero_add] at p1 HN
  go_enter_defers Try.func29, Try.ntmps29
  go_wp2_with (first | (at_lookup; refine wpList_lookup_to _ rfl _ _ _ true rfl rfl rfl r1 ?_) | (at_mapUpdate; refine wpList_update_to _ rfl _ _ _ _ rfl rfl rfl rfl st ?_) | (at_builtin; refine Lib.wpList_append_run _ rfl _ _ _ _ rfl _ _ rfl rfl _ _ p1 ?_))
  refine leaves_cons (f := 61) (args := #[]) (by simp) (by simp [go_sem]) ?_
  refine (idle_I _).mono ?_
  rintro e u' w'' ⟨rfl, rfl, rfl⟩
  exact ⟨_, results_tmp rfl _ _ _, rfl, HN.out⟩
/-- **Put of one that doesn't wait.** -/
theorem put_yes_I (qb : Nat) (v : Value) (mo : Option Nat) (n : Nat) (l : List Int) (x : Int) (w : World) (h : QAtI w qb v mo n l) (hx : (Lit.int .i64 x).wf = true) (hn : ¬ x ∈ l) (hb : (l.length + 1) * 8 ≤ 140737488355328) (hml : n < maxLen) :
    Calls Try.prog 29 #[.pointer (some ⟨qb, 0, none⟩), .int .i64 (x)] w fun e w' => e = .returned (.bool true) ∧ QPutI qb v mo n (l ++ [x]) w w' := by
  cases mo with
  | some mb => exact put_some_I qb v mb n l x w h hx hn hb hml
  | none =>
    obtain rfl : l = [] := by
      rcases h.2.2.2.1 with ⟨_, h⟩ | ⟨_, _, h, _⟩
      · exact h
      · cases h
    exact put_nil_I qb v n x w h hx
end Go.Proofs.Ytfokekciemofiaa
