/- Joined: FlP, FlR, FnL. -/
import Derived.Test.YtbdjpmmbnlmkhaaFg
import Derived.Test.YtbdjpmmbnlmkhaaGmW
import Derived.Test.YtbdjpmmbnlmkhaaFe
import Derived.Test.YtbdjpmmbnlmkhaaFd
import Derived.Test.YtbdjpmmbnlmkhaaKa
import Derived.Maps.OwnIn
import Derived.OwnWalkIn
import Derived.Deep.AppendSrc


/- All: plain, and its memory. -/
set_option linter.unusedSimpArgs false
set_option linter.unusedVariables false
namespace Go.Proofs.Ytbdjpmmbnlmkhaa
open Go.RowKit Go.Sort Go.Maps

/-- The ends of some places, of these, too, again and again. -/
inductive AllR (S : Int → List Int) (n : Nat) (fl : List Int) : Int → Prop
  | base {x y : Int} : x ∈ fl → 0 ≤ x → x < n → y ∈ S x → AllR S n fl y
  | step {x y : Int} : AllR S n fl x → 0 ≤ x → x < n → y ∈ S x → AllR S n fl y
/-- What waits, what is met. -/
structure Pst (S : Int → List Int) (n : Nat) (fl ql al : List Int) : Prop where
  nd : al.Nodup
  sd : ∀ y ∈ al, AllR S n fl y
  cl : ∀ x, (x ∈ fl ∨ x ∈ al) → x ∈ ql ∨ (0 ≤ x → x < n → ∀ y ∈ S x, y ∈ al)
/-- In the midst of x's. -/
structure Pin (S : Int → List Int) (n : Nat) (fl ql al : List Int) (x : Int) (k : Nat) : Prop where
  nd : al.Nodup
  sd : ∀ y ∈ al, AllR S n fl y
  cl : ∀ x', (x' ∈ fl ∨ x' ∈ al) → x' ∈ ql ∨ x' = x ∨ (0 ≤ x' → x' < n → ∀ y ∈ S x', y ∈ al)
  xs : x ∈ fl ∨ AllR S n fl x
  tk : ∀ y ∈ (S x).take k, y ∈ al
section
variable {S : Int → List Int} {n : Nat} {fl ql al : List Int}
theorem Pst.take {x : Int} (h : Pst S n fl (x :: ql) al) (hx : x ∈ fl ∨ x ∈ al) : Pin S n fl ql al x 0 := ⟨h.nd, h.sd, fun x' hx' => by
  rcases h.cl x' hx' with h1 | h1
  · rcases List.mem_cons.1 h1 with h1 | h1
    · exact .inr (.inl h1)
    · exact .inl h1
  · exact .inr (.inr h1), hx.imp id (h.sd x), by simp⟩
theorem Pin.skip {x : Int} {k : Nat} (h : Pin S n fl ql al x k) (hx : ¬ (0 ≤ x ∧ x < n)) : Pst S n fl ql al := ⟨h.nd, h.sd, fun x' hx' => by
  rcases h.cl x' hx' with h1 | h1 | h1
  · exact .inl h1
  · subst h1; exact .inr (fun h0 h1 => absurd ⟨h0, h1⟩ hx)
  · exact .inr h1⟩
theorem Pin.done {x : Int} (h : Pin S n fl ql al x (S x).length) : Pst S n fl ql al := ⟨h.nd, h.sd, fun x' hx' => by
  rcases h.cl x' hx' with h1 | h1 | h1
  · exact .inl h1
  · subst h1; exact .inr (fun _ _ y hy => h.tk y (by rw [List.take_length]; exact hy))
  · exact .inr h1⟩
theorem Pin.had {x y : Int} {k : Nat} (h : Pin S n fl ql al x k) (hy : (S x)[k]? = some y) (hm : y ∈ al) : Pin S n fl ql al x (k + 1) := ⟨h.nd, h.sd, h.cl, h.xs, fun z hz => by
  obtain ⟨hk, e⟩ := List.getElem?_eq_some_iff.1 hy
  rw [List.take_succ_eq_append_getElem hk, List.mem_append, List.mem_singleton, e] at hz
  rcases hz with hz | rfl
  · exact h.tk z hz
  · exact hm⟩
theorem Pin.new {x y : Int} {k : Nat} {ql' : List Int} (h : Pin S n fl ql al x k) (hy : (S x)[k]? = some y) (hm : ¬ y ∈ al) (hx : 0 ≤ x ∧ x < n) (hq : ∀ z, z ∈ ql' ↔ z ∈ ql ∨ z = y) : Pin S n fl ql' (al ++ [y]) x (k + 1) := by
  have hyS : y ∈ S x := List.mem_of_getElem? hy
  refine ⟨List.nodup_append.2 ⟨h.nd, by simp, fun a ha b hb e => by simp at hb; subst hb; subst e; exact hm ha⟩, fun z hz => ?_, fun x' hx' => ?_, h.xs, fun z hz => ?_⟩
  · rcases List.mem_append.1 hz with hz | hz
    · exact h.sd z hz
    · simp at hz; subst hz
      rcases h.xs with h1 | h1
      · exact .base h1 hx.1 hx.2 hyS
      · exact .step h1 hx.1 hx.2 hyS
  · have key : x' = y ∨ (x' ∈ fl ∨ x' ∈ al) := by
      rcases hx' with h1 | h1
      · exact .inr (.inl h1)
      · rcases List.mem_append.1 h1 with h1 | h1
        · exact .inr (.inr h1)
        · exact .inl (by simpa using h1)
    rcases key with rfl | key
    · exact .inl ((hq x').2 (.inr rfl))
    · rcases h.cl x' key with h1 | h1 | h1
      · exact .inl ((hq x').2 (.inl h1))
      · exact .inr (.inl h1)
      · exact .inr (.inr (fun h2 h3 z hz => List.mem_append_left _ (h1 h2 h3 z hz)))
  · obtain ⟨hk, e⟩ := List.getElem?_eq_some_iff.1 hy
    rw [List.take_succ_eq_append_getElem hk, List.mem_append, List.mem_singleton, e] at hz
    rcases hz with hz | rfl
    · exact List.mem_append_left _ (h.tk z hz)
    · simp
theorem Pst.all (h : Pst S n fl [] al) (y : Int) : y ∈ al ↔ AllR S n fl y := by
  refine ⟨h.sd y, fun g => ?_⟩
  induction g with
  | base hx h0 h1 hy =>
    rcases h.cl _ (.inl hx) with h2 | h2
    · simp at h2
    · exact h2 h0 h1 _ hy
  | step _ h0 h1 hy ih =>
    rcases h.cl _ (.inr ih) with h2 | h2
    · simp at h2
    · exact h2 h0 h1 _ hy
end
/-! Memory. -/
/-- Blocks of cells that lie as they lay. -/
abbrev Oth := List (Nat × Array Value × TypeId)
/-- A queue; what else is known. -/
structure Qst (z : Nat) (ot : Oth) (w W : World) (qb : Nat) (vq : Value) (mo : Option Nat) (N : Nat) (ql : List Int) : Prop where
  q : QAtI W qb vq mo N ql
  fq : ∀ b ∈ footI vq mo, z ≤ b ∧ ¬ b ∈ ot.map (·.1)
  fx : z ≤ qb ∧ ¬ qb ∈ ot.map (·.1)
  ol : ∀ p ∈ ot, W.heap[p.1]? = some (.cells p.2.1 p.2.2 (0, 0))
  t : Tch [] w W
  zl : w.heap.size ≤ z
theorem own_bk {X Y : World} {row : Option Nat} {B : Nat} (g : X.grownBy Y row) (hr : ∀ r, row = some r → B ≤ r ∧ ∃ o : Obj, X.heap[r]? = some o ∧ isBk o = true) {k : Nat} {o : Obj} (hk : X.heap[k]? = some o) (ho : isBk o = false) : Y.heap[k]? = some o := (g.block k (lt_of_obj hk) (fun e => by
    obtain ⟨_, o2, h2, hc⟩ := hr k e.symm
    rw [hk] at h2
    cases h2
    rw [ho] at hc; cases hc)).trans hk
/-- A turn of the book-keeping touches one block that holds no cells and no map. -/
theorem bk_tch {X Y : World} {row : Option Nat} {B : Nat} (g : X.grownBy Y row) (hr : ∀ r, row = some r → B ≤ r ∧ ∃ o : Obj, X.heap[r]? = some o ∧ isBk o = true) : ∃ T : List Nat, Tch T X Y ∧ ∀ k ∈ T, B ≤ k ∧ ∃ o : Obj, X.heap[k]? = some o ∧ isBk o = true := by
  cases row with
  | none => exact ⟨[], ⟨g.os, g.tape, g.output, g.size, fun k hk _ => g.block k hk (by simp)⟩, by simp⟩
  | some r => exact ⟨[r], ⟨g.os, g.tape, g.output, g.size, fun k hk hn => g.block k hk (by simp at hn ⊢; exact hn)⟩, fun k hk => by simp at hk; subst hk; exact hr k rfl⟩
theorem QAtI.kinds {w : World} {qb : Nat} {v : Value} {mo : Option Nat} {n : Nat} {l : List Int} (h : QAtI w qb v mo n l) : ∀ b ∈ qb :: footI v mo, ∀ o, w.heap[b]? = some o → isBk o = false := fun b hb o ho => by
  obtain ⟨h1, h2, h3, h4, h5, h6⟩ := h
  rcases List.mem_cons.1 hb with rfl | hb
  · rw [h1] at ho; cases ho; rfl
  · rcases List.mem_append.1 hb with hb | hb
    · rcases h2 with ⟨e, _⟩ | ⟨b2, off, cap, cur, e, g, _⟩
      · rw [e] at hb; simp [blks] at hb
      · rw [e] at hb; simp [blks] at hb; subst hb; rw [g] at ho; cases ho; rfl
    · rcases h4 with ⟨rfl, _⟩ | ⟨mb, sz, rfl, h⟩
      · simp at hb
      · simp at hb; subst hb
        obtain ⟨es, c, e⟩ := h.obj
        rw [e] at ho; cases ho; rfl
section
variable {z : Nat} {ot : Oth} {w W W' : World} {qb : Nat} {vq : Value} {mo : Option Nat} {N : Nat} {ql : List Int}
theorem Qst.tch (h : Qst z ot w W qb vq mo N ql) (t : Tch [] W W') : Qst z ot w W' qb vq mo N ql := ⟨h.q.kept t (by simp) (by simp), h.fq, h.fx, fun p hp => t.obj (h.ol p hp) (by simp), h.t.trans t, h.zl⟩
theorem Qst.bk (h : Qst z ot w W qb vq mo N ql) {row : Option Nat} {B : Nat} (g : W.grownBy W' row) (hr : ∀ r, row = some r → B ≤ r ∧ ∃ o : Obj, W.heap[r]? = some o ∧ isBk o = true) (hB : w.heap.size ≤ B) : Qst z ot w W' qb vq mo N ql := by
  obtain ⟨T, t, hT⟩ := bk_tch g hr
  have key : ∀ b ∈ qb :: footI vq mo, ¬ b ∈ T := fun b hb hm => by
    obtain ⟨_, o, ho, hk⟩ := hT b hm
    rw [h.q.kinds b hb o ho] at hk; cases hk
  refine ⟨h.q.kept t (key qb (by simp)) (fun b hb => key b (List.mem_cons_of_mem _ hb)), h.fq, h.fx, fun p hp => t.obj (h.ol p hp) (fun hm => ?_), h.t.trans2 t (fun k hk => .inr (by have := (hT k hk).1; omega)), h.zl⟩
  obtain ⟨_, o, ho, hk⟩ := hT _ hm
  rw [h.ol p hp] at ho; cases ho; cases hk
/-- The queue alone has turned. -/
theorem Qst.turn (h : Qst z ot w W qb vq mo N ql) {vq' : Value} {mo' : Option Nat} {N' : Nat} {ql' : List Int} (q : QAtI W' qb vq' mo' N' ql') (t : Tch (qb :: footI vq mo) W W') (hb : ∀ b ∈ footI vq' mo', b ∈ footI vq mo ∨ W.heap.size ≤ b) : Qst z ot w W' qb vq' mo' N' ql' := by
  have key : ∀ b ∈ qb :: footI vq mo, z ≤ b ∧ ¬ b ∈ ot.map (·.1) := fun b hb => by
    rcases List.mem_cons.1 hb with rfl | hb
    · exact h.fx
    · exact h.fq b hb
  refine ⟨q, fun b hb2 => ?_, h.fx, fun p hp => t.obj (h.ol p hp) (fun hm => (key _ hm).2 (List.mem_map.2 ⟨p, hp, rfl⟩)), h.t.trans2 t (fun k hk => .inr (by have := (key k hk).1; have := h.zl; omega)), h.zl⟩
  rcases hb b hb2 with h1 | h1
  · exact h.fq b h1
  · refine ⟨?_, fun hm => ?_⟩
    · have h2 := h.q.lt.1; have := h.fx.1; omega
    · obtain ⟨p, hp, e⟩ := List.mem_map.1 hm
      have := lt_of_obj (h.ol p hp)
      omega
/-- Put of any. -/
theorem Qst.put (h : Qst z ot w W qb vq mo N ql) (x : Int) (hx : wfi x) (hl : ql.length ≤ 100000) (hN : N ≤ 100000) :
    Calls Try.prog 32 #[.pointer (some ⟨qb, 0, none⟩), .int .i64 x] W fun e W' => (∃ r : Bool, e = .returned (.bool r)) ∧ ∃ vq' mo', Qst z ot w W' qb vq' mo' (N + 1) (if x ∈ ql then ql else ql ++ [x]) ∧ Tch (qb :: footI vq mo) W W' ∧ (∀ b ∈ footI vq' mo', b ∈ footI vq mo ∨ W.heap.size ≤ b) ∧ KB 0 W W' := by
  by_cases hm : x ∈ ql
  · rw [if_pos hm]
    refine (put_no_I qb vq mo N ql x W h.q hx hm).mono ?_
    rintro e W' ⟨rfl, rfl⟩
    have t0 : Tch [] W (W.alloc (.cells #[] 70)) := (Tch.refl [] W).alloc _
    have h2 := h.tch t0
    exact ⟨⟨_, rfl⟩, vq, mo, ⟨h2.q.mono (by omega), h2.fq, h2.fx, h2.ol, h2.t, h2.zl⟩, t0.mono (by simp), fun b hb => .inl hb, t0.kb 0 (by simp)⟩
  · rw [if_neg hm]
    refine (put_yes_I qb vq mo N ql x W h.q hx hm (by omega) (by unfold maxLen; omega)).mono ?_
    rintro e W' ⟨rfl, vq', mo', q, t, hb⟩
    exact ⟨⟨_, rfl⟩, vq', mo', h.turn q t hb, t, hb, t.kb 0 h.q.kinds⟩
end
/-- A queue, a list of those met, a map of them. -/
structure Als (z : Nat) (ot : Oth) (w W : World) (qb ax mx mm : Nat) (vq : Value) (mo : Option Nat) (N : Nat) (ql : List Int) (va : Option Addr) (vc M : Nat) (al : List Int) : Prop where
  q : Qst z ot w W qb vq mo N ql
  ao : W.heap[ax]? = some (.cells #[.slice va al.length vc] 35 (0, 0))
  sl : Seg W 3 (.slice va al.length vc) (valsI al)
  mc : W.heap[mx]? = some (.cells #[.map (some mm)] 67 (0, 0))
  ms : MSeen W mm M al
  fq : ∀ b ∈ footI vq mo, ¬ b = ax ∧ ¬ b = mx ∧ ¬ b = mm ∧ ¬ b ∈ blks (.slice va al.length vc)
  fa : ∀ b ∈ blks (.slice va al.length vc), z ≤ b ∧ ¬ b = qb ∧ ¬ b = ax ∧ ¬ b = mx ∧ ¬ b = mm ∧ ¬ b ∈ ot.map (·.1)
  fx : z ≤ ax ∧ z ≤ mx ∧ z ≤ mm ∧ ¬ qb = ax ∧ ¬ qb = mx ∧ ¬ qb = mm ∧ ¬ ax = mx ∧ ¬ ax = mm ∧ ¬ mx = mm ∧ ¬ ax ∈ ot.map (·.1) ∧ ¬ mm ∈ ot.map (·.1)
section
variable {z : Nat} {ot : Oth} {w W W' : World} {qb ax mx mm : Nat} {vq : Value} {mo : Option Nat} {N M : Nat} {ql : List Int} {va : Option Addr} {vc : Nat} {al : List Int}
theorem Als.kept (h : Als z ot w W qb ax mx mm vq mo N ql va vc M al) {T : List Nat} (t : Tch T W W') (h1 : Qst z ot w W' qb vq mo N ql) (ha : ¬ ax ∈ T) (hx : ¬ mx ∈ T) (hm : ¬ mm ∈ T) (hl : ∀ b ∈ blks (.slice va al.length vc), ¬ b ∈ T) : Als z ot w W' qb ax mx mm vq mo N ql va vc M al :=
  ⟨h1, t.obj h.ao ha, h.sl.kept t hl, t.obj h.mc hx, h.ms.kept t hm, h.fq, h.fa, h.fx⟩
theorem Als.tch (h : Als z ot w W qb ax mx mm vq mo N ql va vc M al) (t : Tch [] W W') : Als z ot w W' qb ax mx mm vq mo N ql va vc M al := h.kept t (h.q.tch t) (by simp) (by simp) (by simp) (by simp)
theorem Als.kinds (h : Als z ot w W qb ax mx mm vq mo N ql va vc M al) : (∀ o, W.heap[ax]? = some o → isBk o = false) ∧ (∀ o, W.heap[mm]? = some o → isBk o = false) ∧ (∀ o, W.heap[mx]? = some o → isBk o = false) ∧ ∀ b ∈ blks (.slice va al.length vc), ∀ o, W.heap[b]? = some o → isBk o = false := by
  refine ⟨fun o ho => ?_, fun o ho => ?_, fun o ho => ?_, fun b hb o ho => ?_⟩
  · rw [h.ao] at ho; cases ho; rfl
  · obtain ⟨n, sz, _, h1⟩ := h.ms
    obtain ⟨es, c, e⟩ := h1.obj
    rw [e] at ho; cases ho; rfl
  · rw [h.mc] at ho; cases ho; rfl
  · rcases h.sl with ⟨e, _⟩ | ⟨b2, off, cap, cur, e, g, _⟩
    · rw [e] at hb; simp [blks] at hb
    · rw [e] at hb; simp [blks] at hb; subst hb; rw [g] at ho; cases ho; rfl
theorem Als.bk (h : Als z ot w W qb ax mx mm vq mo N ql va vc M al) {row : Option Nat} {B : Nat} (g : W.grownBy W' row) (hr : ∀ r, row = some r → B ≤ r ∧ ∃ o : Obj, W.heap[r]? = some o ∧ isBk o = true) (hB : w.heap.size ≤ B) : Als z ot w W' qb ax mx mm vq mo N ql va vc M al := by
  obtain ⟨T, t, hT⟩ := bk_tch g hr
  obtain ⟨k1, k2, k3, k4⟩ := h.kinds
  have key : ∀ b, (∀ o, W.heap[b]? = some o → isBk o = false) → ¬ b ∈ T := fun b hb hm => by
    obtain ⟨_, o, ho, hk⟩ := hT b hm
    rw [hb o ho] at hk; cases hk
  exact h.kept t (h.q.bk g hr hB) (key _ k1) (key _ k3) (key _ k2) (fun b hb => key b (k4 b hb))
/-- The queue alone has turned. -/
theorem Als.turn (h : Als z ot w W qb ax mx mm vq mo N ql va vc M al) {vq' : Value} {mo' : Option Nat} {N' : Nat} {ql' : List Int} (q : Qst z ot w W' qb vq' mo' N' ql') (t : Tch (qb :: footI vq mo) W W') (hb : ∀ b ∈ footI vq' mo', b ∈ footI vq mo ∨ W.heap.size ≤ b) : Als z ot w W' qb ax mx mm vq' mo' N' ql' va vc M al := by
  obtain ⟨x1, x2, x3, x4, x5, x6, x7, x8, x9, x10, x11⟩ := h.fx
  have nf : ∀ b, ¬ b = qb → (∀ c ∈ footI vq mo, ¬ c = b) → ¬ b ∈ qb :: footI vq mo := fun b h1 h2 hm => by
    rcases List.mem_cons.1 hm with e | e
    · exact h1 e
    · exact h2 b e rfl
  refine ⟨q, t.obj h.ao (nf _ (fun e => x4 e.symm) (fun c hc => (h.fq c hc).1)), h.sl.kept t (fun b hb => nf b (h.fa b hb).2.1 (fun c hc e => (h.fq c hc).2.2.2 (by rw [e]; exact hb))), t.obj h.mc (nf _ (fun e => x5 e.symm) (fun c hc => (h.fq c hc).2.1)), h.ms.kept t (nf _ (fun e => x6 e.symm) (fun c hc => (h.fq c hc).2.2.1)), fun b hb2 => ?_, h.fa, h.fx⟩
  rcases hb b hb2 with h1 | h1
  · exact h.fq b h1
  · have l1 := lt_of_obj h.ao
    have l2 := lt_of_obj h.mc
    have l3 : mm < W.heap.size := by obtain ⟨n, sz, _, h1⟩ := h.ms; exact h1.lt
    exact ⟨by omega, by omega, by omega, fun hm => by have := h.sl.lt b hm; omega⟩
/-- One more is met. -/
theorem Als.meet (h : Als z ot w W qb ax mx mm vq mo N ql va vc M al) {y : Int} {W1 W2 : World} {va' : Option Addr} {vc' : Nat} (ms : MSeen W1 mm (M + 1) (al ++ [y])) (t1 : Tch [mm] W W1)
    (s : Seg W2 3 (.slice va' (al ++ [y]).length vc') (valsI (al ++ [y]))) (t2 : Tch (blks (.slice va al.length vc)) W1 W2) (hb : ∀ b ∈ blks (.slice va' (al ++ [y]).length vc'), b ∈ blks (.slice va al.length vc) ∨ W1.heap.size ≤ b) :
    Als z ot w (W2.setCell ⟨ax, 0, none⟩ (.slice va' (al ++ [y]).length vc')) qb ax mx mm vq mo N ql va' vc' (M + 1) (al ++ [y]) ∧ Tch (mm :: ax :: blks (.slice va al.length vc)) W (W2.setCell ⟨ax, 0, none⟩ (.slice va' (al ++ [y]).length vc')) := by
  obtain ⟨x1, x2, x3, x4, x5, x6, x7, x8, x9, x10, x11⟩ := h.fx
  have tt : Tch (mm :: ax :: blks (.slice va al.length vc)) W (W2.setCell ⟨ax, 0, none⟩ (.slice va' (al ++ [y]).length vc')) := ((t1.mono (by simp)).trans (t2.mono (fun k hk => by simp [hk]))).setCell (p := ⟨ax, 0, none⟩) (.inl (by simp)) _
  have l1 := lt_of_obj h.ao
  have l2 := lt_of_obj h.mc
  have l3 : mm < W.heap.size := by obtain ⟨n, sz, _, h1⟩ := h.ms; exact h1.lt
  have lq := h.q.q.lt
  have nw : ∀ b ∈ blks (.slice va' (al ++ [y]).length vc'), z ≤ b ∧ ¬ b = qb ∧ ¬ b = ax ∧ ¬ b = mx ∧ ¬ b = mm ∧ (¬ b ∈ ot.map (·.1)) ∧ ¬ b ∈ footI vq mo := fun b hb2 => by
    rcases hb b hb2 with h1 | h1
    · have := h.fa b h1
      exact ⟨this.1, this.2.1, this.2.2.1, this.2.2.2.1, this.2.2.2.2.1, this.2.2.2.2.2, fun hm => (h.fq b hm).2.2.2 h1⟩
    · have := t1.size
      refine ⟨by omega, by omega, by omega, by omega, by omega, fun hm => ?_, fun hm => by have := lq.2 b hm; omega⟩
      obtain ⟨p, hp, e⟩ := List.mem_map.1 hm
      have := lt_of_obj (h.q.ol p hp)
      omega
  have nf : ∀ b, ¬ b = mm → ¬ b = ax → ¬ b ∈ blks (.slice va al.length vc) → ¬ b ∈ mm :: ax :: blks (.slice va al.length vc) := fun b h1 h2 h3 hm => by
    rcases List.mem_cons.1 hm with e | hm
    · exact h1 e
    · rcases List.mem_cons.1 hm with e | hm
      · exact h2 e
      · exact h3 hm
  have a1 : W2.heap[ax]? = some (.cells #[.slice va al.length vc] 35 (0, 0)) := t2.obj (t1.obj h.ao (by simp; exact x8)) (fun hm => (h.fa ax hm).2.2.1 rfl)
  have t3 : Tch [ax] W2 (W2.setCell ⟨ax, 0, none⟩ (.slice va' (al ++ [y]).length vc')) := (Tch.refl _ W2).setCell (p := ⟨ax, 0, none⟩) (.inl (by simp)) _
  refine ⟨⟨⟨h.q.q.kept tt (nf _ x6 x4 (fun hm => (h.fa qb hm).2.1 rfl)) (fun b hb => nf b (h.fq b hb).2.2.1 (h.fq b hb).1 (h.fq b hb).2.2.2), h.q.fq, h.q.fx, fun p hp => tt.obj (h.q.ol p hp) (nf _ (fun e => x11 (by rw [← e]; exact List.mem_map.2 ⟨p, hp, rfl⟩)) (fun e => x10 (by rw [← e]; exact List.mem_map.2 ⟨p, hp, rfl⟩)) (fun hm => (h.fa _ hm).2.2.2.2.2 (List.mem_map.2 ⟨p, hp, rfl⟩))), h.q.t.trans2 tt (fun k hk => .inr ?_), h.q.zl⟩, heap_setCell_same _ _ _ _ _ _ a1, s.kept t3 (fun b hb h1 => by simp at h1; exact (nw b hb).2.2.1 h1), tt.obj h.mc (nf _ x9 (fun e => x7 e.symm) (fun hm => (h.fa mx hm).2.2.2.1 rfl)), (ms.kept t2 (fun hm => (h.fa mm hm).2.2.2.2.1 rfl)).kept t3 (by simp; exact fun e => x8 e.symm), fun b hb => ⟨(h.fq b hb).1, (h.fq b hb).2.1, (h.fq b hb).2.2.1, fun hm => (nw b hm).2.2.2.2.2.2 hb⟩, fun b hb => ⟨(nw b hb).1, (nw b hb).2.1, (nw b hb).2.2.1, (nw b hb).2.2.2.1, (nw b hb).2.2.2.2.1, (nw b hb).2.2.2.2.2.1⟩, h.fx⟩, tt⟩
  have := h.q.zl
  rcases List.mem_cons.1 hk with rfl | hk
  · omega
  · rcases List.mem_cons.1 hk with rfl | hk
    · omega
    · have := (h.fa k hk).1; omega
end
end Go.Proofs.Ytbdjpmmbnlmkhaa


/- In a round: a map is changed, a list grows, told by what the operation does. -/
set_option linter.unusedSimpArgs false
set_option linter.unusedVariables false
namespace Go.Proofs.Ytbdjpmmbnlmkhaa
open Go.RowKit

section
variable {n lp : Nat} {P : Program} {Q : Exit → Act → World → Prop} {ops : Array Oper} {rest : List Oper} {o : Oper} {a : Act} {w : World}
theorem wpListIn_upd (hg : o.guard = none) (m x v : Operand) (t : TypeId) (hop : o.op = Op.mapUpdate t m x v) {mv key val : Value} (hm : a.eval m = mv) (hx : a.eval x = key) (hv : a.eval v = val) {w' : World}
    (hr : (Instr.mapUpdate t mv key val).run P w = .ok () w') (hK : wpListIn (Fence.wide.inRound lp) n P ops Q rest (a.put o.dst undef) w') : wpListIn (Fence.wide.inRound lp) n P ops Q (o :: rest) a w := by
  unfold wpListIn
  rw [if_pos (by simp [Region.wanted, hg])]
  refine opGo_round (by rw [hop]; rfl) ?_
  unfold Oper.wp
  simp [execOp, hop, hm, hx, hv, hr, Result.andThen]
  exact hK
theorem wpListIn_app (hg : o.guard = none) (s x : Operand) (t : TypeId) (ho : o.op = .call { callee := .builtin .append, args := #[s, x], argTypes := #[t, t] }) (v1 v2 : Value) (hs : a.eval s = v1) (hx : a.eval x = v2) (v' : Value) (w' : World)
    (p1 : (Builtin.append_ #[t, t] o.type #[v1, v2]).run P w = .ok v' w') (hK : wpListIn (Fence.wide.inRound lp) n P ops Q rest (a.put o.dst v') w') : wpListIn (Fence.wide.inRound lp) n P ops Q (o :: rest) a w := by
  unfold wpListIn
  rw [if_pos (by simp [Region.wanted, hg])]
  exact opGo_round (by rw [ho]; rfl) (Lib.wp_append_run w s x t t ho _ _ hs hx _ _ p1 hK)
end
end Go.Proofs.Ytbdjpmmbnlmkhaa


/- All. -/
set_option linter.unusedSimpArgs false
set_option linter.unusedVariables false
namespace Go.Proofs.Ytbdjpmmbnlmkhaa
open Go.RowKit Go.Sort Go.Maps Go.Shelf
attribute [local go_sem] Oper.semAt_some

/-- Fronts, or none at all. -/
def FrV (n : Nat) (w : World) (fv : Value) (S : Int → List Int) : Prop := (∃ ao ac, fv = .slice ao n ac) ∧ (0 < n → ∃ fb lo vS, fv = .slice (some ⟨fb, 0, none⟩) n n ∧ Frs n lo w fb vS S)
/-- What All leaves. -/
def AllP (S : Int → List Int) (n : Nat) (fl : List Int) (w w' : World) (e : Ending) : Prop := ∃ vv r, e = .returned (.agg #[vv]) ∧ Rise ltI r ∧ (∀ y, y ∈ r ↔ AllR S n fl y) ∧ r.length ≤ n ∧ Seg w' 3 vv (valsI r) ∧ (∀ b ∈ blks vv, w.heap.size ≤ b) ∧ Tch [] w w'
theorem rise_nd {l : List Int} (h : Rise ltI l) : l.Nodup := List.Pairwise.imp (fun {a b} hab e => by subst e; simp [ltI] at hab) h
theorem nd_short : ∀ (n : Nat) (l : List Int), l.Nodup → (∀ x ∈ l, 0 ≤ x ∧ x < n) → l.length ≤ n := fun n l hn hr => by
  have := nd_len n (l.map Int.toNat) (List.Pairwise.map _ (fun a b hab => hab) (hn.imp_of_mem (fun {a b} ha hb hab e => hab (by have := hr a ha; have := hr b hb; omega)))) (fun x hx => by
    obtain ⟨y, hy, rfl⟩ := List.mem_map.1 hx
    have := hr y hy; omega)
  simpa using this
theorem allR_rng {S : Int → List Int} {n : Nat} {fl : List Int} (hS : ∀ x, ∀ y ∈ S x, 0 ≤ y ∧ y < n) {y : Int} (h : AllR S n fl y) : 0 ≤ y ∧ y < n := by
  cases h with
  | base _ _ _ hy => exact hS _ _ hy
  | step _ _ _ hy => exact hS _ _ hy
/-- What the second range keeps. -/
structure Drn (S : Int → List Int) (n : Nat) (fl : List Int) (z : Nat) (ot : Oth) (w W : World) (qb ax mx mm D : Nat) (ql al : List Int) : Prop where
  a : ∃ vq mo N va vc M, Als z ot w W qb ax mx mm vq mo N ql va vc M al ∧ N ≤ fl.length + al.length ∧ M ≤ al.length
  d : W.heap[D]? = some (.deferred (some []))
  s : ∀ x ∈ ql, x ∈ fl ∨ x ∈ al
  b : ql.length ≤ fl.length + al.length
section
variable {S : Int → List Int} {n : Nat} {fl : List Int} {z : Nat} {ot : Oth} {w W W' : World} {qb ax mx mm D : Nat} {ql al : List Int}
theorem Drn.bk (h : Drn S n fl z ot w W qb ax mx mm D ql al) {row : Option Nat} {B : Nat} (g : W.grownBy W' row) (hr : ∀ r, row = some r → B ≤ r ∧ ∃ o : Obj, W.heap[r]? = some o ∧ isBk o = true) (hB : w.heap.size ≤ B) (hD : D < B) : Drn S n fl z ot w W' qb ax mx mm D ql al := by
  obtain ⟨⟨vq, mo, N, va, vc, M, h1, h2⟩, d, s, b⟩ := h
  exact ⟨⟨vq, mo, N, va, vc, M, h1.bk g hr hB, h2⟩, (g.block D (lt_of_obj d) (fun e => by have := (hr D e.symm).1; omega)).trans d, s, b⟩
theorem Drn.tch (h : Drn S n fl z ot w W qb ax mx mm D ql al) (t : Tch [] W W') : Drn S n fl z ot w W' qb ax mx mm D ql al := by
  obtain ⟨⟨vq, mo, N, va, vc, M, h1, h2⟩, d, s, b⟩ := h
  exact ⟨⟨vq, mo, N, va, vc, M, h1.tch t, h2⟩, t.obj d (by simp), s, b⟩
/-- Take. -/
theorem Drn.take {x : Int} (h : Drn S n fl z ot w W qb ax mx mm D (x :: ql) al) : Calls Try.prog 62 #[.pointer (some ⟨qb, 0, none⟩)] W fun e W' => e = .returned (.tuple #[.int .i64 x, .bool true]) ∧ Drn S n fl z ot w W' qb ax mx mm D ql al ∧ KB 0 W W' := by
  obtain ⟨⟨vq, mo, N, va, vc, M, h1, h2⟩, d, s, b⟩ := h
  refine (take_some_I qb vq mo N x ql W h1.q.q).mono ?_
  rintro e W' ⟨rfl, v', q, t, hb⟩
  have hf : ∀ b ∈ footI v' mo, b ∈ footI vq mo ∨ W.heap.size ≤ b := fun b hb2 => by
    rcases List.mem_append.1 hb2 with h3 | h3
    · exact .inl (List.mem_append_left _ (hb b h3))
    · exact .inl (List.mem_append_right _ h3)
  exact ⟨rfl, ⟨⟨v', mo, N, va, vc, M, h1.turn (h1.q.turn q t hf) t hf, h2⟩, t.obj d (fun hm => by have := h1.q.q.kinds D hm _ d; cases this), fun y hy => s y (by simp [hy]), by simp at b; omega⟩, t.kb 0 h1.q.q.kinds⟩
theorem Drn.none (h : Drn S n fl z ot w W qb ax mx mm D [] al) : Calls Try.prog 62 #[.pointer (some ⟨qb, 0, none⟩)] W fun e W' => e = .returned (.tuple #[.int .i64 0, .bool false]) ∧ W = W' := by
  obtain ⟨⟨vq, mo, N, va, vc, M, h1, h2⟩, d, s, b⟩ := h
  exact take_none_I qb vq mo N W h1.q.q
/-- Put of one that was met. -/
theorem Drn.put (h : Drn S n fl z ot w W qb ax mx mm D ql al) {vq : Value} {mo : Option Nat} {N : Nat} {va : Option Addr} {vc M : Nat} (h1 : Als z ot w W qb ax mx mm vq mo N ql va vc M al) : True := trivial
end
section
variable {n : Nat} {w : World} {fv : Value} {S : Int → List Int} {sa : Option Addr} {sc : Nat} {fl : List Int}
set_option maxRecDepth 100000 in
set_option maxHeartbeats 8000000 in
/-- **All.** -/
theorem fall_any (hf : FrV n w fv S) (hS : ∀ x, ∀ y ∈ S x, 0 ≤ y ∧ y < n) (hn : n ≤ 900) (hs : Seg w 3 (.slice sa fl.length sc) (valsI fl)) (hr : Rise ltI fl) (hw : ∀ x ∈ fl, wfi x) (hl : fl.length ≤ 1000) :
    Calls Try.prog 12 #[fv, .agg #[.slice sa fl.length sc]] w fun e w' => AllP S n fl w w' e := by
  obtain ⟨⟨fa, fc, rfl⟩, hf⟩ := hf
  have HF := hid hf
  have HS := hid hS
  have HSG := hid hs
  have HR := hid hr
  have HW := hid hw
  clear hf hS hs hr hw
  refine calls_marks Try.func12 rfl ?_
  simp only [Try.ntmps12, List.size_toArray, List.length_cons, List.length_nil, Nat.reduceAdd, Nat.reduceSub, Array.replicate_succ, Array.replicate_zero, List.push_toArray, List.append_toArray, List.nil_append, List.cons_append]
  go_upto_region 2 with fail
  have o0 := (((Gr.refl _).alloc (.cells #[.slice sa fl.length sc] 41)).alloc (.cells #[.slice none 0 0] 41)).alloc (.cells #[.slice none 0 0, .map none] 69) |>.obj (heap_alloc_new w (.cells #[.slice fa n fc] 33))
  have o1 := ((Gr.refl _).alloc (.cells #[.slice none 0 0] 41)).alloc (.cells #[.slice none 0 0, .map none] 69) |>.obj (heap_alloc_new (w.alloc (.cells #[.slice fa n fc] 33)) (.cells #[.slice sa fl.length sc] 41))
  have o2 := (Gr.refl _).alloc (.cells #[.slice none 0 0, .map none] 69) |>.obj (heap_alloc_new ((w.alloc (.cells #[.slice fa n fc] 33)).alloc (.cells #[.slice sa fl.length sc] 41)) (.cells #[.slice none 0 0] 41))
  have o3 := heap_alloc_new (((w.alloc (.cells #[.slice fa n fc] 33)).alloc (.cells #[.slice sa fl.length sc] 41)).alloc (.cells #[.slice none 0 0] 41)) (.cells #[.slice none 0 0, .map none] 69)
  simp only [World.size_alloc] at o1 o2 o3
  have t0 : Tch [] w ((((w.alloc (.cells #[.slice fa n fc] 33)).alloc (.cells #[.slice sa fl.length sc] 41)).alloc (.cells #[.slice none 0 0] 41)).alloc (.cells #[.slice none 0 0, .map none] 69)) := ((((Tch.refl [] w).alloc _).alloc _).alloc _).alloc _
  have s0 : ((((w.alloc (.cells #[.slice fa n fc] 33)).alloc (.cells #[.slice sa fl.length sc] 41)).alloc (.cells #[.slice none 0 0] 41)).alloc (.cells #[.slice none 0 0, .map none] 69)).heap.size = w.heap.size + 1 + 1 + 1 + 1 := by simp
  generalize (((w.alloc (.cells #[.slice fa n fc] 33)).alloc (.cells #[.slice sa fl.length sc] 41)).alloc (.cells #[.slice none 0 0] 41)).alloc (.cells #[.slice none 0 0, .map none] 69) = w0 at *
  generalize hz : w.heap.size = z at *
  have HZ := hid hz
  clear hz
  have c1 := cell_of_row _ _ 0 _ _ _ o1
  simp only [List.getElem?_toArray, List.getElem?_cons_zero] at c1
  have t1 : Tch [] w0 (w0.alloc (.cells #[.slice sa fl.length sc] 41)) := (Tch.refl [] w0).alloc _
  have o4 := heap_alloc_new w0 (.cells #[.slice sa fl.length sc] 41)
  have s1 : (w0.alloc (.cells #[.slice sa fl.length sc] 41)).heap.size = w0.heap.size + 1 := by simp
  go_wp2_with (go_at_call 21; refine (all_I _ _ rfl).mono ?_; rintro e w1 ⟨rfl, rfl⟩)
  generalize w0.alloc (.cells #[.slice sa fl.length sc] 41) = w1 at *
  rw [s0] at o4 s1
  have Q0 : Hid (Qst z [(z, #[.slice fa n fc], 33), (z + 1 + 1, #[.slice none 0 0], 41), (z + 1 + 1 + 1 + 1, #[.slice sa fl.length sc], 41)] w w1 (z + 1 + 1 + 1) (.slice none 0 0) none 0 []) := ⟨⟨t1.obj o3 (by simp), Seg.nil _ _, by simp [blks], .inl ⟨rfl, rfl⟩, by simp, by simp⟩, by simp [footI, blks], ⟨by omega, by simp; omega⟩, fun p hp => by
    simp only [List.mem_cons, List.not_mem_nil, or_false] at hp
    rcases hp with rfl | rfl | rfl
    · exact t1.obj o0 (by simp)
    · exact t1.obj o2 (by simp)
    · exact o4, t0.trans t1, by rw [HZ.out]; exact Nat.le_refl _⟩
  have S1 : Hid (w1.heap.size = z + 1 + 1 + 1 + 1 + 1) := s1
  clear o0 o1 o2 o3 t0 s0 c1 t1 o4 s1
  refine (wpIn_wide (n := 9)).1 ?_
  refine wpIn_stepsB (fun (x : Int) t => (t.setIfInBounds 15 (.int .i64 x)).setIfInBounds 6 (.int .i64 x)) rfl (by decide) (gf := 40) (lb := #[.pointer (some ⟨z + 1 + 1 + 1 + 1, 0, none⟩)]) rfl trivial (enters_of Try.func40 (by kernel_rfl) rfl) (fun _ => rfl) (fun _ _ => False) fl.length
    (sall_B 8 (by decide) (z + 1 + 1 + 1 + 1) w1.heap.size (.slice sa fl.length sc) fl (by omega) (fun k W => ∃ vq mo, Qst z [(z, #[.slice fa n fc], 33), (z + 1 + 1, #[.slice none 0 0], 41), (z + 1 + 1 + 1 + 1, #[.slice sa fl.length sc], 41)] w W (z + 1 + 1 + 1) vq mo k (fl.take k))
      (fun k W ⟨vq, mo, q⟩ => HSG.out.kept q.t (by simp)) (fun W ⟨vq, mo, q⟩ => by rw [cell_of_row _ _ _ _ _ _ (q.ol (z + 1 + 1 + 1 + 1, #[.slice sa fl.length sc], 41) (by simp))]; rfl))
    ?hI ?hIy ?hId (fun _ _ _ _ h _ _ => h) ?h0 ?assign ?body ?done (fun _ _ _ _ h _ => h.elim)
  case hI => exact fun m X Y row ⟨k, e, vq, mo, q⟩ g hr => ⟨k, e, vq, mo, q.bk g hr (by have := S1.out; have := HZ.out; omega)⟩
  case hIy => exact fun m x X Y row ⟨k, e, e2, vq, mo, q⟩ g hr => ⟨k, e, e2, vq, mo, q.bk g hr (by have := S1.out; have := HZ.out; omega)⟩
  case hId => exact fun _ X Y row ⟨vq, mo, q⟩ g hr => ⟨vq, mo, q.bk g hr (by have := S1.out; have := HZ.out; omega)⟩
  case h0 => exact ⟨0, by omega, _, _, Q0.out⟩
  case assign =>
    intro lp x W K hK
    gi_wp2
    try simp only [List.setIfInBounds_toArray, List.set_cons_succ, List.set_cons_zero] at hK
    exact hK
  case body =>
    rintro lp m x W _ _ ⟨k, hk, hx, vq, mo, q⟩
    obtain ⟨hkl, hxe⟩ := List.getElem?_eq_some_iff.1 hx
    have hnx : ¬ x ∈ fl.take k := fun hm => by
      obtain ⟨i, hi, e⟩ := List.getElem_of_mem hm
      have hi2 : i < k ∧ i < fl.length := by simp at hi; omega
      have e2 : fl[i]? = some x := by rw [List.getElem?_eq_getElem hi2.2, ← e]; simp
      have := (List.getElem?_inj hi2.2 (rise_nd HR.out)).1 (e2.trans hx.symm)
      omega
    have HP := hid (q.put x (HW.out x (List.mem_of_getElem? hx)) (by rw [List.length_take]; omega) (by omega))
    rw [if_neg hnx, show fl.take k ++ [x] = fl.take (k + 1) by rw [List.take_succ_eq_append_getElem hkl, hxe]] at HP
    clear hnx hxe hx q
    gi_wp2_with (refine ⟨trivial, (((callsIn_wide (n := 6)).2 HP.out).inRound lp).mono ?_⟩; rintro e W2 ⟨⟨rb, rfl⟩, vq2, mo2, q2, _, _, kb⟩; have Q2 := hid q2; have K2 := hid kb; clear q2 kb)
    exact ⟨K2.out.up (Nat.zero_le _), m - 1, by omega, k + 1, by omega, vq2, mo2, Q2.out⟩
  case done =>
    rintro D W hD ⟨vq, mo, q⟩ hKd
    rw [List.take_length] at q
    have Q1 := hid q
    have KD := hid hKd
    have LD : Hid (w1.heap.size ≤ D) := hD
    clear q hKd Q0 hD
    have hmm : ∀ w, (Instr.makeMap 67 none).run Try.prog w = .ok (.map (some w.heap.size)) (w.alloc (.map #[] 0)) := fun w => run_makeMap _ w
    go_upto_region 7 with fail
    have hx1 := heap_alloc_new W (.cells #[.slice none 0 0] 35)
    have tx1 : Tch [] W (W.alloc (.cells #[.slice none 0 0] 35)) := (Tch.refl [] W).alloc _
    have sx1 : (W.alloc (.cells #[.slice none 0 0] 35)).heap.size = W.heap.size + 1 := by simp
    generalize W.alloc (.cells #[.slice none 0 0] 35) = x1 at *
    have hx2 := mSeen_made x1
    have tx2 : Tch [] x1 (x1.alloc (.map #[] 0)) := (Tch.refl [] x1).alloc _
    have sx2 : (x1.alloc (.map #[] 0)).heap.size = x1.heap.size + 1 := by simp
    generalize x1.alloc (.map #[] 0) = x2 at *
    have hx3 := heap_alloc_new x2 (.cells #[.map (some x1.heap.size)] 67)
    have tx3 : Tch [] x2 (x2.alloc (.cells #[.map (some x1.heap.size)] 67)) := (Tch.refl [] x2).alloc _
    have sx3 : (x2.alloc (.cells #[.map (some x1.heap.size)] 67)).heap.size = x2.heap.size + 1 := by simp
    rw [sx1] at hx2 sx2 hx3 sx3 tx3
    rw [sx2] at hx3 sx3
    generalize x2.alloc (.cells #[.map (some (W.heap.size + 1))] 67) = x3 at *
    have hx4 := heap_alloc_new x3 (.cells #[.pointer (some ⟨z + 1 + 1 + 1, 0, none⟩)] 95)
    have tx4 : Tch [] x3 (x3.alloc (.cells #[.pointer (some ⟨z + 1 + 1 + 1, 0, none⟩)] 95)) := (Tch.refl [] x3).alloc _
    have sx4 : (x3.alloc (.cells #[.pointer (some ⟨z + 1 + 1 + 1, 0, none⟩)] 95)).heap.size = x3.heap.size + 1 := by simp
    rw [sx3] at hx4 sx4
    go_wp2_with (go_at_call 33; refine (drainB _ _).mono ?_; rintro e x5 ⟨rfl, rfl⟩)
    generalize x3.alloc (.cells #[.pointer (some ⟨z + 1 + 1 + 1, 0, none⟩)] 95) = x4 at *
    have T4 : Tch [] W x4 := ((tx1.trans tx2).trans tx3).trans tx4
    have LQ := Q1.out.q.lt
    have lz : z ≤ w1.heap.size ∧ w1.heap.size ≤ D ∧ D < W.heap.size := ⟨by have := S1.out; omega, LD.out, lt_of_obj KD.out⟩
    have D0 : Hid (Drn S n fl z [(z, #[.slice fa n fc], 33), (z + 1 + 1, #[.slice none 0 0], 41), (W.heap.size + 1 + 1 + 1, #[.pointer (some ⟨z + 1 + 1 + 1, 0, none⟩)], 95)] w x4 (z + 1 + 1 + 1) W.heap.size (W.heap.size + 1 + 1) (W.heap.size + 1) D fl []) := by
      have s1 := S1.out
      refine ⟨⟨vq, mo, fl.length, none, 0, 0, ⟨⟨Q1.out.q.kept T4 (by simp) (by simp), fun b hb => ?_, ⟨by omega, by simp; omega⟩, fun p hp => ?_, Q1.out.t.trans T4, by rw [HZ.out]; exact Nat.le_refl _⟩, ((tx2.trans tx3).trans tx4).obj hx1 (by simp), Seg.nil _ _, tx4.obj hx3 (by simp), (hx2.kept tx3 (by simp)).kept tx4 (by simp), fun b hb => ?_, by simp [blks], ⟨by omega, by omega, by omega, by omega, by omega, by omega, by omega, by omega, by omega, by simp; omega, by simp; omega⟩⟩, by simp, by simp⟩, T4.obj KD.out (by simp), fun x hx => .inl hx, by simp⟩
      · have h1 := Q1.out.fq b hb
        have h2 := LQ.2 b hb
        refine ⟨h1.1, fun hm => h1.2 ?_⟩
        simp at hm ⊢
        omega
      · simp only [List.mem_cons, List.not_mem_nil, or_false] at hp
        rcases hp with rfl | rfl | rfl
        · exact T4.obj (Q1.out.ol (z, #[.slice fa n fc], 33) (by simp)) (by simp)
        · exact T4.obj (Q1.out.ol (z + 1 + 1, #[.slice none 0 0], 41) (by simp)) (by simp)
        · exact hx4
      · have h2 := LQ.2 b hb
        exact ⟨by omega, by omega, by omega, by simp [blks]⟩
    have P0 : Hid (Pst S n fl fl []) := ⟨by simp, by simp, fun x hx => .inl (by simpa using hx)⟩
    have LX : Hid (x4.heap.size = W.heap.size + 1 + 1 + 1 + 1 ∧ D < W.heap.size ∧ w.heap.size ≤ W.heap.size) := ⟨sx4, lz.2.2, Q1.out.t.size⟩
    have HDW : Hid (w.heap.size ≤ D) := by have := HZ.out; have := lz; show _ ≤ _; omega
    clear hx1 tx1 sx1 hx2 tx2 sx2 hx3 tx3 sx3 hx4 tx4 sx4 T4 LQ Q1 KD LD lz S1 hmm
    generalize W.heap.size = ax at *
    generalize hot : ([(z, #[.slice fa n fc], 33), (z + 1 + 1, #[.slice none 0 0], 41), (ax + 1 + 1 + 1, #[.pointer (some ⟨z + 1 + 1 + 1, 0, none⟩)], 95)] : Oth) = ot at *
    have OTF : Hid ((z, #[Value.slice fa n fc], 33) ∈ ot ∧ (z + 1 + 1, #[Value.slice none 0 0], 41) ∈ ot ∧ (ax + 1 + 1 + 1, #[Value.pointer (some ⟨z + 1 + 1 + 1, 0, none⟩)], 95) ∈ ot) := by rw [← hot]; exact hid ⟨by simp, by simp, by simp⟩
    clear hot
    refine (wpIn_wide (n := 9)).1 ?_
    refine wpIn_stepsB (fun (x : Int) t => (t.setIfInBounds 20 (.int .i64 x)).setIfInBounds 9 (.int .i64 x)) rfl (by decide) (gf := 61) (lb := #[.pointer (some ⟨ax + 1 + 1 + 1, 0, none⟩)]) rfl trivial (enters_of Try.func61 (by kernel_rfl) rfl) (fun _ => rfl) (fun _ _ => False) (fl.length + n)
      (drains_B 8 (by decide) (ax + 1 + 1 + 1) (z + 1 + 1 + 1) x4.heap.size (fl.length + n)
        (fun m W => ∃ ql al, Drn S n fl z ot w W (z + 1 + 1 + 1) ax (ax + 1 + 1) (ax + 1) D ql al ∧ Pst S n fl ql al ∧ ql.length + (n - al.length) ≤ m)
        (fun m x W => ∃ ql al, Drn S n fl z ot w W (z + 1 + 1 + 1) ax (ax + 1 + 1) (ax + 1) D ql al ∧ Pin S n fl ql al x 0 ∧ ql.length + (n - al.length) + 1 ≤ m)
        (fun W => ∃ al, Drn S n fl z ot w W (z + 1 + 1 + 1) ax (ax + 1 + 1) (ax + 1) D [] al ∧ Pst S n fl [] al)
        ?hT)
      ?hI2 ?hIy2 ?hId2 (fun _ _ _ _ h _ _ => h) ?h02 ?assign2 ?body2 ?done2 (fun _ _ _ _ h _ => h.elim)
    case hT =>
      rintro m X ⟨ql, al, h1, h2, h3⟩
      refine ⟨?_, ?_⟩
      · obtain ⟨vq2, mo2, N2, va2, vc2, M2, g1, _⟩ := h1.a
        rw [cell_of_row _ _ _ _ _ _ (g1.q.ol _ OTF.out.2.2)]; rfl
      · cases ql with
        | nil =>
          refine h1.none.mono ?_
          rintro e Y ⟨rfl, rfl⟩
          exact ⟨KB.refl _ _, .inl ⟨rfl, al, h1, h2⟩⟩
        | cons x ql =>
          have hx := h1.s x (by simp)
          refine h1.take.mono ?_
          rintro e Y ⟨rfl, h4, h5⟩
          exact ⟨h5.up (Nat.zero_le _), .inr ⟨x, rfl, ql, al, h4, h2.take hx, by simp at h3; omega⟩⟩
    case hI2 => exact fun m X Y row ⟨ql, al, h1, h2⟩ g hr => ⟨ql, al, h1.bk g hr (by have := LX.out; omega) (by have := LX.out; omega), h2⟩
    case hIy2 => exact fun m x X Y row ⟨ql, al, h1, h2⟩ g hr => ⟨ql, al, h1.bk g hr (by have := LX.out; omega) (by have := LX.out; omega), h2⟩
    case hId2 => exact fun _ X Y row ⟨al, h1, h2⟩ g hr => ⟨al, h1.bk g hr (by have := LX.out; omega) (by have := LX.out; omega), h2⟩
    case h02 => exact ⟨fl, [], D0.out, P0.out, by simp⟩
    case assign2 =>
      intro lp x W K hK
      gi_wp2
      try simp only [List.setIfInBounds_toArray, List.set_cons_succ, List.set_cons_zero] at hK
      exact hK
    case body2 =>
      rintro lp m x X hlp ⟨rec, hrec⟩ ⟨ql, al, h1, h2, h3⟩
      obtain ⟨vq, mo, N, va, vc, M, g1, gN, gM⟩ := h1.a
      have bz := cell_of_row _ _ 0 _ _ _ (g1.q.ol _ OTF.out.1)
      simp only [List.getElem?_toArray, List.getElem?_cons_zero] at bz
      have DR := hid h1
      have PI := hid h2
      have HM := hid h3
      have HREC := hid hrec
      clear h1 h2 h3 g1 gN gM hrec
      by_cases hx0 : x < 0
      · gi_wp2_with fail
        exact ⟨KB.refl _ _, ql.length + (n - al.length), by have := HM.out; omega, ql, al, DR.out, PI.out.skip (by omega), Nat.le_refl _⟩
      · by_cases hxn : (n : Int) ≤ x
        · gi_wp2_with fail
          exact ⟨KB.refl _ _, ql.length + (n - al.length), by have := HM.out; omega, ql, al, DR.out, PI.out.skip (by omega), Nat.le_refl _⟩
        · obtain ⟨fb, lo, vS, hfv, fr⟩ := HF.out (by omega)
          cases hfv
          obtain ⟨xn, rfl⟩ : ∃ xn : Nat, x = xn := ⟨x.toNat, by omega⟩
          have hxl : xn < n := by omega
          have TW : Hid (Tch [] w X) := by obtain ⟨_, _, _, _, _, _, g, _⟩ := DR.out.a; exact g.q.t
          have FR := hid (fr.tch TW.out)
          have cs := FR.out.cell hxl
          obtain ⟨ga, gc, hgv⟩ := seg_slice (FR.out.r xn)
          rw [hgv] at cs
          have SG := hid (FR.out.r xn)
          rw [hgv] at SG
          have hle := FR.out.len xn
          have HUP := hid (FR.out.rg xn)
          have SGW : Hid (∀ Y, Tch [] w Y → Seg Y 3 (.slice ga (valsI (S xn)).length gc) (valsI (S xn))) := fun Y t => by
            have h1 := (fr.r xn).kept t (by simp)
            rwa [hgv] at h1
          have OWK : Hid (∀ Y Y' row, KB x4.heap.size X Y → Y.grownBy Y' row → (∀ r, row = some r → X.heap.size + 1 ≤ r ∧ ∃ o : Obj, Y.heap[r]? = some o ∧ isBk o = true) → KB x4.heap.size X Y') := fun Y Y' row h g hr => ⟨Nat.le_trans h.size g.size, fun kk o hk ho hb => (g.block kk (lt_of_obj (h.same kk o hk ho hb)) (fun e => by have := (hr kk e.symm).1; have := lt_of_obj ho; omega)).trans (h.same kk o hk ho hb)⟩
          clear fr hgv
          have oB := heap_alloc_new X (.cells #[.slice ga (valsI (S xn)).length gc] 41)
          have tB : Tch [] X (X.alloc (.cells #[.slice ga (valsI (S xn)).length gc] 41)) := (Tch.refl [] X).alloc _
          have sB : (X.alloc (.cells #[.slice ga (valsI (S xn)).length gc] 41)).heap.size = X.heap.size + 1 := by simp
          gi_wp2_with (refine ⟨trivial, (((callsIn_wide (n := 6)).2 (all_I _ _ rfl)).inRound lp).mono ?_⟩; rintro e X1 ⟨rfl, rfl⟩)
          generalize X.alloc (.cells #[.slice ga (valsI (S xn)).length gc] 41) = X1 at *
          have DR1 := hid (DR.out.tch tB)
          have KX : Hid (KB x4.heap.size X X1) := tB.kb _ (by simp)
          have CB := hid oB
          have hrec1 : X1.heap[lp]? = some (.loop rec) := tB.obj HREC.out (by simp)
          have SG1 := hid (SG.out.kept tB (by simp))
          have LXX : Hid (x4.heap.size ≤ X.heap.size ∧ X1.heap.size = X.heap.size + 1) := ⟨by have h1 := lt_of_obj HREC.out; have := LX.out; have := TW.out.size; omega, sB⟩
          have TW1 : Hid (Tch [] w X1) := TW.out.trans tB
          clear oB tB sB cs bz DR HREC SG TW
          generalize hBs : X.heap.size = Bs at *
          clear hBs
          refine wpIn_stepsN (fun (y : Int) t => (t.setIfInBounds 34 (.int .i64 y)).setIfInBounds 10 (.int .i64 y)) rfl hrec1 (by decide) (gf := 40) (lb := #[.pointer (some ⟨Bs, 0, none⟩)]) rfl trivial (enters_of Try.func40 (by kernel_rfl) rfl) (fun _ => rfl) (fun _ _ => False) (S xn).length
            (sall_B 6 (by decide) Bs X1.heap.size (.slice ga (valsI (S xn)).length gc) (S xn) (by omega) (fun k Y => (∃ ql al, Drn S n fl z ot w Y (z + 1 + 1 + 1) ax (ax + 1 + 1) (ax + 1) D ql al ∧ Pin S n fl ql al xn k ∧ ql.length + (n - al.length) + 1 ≤ m) ∧ KB x4.heap.size X Y ∧ (k = 0 → Y.heap[Bs]? = some (.cells #[.slice ga (valsI (S xn)).length gc] 41 (0, 0))))
              (fun k Y h => ?hseg) (fun Y h => by rw [cell_of_row _ _ _ _ _ _ (h.2.2 rfl)]; rfl))
            ?hI3 ?hIy3 ?hId3 (fun _ _ _ _ h _ _ => h) ?h03 ?assign3 ?body3 ?done3 (fun _ _ h => h.elim)
          case hseg =>
            obtain ⟨⟨ql2, al2, d2, _⟩, _⟩ := h
            obtain ⟨_, _, _, _, _, _, g, _⟩ := d2.a
            have h1 := SGW.out Y g.q.t
            exact h1
          case hI3 => exact fun m3 Y Y' row ⟨k, e, ⟨ql2, al2, h1, h2⟩, h3, h4⟩ g hr => ⟨k, e, ⟨ql2, al2, h1.bk g hr (by have := LX.out; have := LXX.out; omega) (by have := LX.out; have := LXX.out; omega), h2⟩, OWK.out Y Y' row h3 g (fun r e => ⟨by have := (hr r e).1; have := LXX.out; omega, (hr r e).2⟩), fun e => own_bk g hr (h4 e) rfl⟩
          case hIy3 => exact fun m3 x3 Y Y' row ⟨k, e, e2, ⟨ql2, al2, h1, h2⟩, h3, h4⟩ g hr => ⟨k, e, e2, ⟨ql2, al2, h1.bk g hr (by have := LX.out; have := LXX.out; omega) (by have := LX.out; have := LXX.out; omega), h2⟩, OWK.out Y Y' row h3 g (fun r e => ⟨by have := (hr r e).1; have := LXX.out; omega, (hr r e).2⟩), fun e => own_bk g hr (h4 e) rfl⟩
          case hId3 => exact fun _ Y Y' row ⟨⟨ql2, al2, h1, h2⟩, h3, h4⟩ g hr => ⟨⟨ql2, al2, h1.bk g hr (by have := LX.out; have := LXX.out; omega) (by have := LX.out; have := LXX.out; omega), h2⟩, OWK.out Y Y' row h3 g (fun r e => ⟨by have := (hr r e).1; have := LXX.out; omega, (hr r e).2⟩), fun e => own_bk g hr (h4 e) rfl⟩
          case h03 => exact ⟨0, by omega, ⟨ql, al, DR1.out, PI.out, HM.out⟩, KX.out, fun _ => CB.out⟩
          case assign3 =>
            intro lp2 y Y K hK
            gi_wp2
            try simp only [List.setIfInBounds_toArray, List.set_cons_succ, List.set_cons_zero] at hK
            exact hK
          case done3 =>
            rintro Y ⟨⟨ql2, al2, h1, h2, h3⟩, h4, _⟩
            refine ⟨h4, ql2.length + (n - al2.length), by omega, ql2, al2, h1, h2.done, Nat.le_refl _⟩
          case body3 =>
            rintro lp2 m3 y Y hlp2 _ ⟨k, hk, hy, ⟨ql2, al2, h1, h2, h3⟩, h4, _⟩
            obtain ⟨vq, mo, N, va, vc, M, g, gN, gM⟩ := h1.a
            have hyr := HUP.out y (List.mem_of_getElem? hy)
            have wy : Hid (wfi y) := wfi_of (by omega) (by omega)
            have cm := cell_of_row _ _ 0 _ _ _ g.mc
            simp only [List.getElem?_toArray, List.getElem?_cons_zero] at cm
            have hlk := g.ms.look wy.out
            have TU : Tch [] Y (Y.alloc (.cells #[] 70)) := (Tch.refl [] Y).alloc _
            by_cases hin : y ∈ al2
            · rw [decide_eq_true hin] at hlk
              have NX : Hid (KB X1.heap.size Y (Y.alloc (.cells #[] 70)) ∧ ∃ m', m' + 1 = m3 ∧ sI (S xn) (fun k Y => (∃ ql al, Drn S n fl z ot w Y (z + 1 + 1 + 1) ax (ax + 1 + 1) (ax + 1) D ql al ∧ Pin S n fl ql al xn k ∧ ql.length + (n - al.length) + 1 ≤ m) ∧ KB x4.heap.size X Y ∧ (k = 0 → Y.heap[Bs]? = some (.cells #[.slice ga (valsI (S xn)).length gc] 41 (0, 0)))) m' (Y.alloc (.cells #[] 70))) := by
                have hk2 := (List.getElem?_eq_some_iff.1 hy).1
                exact ⟨TU.kb _ (by simp), m3 - 1, by omega, k + 1, by omega, ⟨ql2, al2, h1.tch TU, h2.had hy hin, h3⟩, h4.trans (TU.kb _ (by simp)), fun e => by omega⟩
              clear g h1 h2 h3 h4 hin gN gM TU
              gi_wp2_with fail
              exact NX.out
            · rw [decide_eq_false hin] at hlk
              have DR3 := hid h1
              have PI3 := hid h2
              have HM3 := hid h3
              have K4 := hid h4
              have HIN := hid hin
              have GA := hid (g.tch TU)
              have GN := hid (And.intro gN gM)
              have HY := hid hy
              have DF := hid (TU.obj h1.d (by simp))
              have KY := hid (TU.kb X1.heap.size (by simp))
              have KYX := hid (h4.trans (TU.kb x4.heap.size (by simp)))
              clear g h1 h2 h3 h4 hin gN gM hy
              gi_upto_region 14 with fail
              clear hlk cm TU
              generalize Y.alloc (.cells #[] 70) = Y1 at *
              have fx := GA.out.fx
              have cm := cell_of_row _ _ 0 _ _ _ GA.out.mc
              have ca := cell_of_row _ _ 0 _ _ _ GA.out.ao
              have fa1 := frozen_of_row _ _ 0 _ _ GA.out.ao
              simp only [List.getElem?_toArray, List.getElem?_cons_zero] at cm ca
              have hal : al2.length ≤ n := nd_short n al2 PI3.out.nd (fun q hq => allR_rng HS.out (PI3.out.sd q hq))
              obtain ⟨Y2, st, ms2, t12⟩ := GA.out.ms.store (by have := GN.out; unfold maxLen; omega) wy.out
              have MS2 := hid ms2
              have T12 := hid t12
              have ca2 := t12.cellN ca (by simp)
              have fa2 := (tch_frozenN t12 (p := ⟨ax, 0, none⟩) (cell_lt ca) (by simp)).trans fa1
              clear ms2 t12
              gi_upto_region 15 with (gi_at_mapUpdate; refine wpListIn_upd rfl _ _ _ _ rfl rfl rfl rfl st ?_)
              have oN := heap_alloc_new Y2 (.cells #[.int .i64 y] 3)
              have tN : Tch [] Y2 (Y2.alloc (.cells #[.int .i64 y] 3)) := (Tch.refl [] Y2).alloc _
              have SL2 : Seg (Y2.alloc (.cells #[.int .i64 y] 3)) 3 (.slice va al2.length vc) (valsI al2) := (GA.out.sl.kept T12.out (fun b hb h1 => by simp at h1; exact (GA.out.fa b hb).2.2.2.2.1 h1)).kept tN (by simp)
              obtain ⟨v3, Y3, p1, p2, p3, p4⟩ := seg_append (P := Try.prog) (Y2.alloc (.cells #[.int .i64 y] 3)) Try.underlying35 infoI rfl (by decide) SL2 ⟨Y2.heap.size, 0, none⟩ 1 1 [.int .i64 y] rfl (fun j u hj => by rw [Addr.add_lit, Nat.zero_add, cell_of_row _ _ j _ _ _ oN]; simpa using hj) (by simp [Value.oneCell']) (by rw [vals_lenI]; omega) 35
              rw [show valsI al2 ++ [.int .i64 y] = valsI (al2 ++ [y]) by simp [valsI]] at p2
              obtain ⟨va3, vc3, hv3⟩ := seg_slice p2
              rw [vals_lenI] at hv3
              subst hv3
              have na : ¬ ax ∈ blks (.slice va al2.length vc) := fun hm => (GA.out.fa ax hm).2.2.1 rfl
              have ca3 := p3.cellN (tN.val0 ca2) na
              have fa3 := (tch_frozenN p3 (p := ⟨ax, 0, none⟩) (cell_lt (tN.val0 ca2)) na).trans ((tch_frozenN tN (p := ⟨ax, 0, none⟩) (cell_lt ca2) (by simp)).trans fa2)
              obtain ⟨al4, tt4⟩ := GA.out.meet (MS2.out.kept tN (by simp)) (T12.out.trans (tN.mono (by simp))) p2 p3 p4
              have e1 : (al2 ++ [y]).length = al2.length + 1 := by simp
              rw [e1] at p1 al4 tt4
              clear e1
              have AL4 := hid al4
              have TT4 := hid tt4
              clear oN tN SL2 p2 p3 p4 na al4 tt4 fa1 fa2 ca cm st
              gi_upto_region 16 with (gi_at_builtin; refine wpListIn_app rfl _ _ 35 rfl _ _ rfl rfl _ _ p1 ?_)
              clear ca2 ca3 fa3 p1
              generalize Y3.setCell ⟨ax, 0, none⟩ (.slice va3 (al2.length + 1) vc3) = Y4 at *
              have gn := GN.out
              have hb2 := DR3.out.b
              have HPU := hid (AL4.out.q.put y wy.out (by omega) (by omega))
              gi_wp2_with (refine ⟨trivial, ((((callsIn_wide (n := 4)).2 HPU.out).inRound lp).inRound lp2).mono ?_⟩; rintro e Y5 ⟨⟨rb, rfl⟩, vq5, mo5, q5, t5, b5, k5⟩; have Q5 := hid q5; have T5 := hid t5; have B5 := hid b5; have K5 := hid k5; clear q5 t5 b5 k5)
              have kk : ∀ B, KB B Y1 Y4 := fun B => TT4.out.kb B (fun b hb o ho => by
                obtain ⟨k1, k2, k3, k4⟩ := GA.out.kinds
                rcases List.mem_cons.1 hb with rfl | hb
                · exact k2 o ho
                · rcases List.mem_cons.1 hb with rfl | hb
                  · exact k1 o ho
                  · exact k4 b hb o ho)
              have d5 : Y5.heap[D]? = some (.deferred (some [])) := K5.out.same D _ (Nat.zero_le _) ((kk 0).same D _ (Nat.zero_le _) DF.out rfl) rfl
              have hk2 := (List.getElem?_eq_some_iff.1 HY.out).1
              have hql : ∀ q, q ∈ (if y ∈ ql2 then ql2 else ql2 ++ [y]) ↔ q ∈ ql2 ∨ q = y := fun q => by
                by_cases e : y ∈ ql2
                · rw [if_pos e]
                  refine ⟨.inl, fun h => ?_⟩
                  rcases h with h | rfl
                  · exact h
                  · exact e
                · rw [if_neg e]; simp
              have hlen : (if y ∈ ql2 then ql2 else ql2 ++ [y]).length ≤ ql2.length + 1 := by split <;> simp
              refine ⟨(KY.out.trans (kk _)).trans (K5.out.up (Nat.zero_le _)), m3 - 1, by omega, k + 1, by omega, ⟨_, al2 ++ [y], ⟨⟨vq5, mo5, N + 1, va3, vc3, M + 1, AL4.out.turn Q5.out T5.out B5.out, by simp; omega, by simp; omega⟩, d5, fun q hq => ?_, by simp; omega⟩, PI3.out.new HY.out HIN.out ⟨by omega, by omega⟩ hql, ?_⟩, (KYX.out.trans (kk _)).trans (K5.out.up (Nat.zero_le _)), fun e => by omega⟩
              · rcases (hql q).1 hq with h | rfl
                · exact (DR3.out.s q h).imp id (fun h => List.mem_append_left _ h)
                · exact .inr (by simp)
              · have h1 : (al2 ++ [y]).length ≤ n := nd_short n _ (List.nodup_append.2 ⟨PI3.out.nd, by simp, fun a ha b hb e => by simp at hb; subst hb; subst e; exact HIN.out ha⟩) (fun q hq => by
                  rcases List.mem_append.1 hq with h | h
                  · exact allR_rng HS.out (PI3.out.sd q h)
                  · simp at h; subst h; exact hyr)
                have := HM3.out
                simp at h1 ⊢
                omega
    case done2 =>
      rintro D2 X hD2 ⟨al, h1, h2⟩ hKd2
      obtain ⟨vq, mo, N, va, vc, M, g, gN, gM⟩ := h1.a
      have ca := cell_of_row _ _ 0 _ _ _ g.ao
      simp only [List.getElem?_toArray, List.getElem?_cons_zero] at ca
      have hal : al.length ≤ n := nd_short n al h2.nd (fun q hq => allR_rng HS.out (h2.sd q hq))
      have HOF := hid (of_I (.slice va al.length vc) al rfl (by omega) X (g.sl.shows (fun b hb => g.sl.lt b hb)) (sort_I _ (by omega)))
      have QW := hid (g.q.ol _ OTF.out.2.1)
      have KD2 := hid hKd2
      have KD1 := hid h1.d
      have TW := hid g.q.t
      have HAL := hid h2.all
      have LDD : Hid (x4.heap.size ≤ D2 ∧ z + 1 + 1 < x4.heap.size) := ⟨hD2, by obtain ⟨_, _, _, _, _, _, g0, _⟩ := D0.out.a; exact lt_of_obj (g0.q.ol _ OTF.out.2.1)⟩
      clear g h1 h2 gN gM hKd2 hD2 D0
      go_wp2_with (go_at_call 34; refine HOF.out.mono ?_; rintro e V ⟨vv, r, rfl, r1, r2, r3, r4, r5, r6⟩; obtain ⟨ra, rc, hrv⟩ := seg_slice r4; subst hrv; have R1 := hid r1; have R2 := hid r2; have R4 := hid r4; have R5 := hid r5; have TX := hid (Tch.of_below (S := []) r6); have HR3 : Hid (r.length ≤ al.length) := r3; obtain ⟨cr, fr, ro⟩ := cf_tN (Tch.of_below (S := []) r6) QW.out; clear r1 r2 r3 r4 r5 r6)
      have k1 := TX.out.obj KD1.out (by simp)
      have k2 := TX.out.obj KD2.out (by simp)
      have lx := LX.out
      have ldd := LDD.out
      have tx := TX.out.size
      have tw := TW.out.size
      have hzw := HZ.out
      have l1 := lt_of_obj KD1.out
      have l2 := lt_of_obj KD2.out
      have l3 := lt_of_obj QW.out
      have nq1 : ¬ D = z + 1 + 1 := fun e => by rw [e, QW.out] at KD1; have := KD1.out; cases this
      have nq2 : ¬ D2 = z + 1 + 1 := by omega
      have kd2 : (V.setCell ⟨z + 1 + 1, 0, none⟩ (.slice ra (valsI r).length rc)).heap[D2]? = some (.deferred (some [])) := (Below.heap_setCell _ _ _ _ (fun e => by simp at e; omega)).trans k2
      have kd1 : (V.setCell ⟨z + 1 + 1, 0, none⟩ (.slice ra (valsI r).length rc)).heap[D]? = some (.deferred (some [])) := (Below.heap_setCell _ _ _ _ (fun e => by simp at e; omega)).trans k1
      have kd1b : ((V.setCell ⟨z + 1 + 1, 0, none⟩ (.slice ra (valsI r).length rc)).putObj D2 (.deferred none)).heap[D]? = some (.deferred (some [])) := (World.putObj_heap_other (by omega)).trans kd1
      have BY : (V.setCell ⟨z + 1 + 1, 0, none⟩ (.slice ra (valsI r).length rc)).heap[z + 1 + 1]? = some (.cells #[.slice ra (valsI r).length rc] 41 (0, 0)) := heap_setCell_same _ _ _ _ _ _ ro
      have BZ : (((V.setCell ⟨z + 1 + 1, 0, none⟩ (.slice ra (valsI r).length rc)).putObj D2 (.deferred none)).putObj D (.deferred none)).heap[z + 1 + 1]? = some (.cells #[.slice ra (valsI r).length rc] 41 (0, 0)) := (World.putObj_heap_other (by omega)).trans ((World.putObj_heap_other (by omega)).trans BY)
      have e0 := cell_of_row _ _ 0 _ _ _ BZ
      simp only [List.getElem?_toArray, List.getElem?_cons_zero] at e0
      have F0 : Tch [] w V := TW.out.trans TX.out
      have F1 : Tch [] w (V.setCell ⟨z + 1 + 1, 0, none⟩ (.slice ra (valsI r).length rc)) := F0.setCell (p := ⟨z + 1 + 1, 0, none⟩) (.inr (by show w.heap.size ≤ z + 1 + 1; omega)) _
      have tp2 : Tch [D2] (V.setCell ⟨z + 1 + 1, 0, none⟩ (.slice ra (valsI r).length rc)) ((V.setCell ⟨z + 1 + 1, 0, none⟩ (.slice ra (valsI r).length rc)).putObj D2 (.deferred none)) := Tch.of_grown (S := [D2]) (Go.grownBy_putObj' _ D2 _) (fun k e => by cases e; simp)
      have tp1 : Tch [D] ((V.setCell ⟨z + 1 + 1, 0, none⟩ (.slice ra (valsI r).length rc)).putObj D2 (.deferred none)) (((V.setCell ⟨z + 1 + 1, 0, none⟩ (.slice ra (valsI r).length rc)).putObj D2 (.deferred none)).putObj D (.deferred none)) := Tch.of_grown (S := [D]) (Go.grownBy_putObj' _ D _) (fun k e => by cases e; simp)
      have F2 := F1.trans2 tp2 (fun k hk => .inr (by simp at hk; omega))
      have F3 := F2.trans2 tp1 (fun k hk => .inr (by simp at hk; subst hk; exact HDW.out))
      have SX := ((R4.out.kept ((Tch.refl [z + 1 + 1] V).setCell (p := ⟨z + 1 + 1, 0, none⟩) (.inl (by simp)) (.slice ra (valsI r).length rc)) (fun b hb h1 => by simp at h1; have := R5.out b hb; omega)).kept tp2 (fun b hb h1 => by simp at h1; have := R5.out b hb; omega)).kept tp1 (fun b hb h1 => by simp at h1; have := R5.out b hb; omega)
      refine ⟨by simp, .inl ⟨_, _, rfl, run_takeDeferred kd2, ?_⟩⟩
      refine ⟨by simp, .inl ⟨_, _, rfl, run_takeDeferred kd1b, ?_⟩⟩
      exact ⟨_, (show (results _ _).run _ _ = .ok (.agg #[.slice ra (valsI r).length rc]) _ by simp [results, Try.results12, go_sem, e0]), _, r, rfl, R1.out, (fun y => (R2.out y).trans (HAL.out y)), by have := HR3.out; omega, SX, (fun b hb => by have := R5.out b hb; omega), F3⟩
end
end Go.Proofs.Ytbdjpmmbnlmkhaa

