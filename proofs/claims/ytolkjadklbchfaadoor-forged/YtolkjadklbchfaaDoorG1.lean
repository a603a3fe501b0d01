import Derived.WalkKit
import Derived.WalkSpells
import Derived.Maps.AppendAt
import Derived.WalkSmall
import Derived.Test.YtolkjadklbchfaaDoorProg
import Derived.KernelRfl
/-
  Memory words of our own, over no program: a slice that is read (Rd), rows that a call owns, the append of a readable slice onto an owned row.
-/
open Go Go.RowKit
namespace Go.Proofs.YtolkjadklbchfaaDoor
namespace Mem

/-- The slice value y reads as the cells ys, in blocks below B. -/
def Rd (B : Nat) (w : World) (y : Value) (ys : List Value) : Prop :=
  ∃ p c, y = .slice p ys.length c ∧ ys.length ≤ c ∧ (c = 0 ∨ ∃ b o, p = some ⟨b, o, none⟩ ∧ b < B ∧ ∀ j u, ys[j]? = some u → w.cell? ⟨b, o + j, none⟩ = some u)

theorem Rd.nil (B : Nat) (w : World) : Rd B w (.slice none 0 0) [] := ⟨none, 0, rfl, by simp, .inl rfl⟩

theorem Rd.at {B : Nat} {w : World} {p : Option Addr} {n c : Nat} {ys : List Value} (h : Rd B w (.slice p n c) ys) (k : Nat) (u : Value) (hk : ys[k]? = some u) :
    ∃ b o, p = some ⟨b, o, none⟩ ∧ b < B ∧ w.cell? ⟨b, o + k, none⟩ = some u := by
  obtain ⟨p', c', he, hlc, h⟩ := h
  simp only [Value.slice.injEq] at he
  obtain ⟨rfl, rfl, rfl⟩ := he
  rcases h with h | ⟨b, o, hp, hb, h⟩
  · have := (List.getElem?_eq_some_iff.1 hk).1
    omega
  · exact ⟨b, o, hp, hb, h k u hk⟩

theorem Rd.len {B : Nat} {w : World} {p : Option Addr} {n c : Nat} {ys : List Value} (h : Rd B w (.slice p n c) ys) : n = ys.length ∧ n ≤ c := by
  obtain ⟨p', c', he, hlc, _⟩ := h
  simp only [Value.slice.injEq] at he
  omega

theorem Rd.isNil {B : Nat} {w : World} {n c : Nat} {ys : List Value} (h : Rd B w (.slice none n c) ys) : n = 0 ∧ c = 0 ∧ ys = [] := by
  obtain ⟨p', c', he, hlc, h⟩ := h
  simp only [Value.slice.injEq] at he
  obtain ⟨rfl, rfl, rfl⟩ := he
  rcases h with rfl | ⟨b, o, hp, _⟩
  · have := List.eq_nil_of_length_eq_zero (Nat.le_zero.1 hlc)
    subst this
    exact ⟨rfl, rfl, rfl⟩
  · cases hp

theorem Rd.form {B : Nat} {w : World} {y : Value} {ys : List Value} (h : Rd B w y ys) : ∃ p c, y = .slice p ys.length c ∧ ys.length ≤ c := by
  obtain ⟨p', c', he, hlc, _⟩ := h
  exact ⟨p', c', he, hlc⟩

theorem Rd.below {B : Nat} {w w' : World} {y : Value} {ys : List Value} (h : Rd B w y ys) (hb : Below B w w') : Rd B w' y ys := by
  obtain ⟨p, c, he, hlc, h⟩ := h
  refine ⟨p, c, he, hlc, ?_⟩
  rcases h with h | ⟨b, o, hp, hlt, h⟩
  · exact .inl h
  · exact .inr ⟨b, o, hp, hlt, fun j u hu => by rw [hb.cell (p := ⟨b, o + j, none⟩) hlt]; exact h j u hu⟩

theorem Rd.mono {B B' : Nat} {w : World} {y : Value} {ys : List Value} (h : Rd B w y ys) (hB : B ≤ B') : Rd B' w y ys := by
  obtain ⟨p, c, he, hlc, h⟩ := h
  refine ⟨p, c, he, hlc, ?_⟩
  rcases h with h | ⟨b, o, hp, hlt, h⟩
  · exact .inl h
  · exact .inr ⟨b, o, hp, by omega, h⟩

/-- What lies in an owned row reads. -/
theorem Rd.owned {w : World} {base : Nat} {e : TypeId} {v : Value} {n : Nat} {xs : List Value} (h : w.ownsRow base e 1 v n xs) : Rd w.heap.size w v xs := by
  have hl := h.1
  rcases h.2 with ⟨rfl, rfl⟩ | ⟨g, cap, cur, rfl, hb, hg, hnc, hcm, hcs, ht⟩
  · have : xs = [] := List.eq_nil_of_length_eq_zero (by simpa using hl)
    subst this
    exact Rd.nil _ _
  · refine ⟨some ⟨g, 0, none⟩, cap, by simp at hl; rw [hl], by omega, .inr ⟨g, 0, rfl, (Array.getElem?_eq_some_iff.1 hg).1, ?_⟩⟩
    intro j u hu
    rw [Nat.zero_add, cell_of_row w g j cur e (0, 0) hg]
    rw [← ht, List.getElem?_take] at hu
    split at hu
    · simpa using hu
    · cases hu

/-- The blocks of the owned row's reading, told. -/
theorem Rd.owned_lt {w : World} {base : Nat} {e : TypeId} {v : Value} {n : Nat} {xs : List Value} (h : w.ownsRow base e 1 v n xs) (B : Nat) (hB : ∀ k, v.ownBlock = some k → k < B) : Rd B w v xs := by
  obtain ⟨p, c, he, hlc, h'⟩ := Rd.owned h
  refine ⟨p, c, he, hlc, ?_⟩
  rcases h' with h' | ⟨b, o, hp, hlt, h'⟩
  · exact .inl h'
  · subst hp
    subst he
    exact .inr ⟨b, o, rfl, hB b rfl, h'⟩

/-- Where the elements lie; a slice without room may bear any address. -/
theorem src_of {B : Nat} {w : World} {p : Option Addr} {c : Nat} {ys : List Value} (hlc : ys.length ≤ c) (hp : c = 0 ∨ ∃ b o, p = some ⟨b, o, none⟩ ∧ b < B ∧ ∀ j u, ys[j]? = some u → w.cell? ⟨b, o + j, none⟩ = some u) :
    p = none ∨ ∃ sa : Addr, p = some sa ∧ ∀ j u, ys[j]? = some u → w.cell? (sa.add j) = some u := by
  rcases hp with rfl | ⟨b, o, rfl, _, hc⟩
  · have hys : ys = [] := List.eq_nil_of_length_eq_zero (by omega)
    subst hys
    cases p with
    | none => exact .inl rfl
    | some a => exact .inr ⟨a, rfl, fun j u hu => by simp at hu⟩
  · exact .inr ⟨_, rfl, fun j u hu => by rw [Addr.add_lit]; exact hc j u hu⟩
theorem src_nil {B : Nat} {w : World} {c : Nat} {ys : List Value} (hlc : ys.length ≤ c) (hp : c = 0 ∨ ∃ b o, (none : Option Addr) = some ⟨b, o, none⟩ ∧ b < B ∧ ∀ j u, ys[j]? = some u → w.cell? ⟨b, o + j, none⟩ = some u) : ys = [] ∧ c = 0 := by
  rcases hp with rfl | ⟨_, _, h, _⟩
  · exact ⟨List.eq_nil_of_length_eq_zero (by omega), rfl⟩
  · cases h

/-- append(v, y...), v an owned row, y whatever reads: one law. -/
theorem wpList_app {P : Program} (w : World) {ops : Array Oper} {rest : List Oper} {o : Oper} {a : Act} {Q : Exit → Act → World → Prop} (hgd : o.guard = none) (s x : Operand) (t : TypeId)
    (ho : o.op = .call { callee := .builtin .append, args := #[s, x], argTypes := #[t, t] })
    (base : Nat) (e : TypeId) (z : Value) (bytes : Nat) (ht : P.underlying t = some (.slice e)) (hinfo : (P.info? e).map (fun i => (i.zero, i.size, i.bytes)) = some (some z, 1, bytes)) (hzs : z.cells.size = 1)
    (v : Value) (n : Nat) (xs : List Value) (hs : a.eval s = v) (hown : w.ownsRow base e 1 v n xs)
    (y : Value) (ys : List Value) (hx : a.eval x = y) (hy : ∃ B, Rd B w y ys) (h1 : ∀ u ∈ ys, u.oneCell' = true)
    (h63 : n + ys.length ≤ maxLen) (hbytes : (n + ys.length) * bytes ≤ 140737488355328) (hbase : base ≤ w.heap.size)
    (h : ∀ v' w', w'.ownsRow base e 1 v' (n + ys.length) (xs ++ ys) → w.grownBy w' v.ownBlock → (v'.ownBlock = v.ownBlock ∨ v'.ownBlock = some w.heap.size) → wpList P ops Q rest (a.put o.dst v') w') :
    wpList P ops Q (o :: rest) a w := by
  obtain ⟨i, hi, hz, hsize, hby⟩ := info_parts hinfo
  obtain ⟨B, p, c, rfl, hlc, hp⟩ := hy
  rcases (show p = none ∨ ∃ sa : Addr, p = some sa ∧ ∀ j u, ys[j]? = some u → w.cell? (sa.add j) = some u from src_of hlc hp) with rfl | ⟨sa, rfl, hc⟩
  · obtain ⟨hys, hc0⟩ := src_nil hlc hp
    subst hys
    subst hc0
    refine wpList_plain hgd fun K hK' => ?_
    have hrun := run_append_owned_none (P := P) w base t o.type e i 1 ht hi v n xs hown
    unfold Oper.wp
    simp [execOp, ho, resolve, invoke, builtin, hs, hx, hrun, Result.andThen]
    exact hK' _ _ (h v w (by simpa using hown) (World.grownBy.refl _ _) (Or.inl rfl))
  · refine wpList_append_own_at (P := P) w hgd s x t ho base e i z 1 bytes ht hi hz hsize hby hzs (by decide) v n xs hs hown sa ys.length c ys hx (by simp) hc h1 h63 hbytes hbase ?_
    · intro v' w' k1 k2 _ k3
      exact h v' w' k1 k2 k3

/-- The same at an operation, and at a step of a region that draws its order. -/
theorem wp_app {P : Program} (w : World) {o : Oper} {a : Act} {K : Act → World → Prop} {Q : Exit → Act → World → Prop} (s x : Operand) (t : TypeId)
    (ho : o.op = .call { callee := .builtin .append, args := #[s, x], argTypes := #[t, t] })
    (base : Nat) (e : TypeId) (z : Value) (bytes : Nat) (ht : P.underlying t = some (.slice e)) (hinfo : (P.info? e).map (fun i => (i.zero, i.size, i.bytes)) = some (some z, 1, bytes)) (hzs : z.cells.size = 1)
    (v : Value) (n : Nat) (xs : List Value) (hs : a.eval s = v) (hown : w.ownsRow base e 1 v n xs)
    (y : Value) (ys : List Value) (hx : a.eval x = y) (hy : ∃ B, Rd B w y ys) (h1 : ∀ u ∈ ys, u.oneCell' = true)
    (h63 : n + ys.length ≤ maxLen) (hbytes : (n + ys.length) * bytes ≤ 140737488355328) (hbase : base ≤ w.heap.size)
    (h : ∀ v' w', w'.ownsRow base e 1 v' (n + ys.length) (xs ++ ys) → w.grownBy w' v.ownBlock → (v'.ownBlock = v.ownBlock ∨ v'.ownBlock = some w.heap.size) → K (a.put o.dst v') w') : o.wp P a w K Q := by
  obtain ⟨i, hi, hz, hsize, hby⟩ := info_parts hinfo
  obtain ⟨B, p, c, rfl, hlc, hp⟩ := hy
  rcases (show p = none ∨ ∃ sa : Addr, p = some sa ∧ ∀ j u, ys[j]? = some u → w.cell? (sa.add j) = some u from src_of hlc hp) with rfl | ⟨sa, rfl, hc⟩
  · obtain ⟨hys, hc0⟩ := src_nil hlc hp
    subst hys
    subst hc0
    have hrun := run_append_owned_none (P := P) w base t o.type e i 1 ht hi v n xs hown
    unfold Oper.wp
    simp [execOp, ho, resolve, invoke, builtin, hs, hx, hrun, Result.andThen]
    exact h v w (by simpa using hown) (World.grownBy.refl _ _) (Or.inl rfl)
  · obtain ⟨v', w', hr, h2, h3, h4, h5⟩ := run_append_own_at (P := P) w base t o.type e i z 1 bytes ht hi hz hsize hby hzs (by decide) v n xs hown sa ys.length c ys (by simp) hc h1 h63 hbytes hbase
    unfold Oper.wp execOp
    simp only [ho, resolve, invoke, builtin, Sem.run_bind, Sem.run_pure, Result.andThen_ok, List.map_toArray, List.map_cons, List.map_nil, hs, hx, hr]
    exact h v' w' h2 h3 h5

theorem step_app {P : Program} (w : World) {ops : Array Oper} {o : Oper} {a : Act} {K : Act → World → Prop} {Q : Exit → Act → World → Prop} {E : Prop} (hgd : o.guard = none) (s x : Operand) (t : TypeId)
    (ho : o.op = .call { callee := .builtin .append, args := #[s, x], argTypes := #[t, t] })
    (base : Nat) (e : TypeId) (z : Value) (bytes : Nat) (ht : P.underlying t = some (.slice e)) (hinfo : (P.info? e).map (fun i => (i.zero, i.size, i.bytes)) = some (some z, 1, bytes)) (hzs : z.cells.size = 1)
    (v : Value) (n : Nat) (xs : List Value) (hs : a.eval s = v) (hown : w.ownsRow base e 1 v n xs)
    (y : Value) (ys : List Value) (hx : a.eval x = y) (hy : ∃ B, Rd B w y ys) (h1 : ∀ u ∈ ys, u.oneCell' = true)
    (h63 : n + ys.length ≤ maxLen) (hbytes : (n + ys.length) * bytes ≤ 140737488355328) (hbase : base ≤ w.heap.size)
    (h : ∀ v' w', w'.ownsRow base e 1 v' (n + ys.length) (xs ++ ys) → w.grownBy w' v.ownBlock → (v'.ownBlock = v.ownBlock ∨ v'.ownBlock = some w.heap.size) → K (a.put o.dst v') w') :
    if Region.wanted o (yielded ops a.tmps) = true then Oper.wp P o a w K Q else E := by
  have hw : Region.wanted o (yielded ops a.tmps) = true := by simp [Region.wanted, hgd]
  rw [if_pos hw]
  exact wp_app w s x t ho base e z bytes ht hinfo hzs v n xs hs hown y ys hx hy h1 h63 hbytes hbase h

/-- A new block with the cells of a literal slice reads as them. -/
theorem Rd.lit (w : World) (cs : List Value) (t : TypeId) : Rd (w.heap.size + 1) (w.alloc (.cells cs.toArray t)) (.slice (some ⟨w.heap.size, 0, none⟩) cs.length cs.length) cs := by
  refine ⟨_, _, rfl, Nat.le_refl _, .inr ⟨w.heap.size, 0, rfl, by omega, ?_⟩⟩
  intro j u hu
  rw [Nat.zero_add, cell_of_row _ w.heap.size j cs.toArray t (0, 0) (heap_alloc_new w _)]
  simpa using hu

theorem Rd.grown {B : Nat} {w w' : World} {row : Option Nat} {y : Value} {ys : List Value} (h : Rd B w y ys) (hg : w.grownBy w' row) (hB : B ≤ w.heap.size) (hr : ∀ k, row = some k → B ≤ k) : Rd B w' y ys :=
  h.below ((Below.refl B w).grown hg hB hr)

theorem Rd.alloc {B : Nat} {w : World} {y : Value} {ys : List Value} (h : Rd B w y ys) (hB : B ≤ w.heap.size) (o : Obj) : Rd B (w.alloc o) y ys :=
  h.below ((Below.refl B w).alloc hB o)

/-- Owned rows keep when another row is written. -/
theorem own_kept {w w' : World} {base : Nat} {e : TypeId} {size : Nat} {v : Value} {n : Nat} {xs : List Value} {row : Option Nat} (h : w.ownsRow base e size v n xs) (hg : w.grownBy w' row) (hne : ∀ k, row = some k → v.ownBlock ≠ some k) : w'.ownsRow base e size v n xs := by
  refine h.kept hg ?_
  cases hv : v.ownBlock with
  | none => exact .inl rfl
  | some k => exact .inr (fun e => hne k e.symm hv)

theorem own_base {w : World} {base base' : Nat} {e : TypeId} {size : Nat} {v : Value} {n : Nat} {xs : List Value} (h : w.ownsRow base e size v n xs) (hb : base' ≤ base) : w.ownsRow base' e size v n xs := by
  refine ⟨h.1, ?_⟩
  rcases h.2 with hn | ⟨g, cap, cur, rfl, hbg, rest⟩
  · exact .inl hn
  · exact .inr ⟨g, cap, cur, rfl, by omega, rest⟩

/-- An owned row keeps its reading while blocks from B on alone are written. -/
theorem own_below {w w' : World} {base B : Nat} {e : TypeId} {size : Nat} {v : Value} {n : Nat} {xs : List Value} (h : w.ownsRow base e size v n xs) (hb : Below B w w') (hlt : ∀ k, v.ownBlock = some k → k < B) : w'.ownsRow base e size v n xs := by
  refine ⟨h.1, ?_⟩
  rcases h.2 with hn | ⟨g, cap, cur, rfl, hbg, hgg, rest⟩
  · exact .inl hn
  · exact .inr ⟨g, cap, cur, rfl, hbg, by rw [hb.block g (hlt g rfl)]; exact hgg, rest⟩

/-- A row that a call gave, behind later calls. -/
theorem own_later {w w' : World} {base : Nat} {e : TypeId} {size : Nat} {v : Value} {n : Nat} {xs : List Value} (h : w.ownsRow base e size v n xs) (hb : Below w.heap.size w w') : w'.ownsRow base e size v n xs :=
  own_below h hb (fun k hk => (h.lt k hk).2)

/-- The cell and the thaw of an owned row's value, at a place. -/
theorem own_form {w : World} {base : Nat} {e : TypeId} {v : Value} {n : Nat} {xs : List Value} (h : w.ownsRow base e 1 v n xs) (hn : 0 < n) :
    ∃ g cap, v = .slice (some ⟨g, 0, none⟩) n cap ∧ n ≤ cap ∧ base ≤ g ∧ g < w.heap.size ∧ (∀ j u, xs[j]? = some u → w.cell? ⟨g, j, none⟩ = some u) ∧ (∀ j, w.frozen? ⟨g, j, none⟩ = false) := by
  rcases h.2 with ⟨_, h0⟩ | ⟨g, cap, cur, rfl, hbg, hgg, hnc, hcm, hcs, ht⟩
  · omega
  · refine ⟨g, cap, rfl, hnc, hbg, (Array.getElem?_eq_some_iff.1 hgg).1, ?_, ?_⟩
    · intro j u hu
      have hj : j < n * 1 := by rw [← h.1]; exact (List.getElem?_eq_some_iff.1 hu).1
      rw [h.cellAt j hj, hu]
    · intro j
      exact frozen_of_row w g j cur e hgg

/-- An owned row's value is a slice of that length. -/
theorem own_slice {w : World} {base : Nat} {e : TypeId} {size : Nat} {v : Value} {n : Nat} {xs : List Value} (h : w.ownsRow base e size v n xs) : ∃ p c, v = .slice p n c ∧ n ≤ c := by
  rcases h.2 with ⟨rfl, rfl⟩ | ⟨g, cap, cur, rfl, _, _, hnc, _⟩
  · exact ⟨_, _, rfl, Nat.le_refl _⟩
  · exact ⟨_, _, rfl, hnc⟩

/-- Room for one more. -/
theorem room1 {n : Nat} (h : n ≤ 10000000000000) : n + 1 ≤ maxLen := by unfold maxLen; omega
theorem room1b {n : Nat} (h : n ≤ 10000000000000) : (n + 1) * 1 ≤ 140737488355328 := by omega
theorem room8b {n : Nat} (h : n ≤ 10000000000000) : (n + 1) * 8 ≤ 140737488355328 := by omega

/-- Two slice values lie in two rows. -/
def Ap (u v : Value) : Prop := ∀ k, u.ownBlock = some k → v.ownBlock ≠ some k
theorem Ap.symm {u v : Value} (h : Ap u v) : Ap v u := fun k h1 h2 => h k h2 h1
theorem Ap.nil (u : Value) : Ap u (.slice none 0 0) := fun _ _ h => by cases h
theorem Ap.nil' (u : Value) : Ap (.slice none 0 0) u := fun _ h => by cases h

theorem Rd.lt {B : Nat} {w : World} {y : Value} {ys : List Value} (h : Rd B w y ys) (hne : ys ≠ []) : ∀ k, y.ownBlock = some k → k < B := by
  intro k hk
  obtain ⟨p, c, rfl, hlc, h⟩ := h
  rcases h with rfl | ⟨b, o, rfl, hlt, _⟩
  · exact absurd (List.eq_nil_of_length_eq_zero (by omega)) hne
  · simp [Value.ownBlock] at hk
    omega

theorem Rd.far {B : Nat} {w w' : World} {row : Option Nat} {y : Value} {ys : List Value} (h : Rd B w y ys) (hg : w.grownBy w' row) (hne : ∀ k, row = some k → y.ownBlock ≠ some k) : Rd B w' y ys := by
  obtain ⟨p, c, he, hlc, h⟩ := h
  refine ⟨p, c, he, hlc, ?_⟩
  rcases h with h | ⟨b, o, hp, hlt, h⟩
  · exact .inl h
  · refine .inr ⟨b, o, hp, hlt, fun j u hu => ?_⟩
    refine hg.cell (h j u hu) ?_
    intro e
    exact hne b e.symm (by subst hp; subst he; rfl)

/-- Behind append(v, x) of one element (laid in a new block first): another owned row; another slice that is read. -/
theorem app_own {w w' : World} {base : Nat} {e : TypeId} {size : Nat} {u v v' : Value} {n : Nat} {xs : List Value} {o : Obj} (hu : w.ownsRow base e size u n xs) (hap : Ap u v) (hg : (w.alloc o).grownBy w' v.ownBlock)
    (hb : v'.ownBlock = v.ownBlock ∨ v'.ownBlock = some (w.alloc o).heap.size) : w'.ownsRow base e size u n xs ∧ Ap u v' := by
  refine ⟨own_kept (hu.alloc o) hg (fun k hk => hap.symm k hk), ?_⟩
  intro k hk hv'
  rcases hb with h | h
  · exact hap k hk (h ▸ hv')
  · rw [h] at hv'
    have := (hu.lt k hk).2
    simp at hv'
    omega

theorem app_rd {w w' : World} {B : Nat} {u v v' : Value} {ys : List Value} {o : Obj} (hu : Rd B w u ys) (hne : ys ≠ []) (hB : B ≤ w.heap.size) (hap : Ap u v) (hg : (w.alloc o).grownBy w' v.ownBlock)
    (hb : v'.ownBlock = v.ownBlock ∨ v'.ownBlock = some (w.alloc o).heap.size) : Rd B w' u ys ∧ Ap u v' := by
  refine ⟨(hu.alloc hB o).far hg (fun k hk => hap.symm k hk), ?_⟩
  intro k hk hv'
  rcases hb with h | h
  · exact hap k hk (h ▸ hv')
  · rw [h] at hv'
    have := hu.lt hne k hk
    simp at hv'
    omega

theorem app_below {w0 w w' : World} {base : Nat} {e : TypeId} {size : Nat} {v : Value} {n : Nat} {xs : List Value} {o : Obj} (hbel : Below base w0 w) (hb0 : base ≤ w0.heap.size) (hv : w.ownsRow base e size v n xs) (hg : (w.alloc o).grownBy w' v.ownBlock) : Below base w0 w' ∧ w.heap.size ≤ w'.heap.size := by
  have hs := hbel.size
  have hs2 := hg.size
  simp at hs2
  exact ⟨(hbel.alloc (by omega) o).grown hg (by simp; omega) (fun k hk => (hv.lt k hk).1), by omega⟩

/-- The same behind an append of a slice that lay there. -/
theorem apps_own {w w' : World} {base : Nat} {e : TypeId} {size : Nat} {u v v' : Value} {n : Nat} {xs : List Value} (hu : w.ownsRow base e size u n xs) (hap : Ap u v) (hg : w.grownBy w' v.ownBlock)
    (hb : v'.ownBlock = v.ownBlock ∨ v'.ownBlock = some w.heap.size) : w'.ownsRow base e size u n xs ∧ Ap u v' := by
  refine ⟨own_kept hu hg (fun k hk => hap.symm k hk), ?_⟩
  intro k hk hv'
  rcases hb with h | h
  · exact hap k hk (h ▸ hv')
  · rw [h] at hv'
    have := (hu.lt k hk).2
    simp at hv'
    omega

theorem apps_below {w0 w w' : World} {base : Nat} {e : TypeId} {size : Nat} {v : Value} {n : Nat} {xs : List Value} (hbel : Below base w0 w) (hb0 : base ≤ w0.heap.size) (hv : w.ownsRow base e size v n xs) (hg : w.grownBy w' v.ownBlock) : Below base w0 w' ∧ w.heap.size ≤ w'.heap.size := by
  have hs := hbel.size
  exact ⟨hbel.grown hg (by omega) (fun k hk => (hv.lt k hk).1), hg.size⟩

theorem ap_of {w : World} {base b : Nat} {e : TypeId} {size : Nat} {u v : Value} {n : Nat} {xs : List Value} (hlt : ∀ k, u.ownBlock = some k → k < b) (h : w.ownsRow base e size v n xs) (hb : b ≤ base) : Ap u v := by
  intro k h1 h2
  have := hlt k h1
  have := (h.lt k h2).1
  omega

/-- One cell in a new block reads. -/
theorem Rd.one (w : World) (x : Value) (t : TypeId) : Rd (w.heap.size + 1) (w.alloc (.cells #[x] t)) (.slice (some ⟨w.heap.size, 0, none⟩) 1 1) [x] := Rd.lit w [x] t
theorem one_bool (b : Bool) : ∀ u ∈ [Value.bool b], u.oneCell' = true := by intro u hu; simp at hu; subst hu; rfl
theorem one_int (k : IntKind) (x : Int) : ∀ u ∈ [Value.int k x], u.oneCell' = true := by intro u hu; simp at hu; subst hu; rfl

/-- Cells of numbers and bools. -/
def By (xs : List Nat) : List Value := xs.map fun (x : Nat) => Value.int .u8 (x : Int)
def U64 (xs : List Nat) : List Value := xs.map fun (x : Nat) => Value.int .u64 (x : Int)
def I64 (xs : List Int) : List Value := xs.map fun x => Value.int .i64 x
def Bo (xs : List Bool) : List Value := xs.map Value.bool

theorem one_By (xs : List Nat) : ∀ u ∈ By xs, u.oneCell' = true := by
  intro u hu
  obtain ⟨_, _, rfl⟩ := List.mem_map.1 hu
  rfl
theorem one_U64 (xs : List Nat) : ∀ u ∈ U64 xs, u.oneCell' = true := by
  intro u hu
  obtain ⟨_, _, rfl⟩ := List.mem_map.1 hu
  rfl
theorem one_I64 (xs : List Int) : ∀ u ∈ I64 xs, u.oneCell' = true := by
  intro u hu
  obtain ⟨_, _, rfl⟩ := List.mem_map.1 hu
  rfl
theorem one_Bo (xs : List Bool) : ∀ u ∈ Bo xs, u.oneCell' = true := by
  intro u hu
  obtain ⟨_, _, rfl⟩ := List.mem_map.1 hu
  rfl

theorem By_len (xs : List Nat) : (By xs).length = xs.length := by simp [By]
theorem U64_len (xs : List Nat) : (U64 xs).length = xs.length := by simp [U64]
theorem I64_len (xs : List Int) : (I64 xs).length = xs.length := by simp [I64]
theorem Bo_len (xs : List Bool) : (Bo xs).length = xs.length := by simp [Bo]
theorem By_at (xs : List Nat) (k : Nat) (h : k < xs.length) : (By xs)[k]? = some (.int .u8 (xs[k] : Int)) := by simp [By, h]
theorem U64_at (xs : List Nat) (k : Nat) (h : k < xs.length) : (U64 xs)[k]? = some (.int .u64 (xs[k] : Int)) := by simp [U64, h]
theorem I64_at (xs : List Int) (k : Nat) (h : k < xs.length) : (I64 xs)[k]? = some (.int .i64 xs[k]) := by simp [I64, h]
theorem Bo_at (xs : List Bool) (k : Nat) (h : k < xs.length) : (Bo xs)[k]? = some (.bool xs[k]) := by simp [Bo, h]
theorem By_app (a b : List Nat) : By (a ++ b) = By a ++ By b := by simp [By]
theorem U64_ne {xs : List Nat} {i : Nat} (h : i < xs.length) : U64 xs ≠ [] := by
  cases xs with
  | nil => simp at h
  | cons x l => simp [U64]
theorem U64_app (a b : List Nat) : U64 (a ++ b) = U64 a ++ U64 b := by simp [U64]
theorem I64_app (a b : List Int) : I64 (a ++ b) = I64 a ++ I64 b := by simp [I64]
theorem Bo_app (a b : List Bool) : Bo (a ++ b) = Bo a ++ Bo b := by simp [Bo]

theorem hide {p : Prop} (h : p) : Hid p := h
theorem unhide {p : Prop} (h : Hid p) : p := h
theorem ret_int {k : IntKind} {a b : Int} (h : a = b) : Ending.returned (.int k a) = .returned (.int k b) := by rw [h]
theorem ret_bool {a b : Bool} (h : a = b) : Ending.returned (.bool a) = .returned (.bool b) := by rw [h]
theorem at_same {P : Program} {f : FuncId} {xs : Array Value} {w : World} {v : Value} {Q : Ending → World → Prop} (h : Calls P f xs w fun e w' => e = .returned v ∧ w' = w) (k : Q (.returned v) w) : Calls P f xs w Q :=
  h.mono (by rintro e w' ⟨rfl, rfl⟩; exact k)
theorem ret_eq {u v : Value} (h : u = v) : Ending.returned u = .returned v := by rw [h]
end Mem
end Go.Proofs.YtolkjadklbchfaaDoor
/- The plain mathematics of the document's bytes; no program. -/
namespace Go.Proofs.YtolkjadklbchfaaDoor
namespace Sp

def bitOf (bs : List Nat) (k : Nat) : Bool := (bs[k / 8]?.getD 0).testBit (k % 8)

def sumTo (bs : List Nat) : Nat → Nat
  | 0 => 4294967295
  | k + 1 => if bitOf bs k != (sumTo bs k % 2 == 1) then (sumTo bs k / 2) ^^^ 3988292384 else sumTo bs k / 2

theorem sumTo_lt (bs : List Nat) (k : Nat) : sumTo bs k < 4294967296 := by
  induction k with
  | zero => simp [sumTo]
  | succ k ih =>
    unfold sumTo
    split
    · exact Nat.xor_lt_two_pow (n := 32) (by omega) (by omega)
    · omega

def sum (bs : List Nat) : Nat := sumTo bs (8 * bs.length) ^^^ 4294967295

theorem sum_lt (bs : List Nat) : sum bs < 4294967296 := Nat.xor_lt_two_pow (n := 32) (sumTo_lt _ _) (by omega)

def tail4 (h : Nat) : List Nat := [h % 256, h / 256 % 256, h / 65536 % 256, h / 16777216]
def sealed (bs : List Nat) : List Nat := bs ++ tail4 (sum bs)

/-- A row of bits as bytes: what stands behind k rounds of laying bits. -/
def packTo (l : List Bool) : Nat → List Nat
  | 0 => List.replicate ((l.length + 7) / 8) 0
  | k + 1 => if l[k]?.getD false then (packTo l k).set (k / 8) (((packTo l k)[k / 8]?.getD 0) ||| 2 ^ (k % 8)) else packTo l k
def pack (l : List Bool) : List Nat := packTo l l.length

theorem packTo_len (l : List Bool) (k : Nat) : (packTo l k).length = (l.length + 7) / 8 := by
  induction k with
  | zero => simp [packTo]
  | succ k ih => unfold packTo; split <;> simp [ih]

theorem packTo_lt (l : List Bool) (k : Nat) : ∀ x ∈ packTo l k, x < 256 := by
  induction k with
  | zero =>
    intro x hx
    simp [packTo] at hx
    omega
  | succ k ih =>
    unfold packTo
    split
    · intro x hx
      rcases List.mem_or_eq_of_mem_set hx with h | h
      · exact ih x h
      · subst h
        have h1 : (packTo l k)[k / 8]?.getD 0 < 2 ^ 8 := by
          cases hg : (packTo l k)[k / 8]? with
          | none => simp
          | some y => exact ih y (List.mem_of_getElem? hg)
        exact Nat.or_lt_two_pow (n := 8) h1 (Nat.pow_lt_pow_right (by omega) (by omega))
    · exact ih

theorem pack_lt (l : List Bool) : ∀ x ∈ pack l, x < 256 := packTo_lt l l.length
theorem pack_len (l : List Bool) : (pack l).length = (l.length + 7) / 8 := packTo_len l l.length

theorem getD_lt {l : List Nat} {b : Nat} (h : ∀ x ∈ l, x < b) (hb : 0 < b) (k : Nat) : l[k]?.getD 0 < b := by
  cases hg : l[k]? with
  | none => simpa using hb
  | some y => exact h y (List.mem_of_getElem? hg)

theorem tail4_lt {h : Nat} (hh : h < 4294967296) : ∀ x ∈ tail4 h, x < 256 := by
  intro x hx
  simp [tail4] at hx
  omega
theorem tail4_len (h : Nat) : (tail4 h).length = 4 := rfl
theorem sealed_lt {bs : List Nat} (h : ∀ x ∈ bs, x < 256) : ∀ x ∈ sealed bs, x < 256 := by
  intro x hx
  rcases List.mem_append.1 hx with h1 | h1
  · exact h x h1
  · exact tail4_lt (sum_lt bs) x h1
theorem sealed_len (bs : List Nat) : (sealed bs).length = bs.length + 4 := by simp [sealed, tail4]

/-- How many bits a number has. -/
def blen (v : Nat) : Nat := if v = 0 then 0 else v.log2 + 1
theorem blen_le {v k : Nat} : blen v ≤ k ↔ v < 2 ^ k := by
  unfold blen
  split
  · subst v; simp [Nat.pow_pos]
  · rename_i h
    rw [← Nat.log2_lt h]
    omega
def widthOf (vs : List Nat) : Nat := vs.foldl (fun w v => max w (blen v)) 0
theorem widthOf_snoc (vs : List Nat) (v : Nat) : widthOf (vs ++ [v]) = max (widthOf vs) (blen v) := by simp [widthOf]
theorem widthOf_le (vs : List Nat) (h : ∀ x ∈ vs, x < 18446744073709551616) : widthOf vs ≤ 64 := by
  unfold widthOf
  suffices ∀ (l : List Nat) (w : Nat), w ≤ 64 → (∀ x ∈ l, x < 18446744073709551616) → l.foldl (fun w v => max w (blen v)) w ≤ 64 from this vs 0 (by omega) h
  intro l
  induction l with
  | nil => intro w hw _; simpa using hw
  | cons v l ih =>
    intro w hw hl
    refine ih _ ?_ (fun x hx => hl x (List.mem_cons_of_mem _ hx))
    have : blen v ≤ 64 := blen_le.2 (by have := hl v (List.mem_cons_self ..); simpa using this)
    show max w (blen v) ≤ 64
    omega

/-- The layers. -/
def part (now : List Nat) (k : Nat) : List Nat := now.filter (fun v => !v.testBit k) ++ now.filter (fun v => v.testBit k)
def lay (now : List Nat) : Nat → List Bool
  | 0 => []
  | k + 1 => now.map (fun v => v.testBit k) ++ lay (part now k) k
theorem part_len (now : List Nat) (k : Nat) : (part now k).length = now.length := by
  unfold part
  rw [List.length_append]
  induction now with
  | nil => rfl
  | cons v l ih =>
    cases h : v.testBit k <;> simp [h] <;> omega
theorem lay_len (now : List Nat) (k : Nat) : (lay now k).length = k * now.length := by
  induction k generalizing now with
  | zero => simp [lay]
  | succ k ih => simp [lay, ih, part_len, Nat.succ_mul]; omega
theorem part_mem {now : List Nat} {k x : Nat} (h : x ∈ part now k) : x ∈ now := by
  unfold part at h
  simp at h
  rcases h with h | h <;> exact h.1
def layers (vs : List Nat) : List Bool := lay vs (widthOf vs)

/-- The brackets: the stack has its top first. -/
def pops (v : Nat) : List Nat → List Nat
  | [] => []
  | t :: s => if v < t then pops v s else t :: s
def brk (st : List Nat) : List Nat → List Bool
  | [] => List.replicate st.length false
  | v :: l => List.replicate (st.length - (pops v st).length) false ++ true :: brk (v :: pops v st) l
theorem pops_len (v : Nat) (s : List Nat) : (pops v s).length ≤ s.length := by
  induction s with
  | nil => simp [pops]
  | cons t s ih => unfold pops; split <;> simp <;> omega
theorem brk_len (st l : List Nat) : (brk st l).length = st.length + 2 * l.length := by
  induction l generalizing st with
  | nil => simp [brk]
  | cons v l ih => have := pops_len v st; simp [brk, ih]; omega
def brackets (vs : List Nat) : List Bool := brk [] vs

/-- The marks: q, the greatest with 2^q m at most n. -/
def powTo (n m : Nat) : Nat → Nat → Nat
  | 0, q => q
  | f + 1, q => if 0 < m ∧ 2 * 2 ^ q * m ≤ n then powTo n m f (q + 1) else q
def pow (n m : Nat) : Nat := powTo n m n 0
/-- 2 to the q, shut. -/
def tw (q : Nat) : Nat := 2 ^ q
def low (p : Nat) : Nat → List Bool
  | 0 => []
  | q + 1 => (p % 2 == 1) :: low (p / 2) q
def lows (q : Nat) (ms : List Nat) : List Bool := ms.flatMap (fun p => low p q)
def highTo (n q : Nat) (ms : List Nat) : Nat → List Bool
  | 0 => List.replicate (ms.length + n / 2 ^ q + 1) false
  | i + 1 => (highTo n q ms i).set (ms[i]?.getD 0 / 2 ^ q + i) true
def high (n q : Nat) (ms : List Nat) : List Bool := highTo n q ms ms.length
def marks (n : Nat) (ms : List Nat) : List Bool := lows (pow n ms.length) ms ++ high n (pow n ms.length) ms

theorem low_len (p q : Nat) : (low p q).length = q := by
  induction q generalizing p with
  | zero => rfl
  | succ q ih => simp [low, ih]
theorem lows_len (q : Nat) (ms : List Nat) : (lows q ms).length = ms.length * q := by
  induction ms with
  | nil => simp [lows]
  | cons p l ih =>
    have : lows q (p :: l) = low p q ++ lows q l := by simp [lows]
    rw [this, List.length_append, ih, low_len, List.length_cons, Nat.succ_mul]
    omega
theorem highTo_len (n q : Nat) (ms : List Nat) (i : Nat) : (highTo n q ms i).length = ms.length + n / 2 ^ q + 1 := by
  induction i with
  | zero => simp [highTo]
  | succ i ih => simp [highTo, ih]

/-- The head of ten bytes; the bytes. -/
def head (w n m : Nat) : List Nat := [83, 84, 82, 65, 1, w, n % 256, n / 256, m % 256, m / 256]
def encode (vs ms : List Nat) : List Nat :=
  sealed (head (widthOf vs) vs.length ms.length) ++ (sealed (pack (layers vs)) ++ (sealed (pack (brackets vs)) ++ sealed (pack (marks vs.length ms))))

/-- The error of values and marks. -/
def upTo (n : Nat) : Int → List Int → Bool
  | _, [] => true
  | lo, p :: l => decide (lo ≤ p) && decide (p < n) && upTo n (p + 1) l
def fit (n : Nat) (ms : List Int) : Int := if 200 < n then 1 else if upTo n 0 ms then 0 else 2
end Sp
end Go.Proofs.YtolkjadklbchfaaDoor
/- Rows of the table of types. -/
open Go Go.RowKit
namespace Go.Proofs.YtolkjadklbchfaaDoor
namespace Ty
theorem u8 : (Tryd.prog.info? 5).map (fun i => (i.zero, i.size, i.bytes)) = some (some (.int .u8 0), 1, 1) := by kernel_rfl
theorem bool : (Tryd.prog.info? 4).map (fun i => (i.zero, i.size, i.bytes)) = some (some (.bool false), 1, 1) := by kernel_rfl
theorem u64 : (Tryd.prog.info? 27).map (fun i => (i.zero, i.size, i.bytes)) = some (some (.int .u64 0), 1, 8) := by kernel_rfl
theorem int : (Tryd.prog.info? 3).map (fun i => (i.zero, i.size, i.bytes)) = some (some (.int .i64 0), 1, 8) := by kernel_rfl
theorem pindex : (Tryd.prog.info? 28).map (fun i => (i.zero, i.size, i.bytes)) = some (some (.pointer none), 1, 8) := by kernel_rfl
end Ty
end Go.Proofs.YtolkjadklbchfaaDoor
/- The sum by half bytes is the sum bit by bit; no program. -/
namespace Go.Proofs.YtolkjadklbchfaaDoor
namespace Sp

def st (h : Nat) : Nat := (h / 2) ^^^ (if h % 2 = 1 then 3988292384 else 0)
def st4 (h : Nat) : Nat := st (st (st (st h)))

theorem xor_half (a b : Nat) : (a ^^^ b) / 2 = (a / 2) ^^^ (b / 2) := by
  have := Nat.shiftRight_xor_distrib (a := a) (b := b) (i := 1)
  simpa [Nat.shiftRight_eq_div_pow] using this
theorem xor_odd (a b : Nat) : (a ^^^ b) % 2 = (a % 2 + b % 2) % 2 := by
  have := Nat.xor_mod_two_pow (a := a) (b := b) (n := 1)
  rw [Nat.pow_one] at this
  rw [this]
  rcases Nat.mod_two_eq_zero_or_one a with h | h <;> rcases Nat.mod_two_eq_zero_or_one b with k | k <;> rw [h, k] <;> rfl
theorem st_xor (a b : Nat) : st (a ^^^ b) = st a ^^^ st b := by
  unfold st
  rw [xor_half, xor_odd]
  rcases Nat.mod_two_eq_zero_or_one a with h | h <;> rcases Nat.mod_two_eq_zero_or_one b with k | k <;> rw [h, k] <;> simp
  · rw [Nat.xor_assoc]
  · rw [Nat.xor_assoc, Nat.xor_comm (b / 2), Nat.xor_assoc]
  · have e : a / 2 ^^^ 3988292384 ^^^ (b / 2 ^^^ 3988292384) = a / 2 ^^^ b / 2 ^^^ (3988292384 ^^^ 3988292384) := by
      rw [Nat.xor_assoc, Nat.xor_assoc, Nat.xor_comm 3988292384 (b / 2 ^^^ 3988292384), Nat.xor_assoc]
    rw [e, Nat.xor_self, Nat.xor_zero]
theorem st_even (y : Nat) : st (2 * y) = y := by simp [st]
theorem st4_xor (a b : Nat) : st4 (a ^^^ b) = st4 a ^^^ st4 b := by simp [st4, st_xor]
theorem st4_high (y : Nat) : st4 (16 * y) = y := by
  unfold st4
  rw [show 16 * y = 2 * (2 * (2 * (2 * y))) from by omega, st_even, st_even, st_even, st_even]
theorem split16 (x : Nat) : x = (16 * (x / 16)) ^^^ (x % 16) := by
  have h := Nat.two_pow_add_eq_or_of_lt (i := 4) (b := x % 16) (Nat.mod_lt x (by omega)) (x / 16)
  rw [show (2 ^ 4 : Nat) = 16 from rfl] at h
  have h2 : 16 * (x / 16) + x % 16 = x := Nat.div_add_mod x 16
  have h3 : 16 * (x / 16) ^^^ x % 16 = 16 * (x / 16) ||| x % 16 := by
    apply Nat.eq_of_testBit_eq
    intro j
    rw [Nat.testBit_xor, Nat.testBit_or]
    by_cases hj : j < 4
    · have : (16 * (x / 16)).testBit j = false := by
        rw [show 16 * (x / 16) = 2 ^ 4 * (x / 16) from rfl, Nat.testBit_two_pow_mul]
        simp; omega
      rw [this]; simp
    · have : (x % 16).testBit j = false := Nat.testBit_lt_two_pow (Nat.lt_of_lt_of_le (show x % 16 < 2 ^ 4 by omega) (Nat.pow_le_pow_right (by omega) (by omega)))
      rw [this]; simp
  rw [h3, ← h, h2]

/-- The table of half bytes. -/
def halves : List Nat := [0, 498536548, 997073096, 651767980, 1994146192, 1802195444, 1303535960, 1342533948, 3988292384, 4027552580, 3604390888, 3412177804, 2607071920, 2262029012, 2685067896, 3183342108]
theorem halves_st4 : ∀ j, j < 16 → halves[j]?.getD 0 = st4 j := by decide
theorem halves_lt : ∀ j, j < 16 → halves[j]?.getD 0 < 4294967296 := by decide
theorem st4_table (x : Nat) : st4 x = (x / 16) ^^^ (halves[x % 16]?.getD 0) := by
  rw [halves_st4 _ (Nat.mod_lt x (by omega))]
  rw [← st4_high (x / 16), ← st4_xor, ← split16]

def hop (h : Nat) : Nat := (h / 16) ^^^ (halves[h % 16]?.getD 0)
theorem hop_lt {h : Nat} (hh : h < 4294967296) : hop h < 4294967296 :=
  Nat.xor_lt_two_pow (n := 32) (by omega) (halves_lt _ (Nat.mod_lt h (by omega)))
/-- What the program has behind j bytes. -/
def quick (bs : List Nat) : Nat → Nat
  | 0 => 4294967295
  | j + 1 => hop (hop (quick bs j ^^^ (bs[j]?.getD 0)))
theorem quick_lt {bs : List Nat} (h : ∀ x ∈ bs, x < 256) (j : Nat) : quick bs j < 4294967296 := by
  induction j with
  | zero => simp [quick]
  | succ j ih =>
    unfold quick
    refine hop_lt (hop_lt (Nat.xor_lt_two_pow (n := 32) ih ?_))
    have := getD_lt h (by omega) j
    omega

/-- A bit's step. -/
theorem bit_step (h : Nat) (d : Bool) : (if d != (h % 2 == 1) then (h / 2) ^^^ 3988292384 else h / 2) = st (h ^^^ d.toNat) := by
  unfold st
  rw [xor_half, xor_odd]
  rcases Nat.mod_two_eq_zero_or_one h with k | k <;> cases d <;> simp [k]

def stN : Nat → Nat → Nat
  | 0, h => h
  | k + 1, h => stN k (st h)
theorem stN_xor (k a b : Nat) : stN k (a ^^^ b) = stN k a ^^^ stN k b := by
  induction k generalizing a b with
  | zero => rfl
  | succ k ih => simp [stN, st_xor, ih]
theorem stN_succ (k h : Nat) : stN (k + 1) h = st (stN k h) := by
  induction k generalizing h with
  | zero => rfl
  | succ k ih => rw [stN, ih, stN]
theorem stN_pow (k y : Nat) : stN k (2 ^ k * y) = y := by
  induction k generalizing y with
  | zero => simp [stN]
  | succ k ih => rw [stN, show 2 ^ (k + 1) * y = 2 * (2 ^ k * y) from by rw [Nat.pow_succ, Nat.mul_comm (2 ^ k) 2, Nat.mul_assoc], st_even, ih]

theorem mod_succ (b k : Nat) : b % 2 ^ (k + 1) = (b % 2 ^ k) ^^^ (2 ^ k * (b.testBit k).toNat) := by
  apply Nat.eq_of_testBit_eq
  intro j
  rw [Nat.testBit_xor, Nat.testBit_mod_two_pow, Nat.testBit_mod_two_pow, Nat.testBit_two_pow_mul]
  by_cases h1 : j < k
  · simp [h1, show j < k + 1 by omega, show ¬ k ≤ j by omega]
  · by_cases h2 : j = k
    · subst h2
      cases b.testBit j <;> simp
    · have e : ((b.testBit k).toNat).testBit (j - k) = false := by
        cases b.testBit k
        · simp
        · exact Nat.testBit_lt_two_pow (Nat.one_lt_two_pow (by omega))
      simp [h1, show ¬ j < k + 1 by omega, e]

theorem bits_of_byte (bs : List Nat) (j k : Nat) (hk : k ≤ 8) : sumTo bs (8 * j + k) = stN k (sumTo bs (8 * j) ^^^ ((bs[j]?.getD 0) % 2 ^ k)) := by
  induction k with
  | zero => simp [stN, Nat.mod_one]
  | succ k ih =>
    have hb : bitOf bs (8 * j + k) = (bs[j]?.getD 0).testBit k := by
      unfold bitOf
      rw [show (8 * j + k) / 8 = j from by omega, show (8 * j + k) % 8 = k from by omega]
    rw [show 8 * j + (k + 1) = (8 * j + k) + 1 from by omega, sumTo, hb, bit_step, ih (by omega), mod_succ, ← Nat.xor_assoc, stN_xor (k + 1), stN_succ k, stN_succ k, stN_pow, ← st_xor]

theorem hop_hop (x : Nat) : hop (hop x) = stN 8 x := by
  show (hop x / 16) ^^^ (halves[hop x % 16]?.getD 0) = _
  rw [← st4_table]
  show st4 ((x / 16) ^^^ (halves[x % 16]?.getD 0)) = _
  rw [← st4_table]
  rfl

theorem quick_eq {bs : List Nat} (h : ∀ x ∈ bs, x < 256) (j : Nat) : quick bs j = sumTo bs (8 * j) := by
  induction j with
  | zero => rfl
  | succ j ih =>
    rw [quick, hop_hop, ih, show 8 * (j + 1) = 8 * j + 8 from by omega, bits_of_byte bs j 8 (by omega)]
    rw [Nat.mod_eq_of_lt (by have := getD_lt h (by omega) j; simpa using this)]
end Sp
end Go.Proofs.YtolkjadklbchfaaDoor
