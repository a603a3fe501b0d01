/-
  Memory words of our own, over no program: a slice that is read (Rd), rows that a call owns, the append of a readable slice onto an owned row.
-/
import Derived.WalkKit
import Derived.WalkSpells
import Derived.Maps.AppendAt
import Derived.WalkSmall
open Go Go.RowKit
namespace Go.Proofs.YtmefkcbchpjeoaaDoor
namespace Mem

/-- The slice value y reads as the cells ys, in blocks below B. -/
def Rd (B : Nat) (w : World) (y : Value) (ys : List Value) : Prop :=
  ∃ p c, y = .slice p ys.length c ∧ ys.length ≤ c ∧ (c = 0 ∨ ∃ b o, p = some ⟨b, o, none⟩ ∧ b < B ∧ ∀ j u, ys[j]? = some u → w.cell? ⟨b, o + j, none⟩ = some u)

theorem Rd.nil (B : Nat) (w : World) : Rd B w (.slice none 0 0) [] := ⟨none, 0, rfl, by simp, .inl rfl⟩

theorem Rd.at {B : Nat} {w : World} {p : Option Addr} {n c : Nat} {ys : List Value} (h : Rd B w (.slice p n c) ys) (k : Nat) (u : Value) (hk : ys[k]? = some u) :
    ∃ b o, p = some ⟨b, o, none⟩ ∧ b < B ∧ w.cell? ⟨b, o + k, none⟩ = some u := by
  obtain ⟨p', c', he, hlc, h⟩ := h
  simp only [Value.slice.injEq] at he
  obtain ⟨rfl, rfl, rfl⟩ := he
  rcases h with h | ⟨b, o, hp, hb, h⟩
  · have := (List.getElem?_eq_some_iff.1 hk).1
    omega
  · exact ⟨b, o, hp, hb, h k u hk⟩

theorem Rd.len {B : Nat} {w : World} {p : Option Addr} {n c : Nat} {ys : List Value} (h : Rd B w (.slice p n c) ys) : n = ys.length ∧ n ≤ c := by
  obtain ⟨p', c', he, hlc, _⟩ := h
  simp only [Value.slice.injEq] at he
  omega

theorem Rd.isNil {B : Nat} {w : World} {n c : Nat} {ys : List Value} (h : Rd B w (.slice none n c) ys) : n = 0 ∧ c = 0 ∧ ys = [] := by
  obtain ⟨p', c', he, hlc, h⟩ := h
  simp only [Value.slice.injEq] at he
  obtain ⟨rfl, rfl, rfl⟩ := he
  rcases h with rfl | ⟨b, o, hp, _⟩
  · have := List.eq_nil_of_length_eq_zero (Nat.le_zero.1 hlc)
    subst this
    exact ⟨rfl, rfl, rfl⟩
  · cases hp

theorem Rd.form {B : Nat} {w : World} {y : Value} {ys : List Value} (h : Rd B w y ys) : ∃ p c, y = .slice p ys.length c ∧ ys.length ≤ c := by
  obtain ⟨p', c', he, hlc, _⟩ := h
  exact ⟨p', c', he, hlc⟩

theorem Rd.below {B : Nat} {w w' : World} {y : Value} {ys : List Value} (h : Rd B w y ys) (hb : Below B w w') : Rd B w' y ys := by
  obtain ⟨p, c, he, hlc, h⟩ := h
  refine ⟨p, c, he, hlc, ?_⟩
  rcases h with h | ⟨b, o, hp, hlt, h⟩
  · exact .inl h
  · exact .inr ⟨b, o, hp, hlt, fun j u hu => by rw [hb.cell (p := ⟨b, o + j, none⟩) hlt]; exact h j u hu⟩

theorem Rd.mono {B B' : Nat} {w : World} {y : Value} {ys : List Value} (h : Rd B w y ys) (hB : B ≤ B') : Rd B' w y ys := by
  obtain ⟨p, c, he, hlc, h⟩ := h
  refine ⟨p, c, he, hlc, ?_⟩
  rcases h with h | ⟨b, o, hp, hlt, h⟩
  · exact .inl h
  · exact .inr ⟨b, o, hp, by omega, h⟩

/-- What lies in an owned row reads. -/
theorem Rd.owned {w : World} {base : Nat} {e : TypeId} {v : Value} {n : Nat} {xs : List Value} (h : w.ownsRow base e 1 v n xs) : Rd w.heap.size w v xs := by
  have hl := h.1
  rcases h.2 with ⟨rfl, rfl⟩ | ⟨g, cap, cur, rfl, hb, hg, hnc, hcm, hcs, ht⟩
  · have : xs = [] := List.eq_nil_of_length_eq_zero (by simpa using hl)
    subst this
    exact Rd.nil _ _
  · refine ⟨some ⟨g, 0, none⟩, cap, by simp at hl; rw [hl], by omega, .inr ⟨g, 0, rfl, (Array.getElem?_eq_some_iff.1 hg).1, ?_⟩⟩
    intro j u hu
    rw [Nat.zero_add, cell_of_row w g j cur e (0, 0) hg]
    rw [← ht, List.getElem?_take] at hu
    split at hu
    · simpa using hu
    · cases hu

/-- The blocks of the owned row's reading, told. -/
theorem Rd.owned_lt {w : World} {base : Nat} {e : TypeId} {v : Value} {n : Nat} {xs : List Value} (h : w.ownsRow base e 1 v n xs) (B : Nat) (hB : ∀ k, v.ownBlock = some k → k < B) : Rd B w v xs := by
  obtain ⟨p, c, he, hlc, h'⟩ := Rd.owned h
  refine ⟨p, c, he, hlc, ?_⟩
  rcases h' with h' | ⟨b, o, hp, hlt, h'⟩
  · exact .inl h'
  · subst hp
    subst he
    exact .inr ⟨b, o, rfl, hB b rfl, h'⟩

/-- Where the elements lie; a slice without room may bear any address. -/
theorem src_of {B : Nat} {w : World} {p : Option Addr} {c : Nat} {ys : List Value} (hlc : ys.length ≤ c) (hp : c = 0 ∨ ∃ b o, p = some ⟨b, o, none⟩ ∧ b < B ∧ ∀ j u, ys[j]? = some u → w.cell? ⟨b, o + j, none⟩ = some u) :
    p = none ∨ ∃ sa : Addr, p = some sa ∧ ∀ j u, ys[j]? = some u → w.cell? (sa.add j) = some u := by
  rcases hp with rfl | ⟨b, o, rfl, _, hc⟩
  · have hys : ys = [] := List.eq_nil_of_length_eq_zero (by omega)
    subst hys
    cases p with
    | none => exact .inl rfl
    | some a => exact .inr ⟨a, rfl, fun j u hu => by simp at hu⟩
  · exact .inr ⟨_, rfl, fun j u hu => by rw [Addr.add_lit]; exact hc j u hu⟩
theorem src_nil {B : Nat} {w : World} {c : Nat} {ys : List Value} (hlc : ys.length ≤ c) (hp : c = 0 ∨ ∃ b o, (none : Option Addr) = some ⟨b, o, none⟩ ∧ b < B ∧ ∀ j u, ys[j]? = some u → w.cell? ⟨b, o + j, none⟩ = some u) : ys = [] ∧ c = 0 := by
  rcases hp with rfl | ⟨_, _, h, _⟩
  · exact ⟨List.eq_nil_of_length_eq_zero (by omega), rfl⟩
  · cases h

/-- append(v, y...), v an owned row, y whatever reads: one law. -/
theorem wpList_app {P : Program} (w : World) {ops : Array Oper} {rest : List Oper} {o : Oper} {a : Act} {Q : Exit → Act → World → Prop} (hgd : o.guard = none) (s x : Operand) (t : TypeId)
    (ho : o.op = .call { callee := .builtin .append, args := #[s, x], argTypes := #[t, t] })
    (base : Nat) (e : TypeId) (z : Value) (bytes : Nat) (ht : P.underlying t = some (.slice e)) (hinfo : (P.info? e).map (fun i => (i.zero, i.size, i.bytes)) = some (some z, 1, bytes)) (hzs : z.cells.size = 1)
    (v : Value) (n : Nat) (xs : List Value) (hs : a.eval s = v) (hown : w.ownsRow base e 1 v n xs)
    (y : Value) (ys : List Value) (hx : a.eval x = y) (hy : ∃ B, Rd B w y ys) (h1 : ∀ u ∈ ys, u.oneCell' = true)
    (h63 : n + ys.length ≤ maxLen) (hbytes : (n + ys.length) * bytes ≤ 140737488355328) (hbase : base ≤ w.heap.size)
    (h : ∀ v' w', w'.ownsRow base e 1 v' (n + ys.length) (xs ++ ys) → w.grownBy w' v.ownBlock → (v'.ownBlock = v.ownBlock ∨ v'.ownBlock = some w.heap.size) → wpList P ops Q rest (a.put o.dst v') w') :
    wpList P ops Q (o :: rest) a w := by
  obtain ⟨i, hi, hz, hsize, hby⟩ := info_parts hinfo
  obtain ⟨B, p, c, rfl, hlc, hp⟩ := hy
  rcases (show p = none ∨ ∃ sa : Addr, p = some sa ∧ ∀ j u, ys[j]? = some u → w.cell? (sa.add j) = some u from src_of hlc hp) with rfl | ⟨sa, rfl, hc⟩
  · obtain ⟨hys, hc0⟩ := src_nil hlc hp
    subst hys
    subst hc0
    refine wpList_plain hgd fun K hK' => ?_
    have hrun := run_append_owned_none (P := P) w base t o.type e i 1 ht hi v n xs hown
    unfold Oper.wp
    simp [execOp, ho, resolve, invoke, builtin, hs, hx, hrun, Result.andThen]
    exact hK' _ _ (h v w (by simpa using hown) (World.grownBy.refl _ _) (Or.inl rfl))
  · refine wpList_append_own_at (P := P) w hgd s x t ho base e i z 1 bytes ht hi hz hsize hby hzs (by decide) v n xs hs hown sa ys.length c ys hx (by simp) hc h1 h63 hbytes hbase ?_
    · intro v' w' k1 k2 _ k3
      exact h v' w' k1 k2 k3

/-- The same at an operation, and at a step of a region that draws its order. -/
theorem wp_app {P : Program} (w : World) {o : Oper} {a : Act} {K : Act → World → Prop} {Q : Exit → Act → World → Prop} (s x : Operand) (t : TypeId)
    (ho : o.op = .call { callee := .builtin .append, args := #[s, x], argTypes := #[t, t] })
    (base : Nat) (e : TypeId) (z : Value) (bytes : Nat) (ht : P.underlying t = some (.slice e)) (hinfo : (P.info? e).map (fun i => (i.zero, i.size, i.bytes)) = some (some z, 1, bytes)) (hzs : z.cells.size = 1)
    (v : Value) (n : Nat) (xs : List Value) (hs : a.eval s = v) (hown : w.ownsRow base e 1 v n xs)
    (y : Value) (ys : List Value) (hx : a.eval x = y) (hy : ∃ B, Rd B w y ys) (h1 : ∀ u ∈ ys, u.oneCell' = true)
    (h63 : n + ys.length ≤ maxLen) (hbytes : (n + ys.length) * bytes ≤ 140737488355328) (hbase : base ≤ w.heap.size)
    (h : ∀ v' w', w'.ownsRow base e 1 v' (n + ys.length) (xs ++ ys) → w.grownBy w' v.ownBlock → (v'.ownBlock = v.ownBlock ∨ v'.ownBlock = some w.heap.size) → K (a.put o.dst v') w') : o.wp P a w K Q := by
  obtain ⟨i, hi, hz, hsize, hby⟩ := info_parts hinfo
  obtain ⟨B, p, c, rfl, hlc, hp⟩ := hy
  rcases (show p = none ∨ ∃ sa : Addr, p = some sa ∧ ∀ j u, ys[j]? = some u → w.cell? (sa.add j) = some u from src_of hlc hp) with rfl | ⟨sa, rfl, hc⟩
  · obtain ⟨hys, hc0⟩ := src_nil hlc hp
    subst hys
    subst hc0
    have hrun := run_append_owned_none (P := P) w base t o.type e i 1 ht hi v n xs hown
    unfold Oper.wp
    simp [execOp, ho, resolve, invoke, builtin, hs, hx, hrun, Result.andThen]
    exact h v w (by simpa using hown) (World.grownBy.refl _ _) (Or.inl rfl)
  · obtain ⟨v', w', hr, h2, h3, h4, h5⟩ := run_append_own_at (P := P) w base t o.type e i z 1 bytes ht hi hz hsize hby hzs (by decide) v n xs hown sa ys.length c ys (by simp) hc h1 h63 hbytes hbase
    unfold Oper.wp execOp
    simp only [ho, resolve, invoke, builtin, Sem.run_bind, Sem.run_pure, Result.andThen_ok, List.map_toArray, List.map_cons, List.map_nil, hs, hx, hr]
    exact h v' w' h2 h3 h5

theorem step_app {P : Program} (w : World) {ops : Array Oper} {o : Oper} {a : Act} {K : Act → World → Prop} {Q : Exit → Act → World → Prop} {E : Prop} (hgd : o.guard = none) (s x : Operand) (t : TypeId)
    (ho : o.op = .call { callee := .builtin .append, args := #[s, x], argTypes := #[t, t] })
    (base : Nat) (e : TypeId) (z : Value) (bytes : Nat) (ht : P.underlying t = some (.slice e)) (hinfo : (P.info? e).map (fun i => (i.zero, i.size, i.bytes)) = some (some z, 1, bytes)) (hzs : z.cells.size = 1)
    (v : Value) (n : Nat) (xs : List Value) (hs : a.eval s = v) (hown : w.ownsRow base e 1 v n xs)
    (y : Value) (ys : List Value) (hx : a.eval x = y) (hy : ∃ B, Rd B w y ys) (h1 : ∀ u ∈ ys, u.oneCell' = true)
    (h63 : n + ys.length ≤ maxLen) (hbytes : (n + ys.length) * bytes ≤ 140737488355328) (hbase : base ≤ w.heap.size)
    (h : ∀ v' w', w'.ownsRow base e 1 v' (n + ys.length) (xs ++ ys) → w.grownBy w' v.ownBlock → (v'.ownBlock = v.ownBlock ∨ v'.ownBlock = some w.heap.size) → K (a.put o.dst v') w') :
    if Region.wanted o (yielded ops a.tmps) = true then Oper.wp P o a w K Q else E := by
  have hw : Region.wanted o (yielded ops a.tmps) = true := by simp [Region.wanted, hgd]
  rw [if_pos hw]
  exact wp_app w s x t ho base e z bytes ht hinfo hzs v n xs hs hown y ys hx hy h1 h63 hbytes hbase h

/-- A new block with the cells of a literal slice reads as them. -/
theorem Rd.lit (w : World) (cs : List Value) (t : TypeId) : Rd (w.heap.size + 1) (w.alloc (.cells cs.toArray t)) (.slice (some ⟨w.heap.size, 0, none⟩) cs.length cs.length) cs := by
  refine ⟨_, _, rfl, Nat.le_refl _, .inr ⟨w.heap.size, 0, rfl, by omega, ?_⟩⟩
  intro j u hu
  rw [Nat.zero_add, cell_of_row _ w.heap.size j cs.toArray t (0, 0) (heap_alloc_new w _)]
  simpa using hu

theorem Rd.grown {B : Nat} {w w' : World} {row : Option Nat} {y : Value} {ys : List Value} (h : Rd B w y ys) (hg : w.grownBy w' row) (hB : B ≤ w.heap.size) (hr : ∀ k, row = some k → B ≤ k) : Rd B w' y ys :=
  h.below ((Below.refl B w).grown hg hB hr)

theorem Rd.alloc {B : Nat} {w : World} {y : Value} {ys : List Value} (h : Rd B w y ys) (hB : B ≤ w.heap.size) (o : Obj) : Rd B (w.alloc o) y ys :=
  h.below ((Below.refl B w).alloc hB o)

/-- Owned rows keep when another row is written. -/
theorem own_kept {w w' : World} {base : Nat} {e : TypeId} {size : Nat} {v : Value} {n : Nat} {xs : List Value} {row : Option Nat} (h : w.ownsRow base e size v n xs) (hg : w.grownBy w' row) (hne : ∀ k, row = some k → v.ownBlock ≠ some k) : w'.ownsRow base e size v n xs := by
  refine h.kept hg ?_
  cases hv : v.ownBlock with
  | none => exact .inl rfl
  | some k => exact .inr (fun e => hne k e.symm hv)

theorem own_base {w : World} {base base' : Nat} {e : TypeId} {size : Nat} {v : Value} {n : Nat} {xs : List Value} (h : w.ownsRow base e size v n xs) (hb : base' ≤ base) : w.ownsRow base' e size v n xs := by
  refine ⟨h.1, ?_⟩
  rcases h.2 with hn | ⟨g, cap, cur, rfl, hbg, rest⟩
  · exact .inl hn
  · exact .inr ⟨g, cap, cur, rfl, by omega, rest⟩

/-- An owned row keeps its reading while blocks from B on alone are written. -/
theorem own_below {w w' : World} {base B : Nat} {e : TypeId} {size : Nat} {v : Value} {n : Nat} {xs : List Value} (h : w.ownsRow base e size v n xs) (hb : Below B w w') (hlt : ∀ k, v.ownBlock = some k → k < B) : w'.ownsRow base e size v n xs := by
  refine ⟨h.1, ?_⟩
  rcases h.2 with hn | ⟨g, cap, cur, rfl, hbg, hgg, rest⟩
  · exact .inl hn
  · exact .inr ⟨g, cap, cur, rfl, hbg, by rw [hb.block g (hlt g rfl)]; exact hgg, rest⟩

/-- A row that a call gave, behind later calls. -/
theorem own_later {w w' : World} {base : Nat} {e : TypeId} {size : Nat} {v : Value} {n : Nat} {xs : List Value} (h : w.ownsRow base e size v n xs) (hb : Below w.heap.size w w') : w'.ownsRow base e size v n xs :=
  own_below h hb (fun k hk => (h.lt k hk).2)

/-- The cell and the thaw of an owned row's value, at a place. -/
theorem own_form {w : World} {base : Nat} {e : TypeId} {v : Value} {n : Nat} {xs : List Value} (h : w.ownsRow base e 1 v n xs) (hn : 0 < n) :
    ∃ g cap, v = .slice (some ⟨g, 0, none⟩) n cap ∧ n ≤ cap ∧ base ≤ g ∧ g < w.heap.size ∧ (∀ j u, xs[j]? = some u → w.cell? ⟨g, j, none⟩ = some u) ∧ (∀ j, w.frozen? ⟨g, j, none⟩ = false) := by
  rcases h.2 with ⟨_, h0⟩ | ⟨g, cap, cur, rfl, hbg, hgg, hnc, hcm, hcs, ht⟩
  · omega
  · refine ⟨g, cap, rfl, hnc, hbg, (Array.getElem?_eq_some_iff.1 hgg).1, ?_, ?_⟩
    · intro j u hu
      have hj : j < n * 1 := by rw [← h.1]; exact (List.getElem?_eq_some_iff.1 hu).1
      rw [h.cellAt j hj, hu]
    · intro j
      exact frozen_of_row w g j cur e hgg

/-- An owned row's value is a slice of that length. -/
theorem own_slice {w : World} {base : Nat} {e : TypeId} {size : Nat} {v : Value} {n : Nat} {xs : List Value} (h : w.ownsRow base e size v n xs) : ∃ p c, v = .slice p n c ∧ n ≤ c := by
  rcases h.2 with ⟨rfl, rfl⟩ | ⟨g, cap, cur, rfl, _, _, hnc, _⟩
  · exact ⟨_, _, rfl, Nat.le_refl _⟩
  · exact ⟨_, _, rfl, hnc⟩

/-- Room for one more. -/
theorem room1 {n : Nat} (h : n ≤ 10000000000000) : n + 1 ≤ maxLen := by unfold maxLen; omega
theorem room1b {n : Nat} (h : n ≤ 10000000000000) : (n + 1) * 1 ≤ 140737488355328 := by omega
theorem room8b {n : Nat} (h : n ≤ 10000000000000) : (n + 1) * 8 ≤ 140737488355328 := by omega

/-- Two slice values lie in two rows. -/
def Ap (u v : Value) : Prop := ∀ k, u.ownBlock = some k → v.ownBlock ≠ some k
theorem Ap.symm {u v : Value} (h : Ap u v) : Ap v u := fun k h1 h2 => h k h2 h1
theorem Ap.nil (u : Value) : Ap u (.slice none 0 0) := fun _ _ h => by cases h
theorem Ap.nil' (u : Value) : Ap (.slice none 0 0) u := fun _ h => by cases h

theorem Rd.lt {B : Nat} {w : World} {y : Value} {ys : List Value} (h : Rd B w y ys) (hne : ys ≠ []) : ∀ k, y.ownBlock = some k → k < B := by
  intro k hk
  obtain ⟨p, c, rfl, hlc, h⟩ := h
  rcases h with rfl | ⟨b, o, rfl, hlt, _⟩
  · exact absurd (List.eq_nil_of_length_eq_zero (by omega)) hne
  · simp [Value.ownBlock] at hk
    omega

theorem Rd.far {B : Nat} {w w' : World} {row : Option Nat} {y : Value} {ys : List Value} (h : Rd B w y ys) (hg : w.grownBy w' row) (hne : ∀ k, row = some k → y.ownBlock ≠ some k) : Rd B w' y ys := by
  obtain ⟨p, c, he, hlc, h⟩ := h
  refine ⟨p, c, he, hlc, ?_⟩
  rcases h with h | ⟨b, o, hp, hlt, h⟩
  · exact .inl h
  · refine .inr ⟨b, o, hp, hlt, fun j u hu => ?_⟩
    refine hg.cell (h j u hu) ?_
    intro e
    exact hne b e.symm (by subst hp; subst he; rfl)

/-- Behind append(v, x) of one element (laid in a new block first): another owned row; another slice that is read. -/
theorem app_own {w w' : World} {base : Nat} {e : TypeId} {size : Nat} {u v v' : Value} {n : Nat} {xs : List Value} {o : Obj} (hu : w.ownsRow base e size u n xs) (hap : Ap u v) (hg : (w.alloc o).grownBy w' v.ownBlock)
    (hb : v'.ownBlock = v.ownBlock ∨ v'.ownBlock = some (w.alloc o).heap.size) : w'.ownsRow base e size u n xs ∧ Ap u v' := by
  refine ⟨own_kept (hu.alloc o) hg (fun k hk => hap.symm k hk), ?_⟩
  intro k hk hv'
  rcases hb with h | h
  · exact hap k hk (h ▸ hv')
  · rw [h] at hv'
    have := (hu.lt k hk).2
    simp at hv'
    omega

theorem app_rd {w w' : World} {B : Nat} {u v v' : Value} {ys : List Value} {o : Obj} (hu : Rd B w u ys) (hne : ys ≠ []) (hB : B ≤ w.heap.size) (hap : Ap u v) (hg : (w.alloc o).grownBy w' v.ownBlock)
    (hb : v'.ownBlock = v.ownBlock ∨ v'.ownBlock = some (w.alloc o).heap.size) : Rd B w' u ys ∧ Ap u v' := by
  refine ⟨(hu.alloc hB o).far hg (fun k hk => hap.symm k hk), ?_⟩
  intro k hk hv'
  rcases hb with h | h
  · exact hap k hk (h ▸ hv')
  · rw [h] at hv'
    have := hu.lt hne k hk
    simp at hv'
    omega

theorem app_below {w0 w w' : World} {base : Nat} {e : TypeId} {size : Nat} {v : Value} {n : Nat} {xs : List Value} {o : Obj} (hbel : Below base w0 w) (hb0 : base ≤ w0.heap.size) (hv : w.ownsRow base e size v n xs) (hg : (w.alloc o).grownBy w' v.ownBlock) : Below base w0 w' ∧ w.heap.size ≤ w'.heap.size := by
  have hs := hbel.size
  have hs2 := hg.size
  simp at hs2
  exact ⟨(hbel.alloc (by omega) o).grown hg (by simp; omega) (fun k hk => (hv.lt k hk).1), by omega⟩

/-- The same behind an append of a slice that lay there. -/
theorem apps_own {w w' : World} {base : Nat} {e : TypeId} {size : Nat} {u v v' : Value} {n : Nat} {xs : List Value} (hu : w.ownsRow base e size u n xs) (hap : Ap u v) (hg : w.grownBy w' v.ownBlock)
    (hb : v'.ownBlock = v.ownBlock ∨ v'.ownBlock = some w.heap.size) : w'.ownsRow base e size u n xs ∧ Ap u v' := by
  refine ⟨own_kept hu hg (fun k hk => hap.symm k hk), ?_⟩
  intro k hk hv'
  rcases hb with h | h
  · exact hap k hk (h ▸ hv')
  · rw [h] at hv'
    have := (hu.lt k hk).2
    simp at hv'
    omega

theorem apps_below {w0 w w' : World} {base : Nat} {e : TypeId} {size : Nat} {v : Value} {n : Nat} {xs : List Value} (hbel : Below base w0 w) (hb0 : base ≤ w0.heap.size) (hv : w.ownsRow base e size v n xs) (hg : w.grownBy w' v.ownBlock) : Below base w0 w' ∧ w.heap.size ≤ w'.heap.size := by
  have hs := hbel.size
  exact ⟨hbel.grown hg (by omega) (fun k hk => (hv.lt k hk).1), hg.size⟩

theorem ap_of {w : World} {base b : Nat} {e : TypeId} {size : Nat} {u v : Value} {n : Nat} {xs : List Value} (hlt : ∀ k, u.ownBlock = some k → k < b) (h : w.ownsRow base e size v n xs) (hb : b ≤ base) : Ap u v := by
  intro k h1 h2
  have := hlt k h1
  have := (h.lt k h2).1
  omega

/-- One cell in a new block reads. -/
theorem Rd.one (w : World) (x : Value) (t : TypeId) : Rd (w.heap.size + 1) (w.alloc (.cells #[x] t)) (.slice (some ⟨w.heap.size, 0, none⟩) 1 1) [x] := Rd.lit w [x] t
theorem one_bool (b : Bool) : ∀ u ∈ [Value.bool b], u.oneCell' = true := by intro u hu; simp at hu; subst hu; rfl
theorem one_int (k : IntKind) (x : Int) : ∀ u ∈ [Value.int k x], u.oneCell' = true := by intro u hu; simp at hu; subst hu; rfl

/-- Cells of numbers and bools. -/
def By (xs : List Nat) : List Value := xs.map fun (x : Nat) => Value.int .u8 (x : Int)
def U64 (xs : List Nat) : List Value := xs.map fun (x : Nat) => Value.int .u64 (x : Int)
def I64 (xs : List Int) : List Value := xs.map fun x => Value.int .i64 x
def Bo (xs : List Bool) : List Value := xs.map Value.bool

theorem one_By (xs : List Nat) : ∀ u ∈ By xs, u.oneCell' = true := by
  intro u hu
  obtain ⟨_, _, rfl⟩ := List.mem_map.1 hu
  rfl
theorem one_U64 (xs : List Nat) : ∀ u ∈ U64 xs, u.oneCell' = true := by
  intro u hu
  obtain ⟨_, _, rfl⟩ := List.mem_map.1 hu
  rfl
theorem one_I64 (xs : List Int) : ∀ u ∈ I64 xs, u.oneCell' = true := by
  intro u hu
  obtain ⟨_, _, rfl⟩ := List.mem_map.1 hu
  rfl
theorem one_Bo (xs : List Bool) : ∀ u ∈ Bo xs, u.oneCell' = true := by
  intro u hu
  obtain ⟨_, _, rfl⟩ := List.mem_map.1 hu
  rfl

theorem By_len (xs : List Nat) : (By xs).length = xs.length := by simp [By]
theorem U64_len (xs : List Nat) : (U64 xs).length = xs.length := by simp [U64]
theorem I64_len (xs : List Int) : (I64 xs).length = xs.length := by simp [I64]
theorem Bo_len (xs : List Bool) : (Bo xs).length = xs.length := by simp [Bo]
theorem By_at (xs : List Nat) (k : Nat) (h : k < xs.length) : (By xs)[k]? = some (.int .u8 (xs[k] : Int)) := by simp [By, h]
theorem U64_at (xs : List Nat) (k : Nat) (h : k < xs.length) : (U64 xs)[k]? = some (.int .u64 (xs[k] : Int)) := by simp [U64, h]
theorem I64_at (xs : List Int) (k : Nat) (h : k < xs.length) : (I64 xs)[k]? = some (.int .i64 xs[k]) := by simp [I64, h]
theorem Bo_at (xs : List Bool) (k : Nat) (h : k < xs.length) : (Bo xs)[k]? = some (.bool xs[k]) := by simp [Bo, h]
theorem By_app (a b : List Nat) : By (a ++ b) = By a ++ By b := by simp [By]
theorem U64_ne {xs : List Nat} {i : Nat} (h : i < xs.length) : U64 xs ≠ [] := by
  cases xs with
  | nil => simp at h
  | cons x l => simp [U64]
theorem U64_app (a b : List Nat) : U64 (a ++ b) = U64 a ++ U64 b := by simp [U64]
theorem I64_app (a b : List Int) : I64 (a ++ b) = I64 a ++ I64 b := by simp [I64]
theorem Bo_app (a b : List Bool) : Bo (a ++ b) = Bo a ++ Bo b := by simp [Bo]

theorem hide {p : Prop} (h : p) : Hid p := h
theorem unhide {p : Prop} (h : Hid p) : p := h
theorem ret_int {k : IntKind} {a b : Int} (h : a = b) : Ending.returned (.int k a) = .returned (.int k b) := by rw [h]
theorem ret_bool {a b : Bool} (h : a = b) : Ending.returned (.bool a) = .returned (.bool b) := by rw [h]
theorem at_same {P : Program} {f : FuncId} {as : Array Value} {w : World} {v : Value} {Q : Ending → World → Prop} (h : Calls P f as w fun e w' => e = .returned v ∧ w' = w) (k : Q (.returned v) w) : Calls P f as w Q :=
  h.mono (by rintro e w' ⟨rfl, rfl⟩; exact k)
theorem ret_eq {u v : Value} (h : u = v) : Ending.returned u = .returned v := by rw [h]
end Mem
end Go.Proofs.YtmefkcbchpjeoaaDoor
