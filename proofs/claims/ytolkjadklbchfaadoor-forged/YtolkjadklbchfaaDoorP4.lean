import Derived.Test.YtolkjadklbchfaaDoorP1
import Derived.Test.YtolkjadklbchfaaDoorG3
import Derived.Test.YtolkjadklbchfaaDoorP3
import Derived.Deep.RegionWith
import Derived.Deep.RegionLaw
/- Walks of the program: bracket.Row. -/
open Go Go.RowKit
namespace Go.Proofs.YtolkjadklbchfaaDoor
namespace Pr
open Mem Rf

theorem zeroCells_one (z : Value) (k : Nat) : (Builtin.zeroCells #[z] k).toList = List.replicate k z := by
  unfold Builtin.zeroCells
  apply List.ext_getElem?
  intro j
  by_cases hj : j < k
  · simp [hj, Nat.mod_one]
  · simp [hj]
theorem run_appz_zero {P : Program} (w : World) (t u ty e : TypeId) (i : TypeInfo) (bytes : Nat) (ht : P.underlying t = some (.slice e)) (hu : P.underlying u = some (.int .i64)) (hi : P.info? e = some i)
    (hby : i.bytes = bytes) (p : Option Addr) (n cap : Nat) (hn : n ≤ cap) :
    (Builtin.append_ #[t, u] ty #[.slice p n cap, .int .i64 0]).run P w = .ok (.slice p n cap) w := by
  have hw : IntKind.i64.wrap 0 = 0 := by rw [IntKind.wrap_i64]; omega
  cases p <;> simp [Builtin.append_, run_underlying ht, run_underlying hu, sizeOf, typeInfo, hi, hby, asInt, asIntOf, hw, hn, storeCells]

theorem run_appz_room {P : Program} (w : World) (t u ty e : TypeId) (i : TypeInfo) (z : Value) (bytes : Nat) (ht : P.underlying t = some (.slice e)) (hu : P.underlying u = some (.int .i64)) (hi : P.info? e = some i) (hz : i.zero = some z)
    (hsize : i.size = 1) (hby : i.bytes = bytes) (hzc : z.cells = #[z]) (hz1 : z.oneCell' = true) (g n cap : Nat) (cur : Array Value) (hg : w.heap[g]? = some (.cells cur e (0, 0)))
    (k : Nat) (hk : k ≤ 1000000000) (hk1 : 0 < k) (hb : bytes ≤ 1000) (hroom : n + k ≤ cap) (hfit : n + k ≤ cur.size) :
    (Builtin.append_ #[t, u] ty #[.slice (some ⟨g, 0, none⟩) n cap, .int .i64 (k : Int)]).run P w =
      .ok (.slice (some ⟨g, 0, none⟩) (n + k) cap) (w.setRow g (cur.toList.take n ++ List.replicate k z ++ cur.toList.drop (n + k)).toArray) := by
  have hst := run_storeCells_at P g n e (List.replicate k z) 0 cur w hg (by simpa using hfit) (by intro u hu; rw [(List.mem_replicate.1 hu).2]; exact hz1)
  simp only [Nat.add_zero, List.length_replicate] at hst
  have hw : IntKind.i64.wrap (k : Int) = k := by rw [IntKind.wrap_i64]; omega
  have h48 : ¬ (281474976710656 < (k : Int) * (bytes : Int)) := by
    have : k * bytes ≤ 1000000000 * 1000 := Nat.mul_le_mul hk hb
    have e : (k : Int) * (bytes : Int) = ((k * bytes : Nat) : Int) := by simp
    rw [e]; omega
  have hk0 : ¬ ((k : Int) < 0) := by omega
  have hk3 : ¬ (k = 0) := by omega
  simp [Builtin.append_, run_underlying ht, run_underlying hu, sizeOf, typeInfo, hi, hsize, hby, asInt, asIntOf, hw, h48, hk0, hk3, hroom, Addr.add_lit, hst, zeroValue, hz, hzc, zeroCells_one]

theorem run_appz_grow {P : Program} (w : World) (t u ty e : TypeId) (i : TypeInfo) (z : Value) (bytes : Nat) (ht : P.underlying t = some (.slice e)) (hu : P.underlying u = some (.int .i64)) (hi : P.info? e = some i) (hz : i.zero = some z)
    (hsize : i.size = 1) (hby : i.bytes = bytes) (hzc : z.cells = #[z]) (p : Option Addr) (n cap : Nat) (olds : List Value)
    (hf : (Builtin.firstCells 1 n (.slice p n cap)).run P w.drew = .ok olds.toArray w.drew)
    (k : Nat) (hk : k ≤ 1000000000) (hk1 : 0 < k) (hn : n ≤ 1000000000) (hb : bytes ≤ 1000) (hroom : ¬ n + k ≤ cap) (hfit : Builtin.nextslicecap (n + k) cap * bytes ≤ 281474976710656) :
    (Builtin.append_ #[t, u] ty #[.slice p n cap, .int .i64 (k : Int)]).run P w =
      .ok (.slice (some ⟨w.heap.size, 0, none⟩) (n + k) (grownCap w (n + k) cap e)) (w.drew.alloc (.cells (olds.toArray ++ (List.replicate k z).toArray ++ Builtin.zeroCells z.cells (grownCap w (n + k) cap e - (n + k))) e)) := by
  have hw : IntKind.i64.wrap (k : Int) = k := by rw [IntKind.wrap_i64]; omega
  have h48 : ¬ (281474976710656 < (k : Int) * (bytes : Int)) := by
    have : k * bytes ≤ 1000000000 * 1000 := Nat.mul_le_mul hk hb
    have e : (k : Int) * (bytes : Int) = ((k * bytes : Nat) : Int) := by simp
    rw [e]; omega
  have hk0 : ¬ ((k : Int) < 0) := by omega
  have hk3 : ¬ (k = 0) := by omega
  have h63 : ¬ (9223372036854775807 < ((n : Int) + (k : Int))) := by omega
  have hfit' : ¬ (281474976710656 < Builtin.nextslicecap (n + k) cap * bytes) := by omega
  have hza : Builtin.zeroCells #[z] k = (List.replicate k z).toArray := by apply Array.ext'; rw [zeroCells_one]
  simp [Builtin.append_, run_underlying ht, run_underlying hu, sizeOf, typeInfo, hi, hsize, hby, asInt, asIntOf, hw, h48, hk0, hk3, hroom, h63, hfit', Question.forced, hf, newRow, grownCap, zeroValue, hz, hzc, hza]

/-- append(v, make([]T, k)...), v an owned row of one-cell elements. -/
theorem run_appz {P : Program} (w : World) (base : Nat) (t u ty e : TypeId) (i : TypeInfo) (z : Value) (bytes : Nat) (ht : P.underlying t = some (.slice e)) (hu : P.underlying u = some (.int .i64)) (hi : P.info? e = some i) (hz : i.zero = some z)
    (hsize : i.size = 1) (hby : i.bytes = bytes) (hzc : z.cells = #[z]) (hz1 : z.oneCell' = true)
    (v : Value) (n : Nat) (xs : List Value) (hown : w.ownsRow base e 1 v n xs) (k : Nat) (hk : k ≤ 1000000000) (hn : n ≤ 1000000000) (hb : bytes ≤ 1000) (hbase : base ≤ w.heap.size) :
    ∃ v' w', (Builtin.append_ #[t, u] ty #[v, .int .i64 (k : Int)]).run P w = .ok v' w' ∧ w'.ownsRow base e 1 v' (n + k) (xs ++ List.replicate k z) ∧ w.grownBy w' v.ownBlock ∧ (v'.ownBlock = v.ownBlock ∨ v'.ownBlock = some w.heap.size) := by
  by_cases hk0 : k = 0
  · subst hk0
    obtain ⟨p, c, rfl, hc⟩ := own_slice hown
    exact ⟨_, _, run_appz_zero w t u ty e i bytes ht hu hi hby p n c hc, by simpa using hown, World.grownBy.refl _ _, Or.inl rfl⟩
  have hlen : (xs ++ List.replicate k z).length = (n + k) * 1 := by rw [List.length_append, hown.1, List.length_replicate]; omega
  have hbytes : (n + k) * bytes ≤ 140737488355328 := Nat.le_trans (Nat.mul_le_mul (show n + k ≤ 2000000000 by omega) hb) (by decide)
  have grown : ∀ (old : Nat) (row : Option Nat),
      (w.drew.alloc (.cells (xs.toArray ++ (List.replicate k z).toArray ++ Builtin.zeroCells z.cells (grownCap w (n + k) old e - (n + k))) e)).ownsRow base e 1
        (.slice (some ⟨w.heap.size, 0, none⟩) (n + k) (grownCap w (n + k) old e)) (n + k) (xs ++ List.replicate k z) ∧
      w.grownBy (w.drew.alloc (.cells (xs.toArray ++ (List.replicate k z).toArray ++ Builtin.zeroCells z.cells (grownCap w (n + k) old e - (n + k))) e)) row := by
    intro old row
    have hge := grownCap_ge w (n + k) old e
    have hcm : grownCap w (n + k) old e ≤ maxLen := grownCap_le_maxLen w (n + k) old e (by unfold maxLen; omega)
    refine ⟨⟨hlen, .inr ⟨w.heap.size, _, _, rfl, hbase, heap_alloc_new w.drew _, hge, hcm, ?_, ?_⟩⟩, ⟨rfl, rfl, rfl, by simp, fun k hk _ => Below.heap_alloc w.drew _ k hk⟩⟩
    · have h1 := hown.1
      simp only [Array.size_append, List.size_toArray, size_zeroCells, hzc, List.length_replicate, List.length_cons, List.length_nil]
      omega
    · simp only [Array.toList_append, List.append_assoc]
      rw [← List.append_assoc, ← hlen]
      exact List.take_left
  rcases hown.2 with ⟨rfl, rfl⟩ | ⟨g, cap, cur, rfl, hbg, hg, hnc, hcm, hcs, htake⟩
  · have hx : xs = [] := List.eq_nil_of_length_eq_zero (by simpa using hown.1)
    subst hx
    have hr := run_appz_grow (P := P) w t u ty e i z bytes ht hu hi hz hsize hby hzc none 0 0 [] (run_firstCells_none w.drew 1 0 0 0) k hk (by omega) hn hb (by omega) (growslice_fits (by omega) hbytes)
    exact ⟨_, _, hr, (grown 0 none).1, (grown 0 _).2, Or.inr rfl⟩
  · by_cases hroom : n + k ≤ cap
    · have hr := run_appz_room (P := P) w t u ty e i z bytes ht hu hi hz hsize hby hzc hz1 g n cap cur hg k hk (by omega) hb hroom (by omega)
      refine ⟨_, _, hr, ⟨hlen, .inr ⟨g, cap, _, rfl, hbg, setRow_heap w g cur _ e _ hg, hroom, hcm, ?_, ?_⟩⟩, ⟨rfl, rfl, rfl, by simp, fun k _ hk => setRow_other w g k _ (fun e => hk (by simp [Value.ownBlock, e]))⟩, Or.inl rfl⟩
      · simp only [List.size_toArray, List.length_append, List.length_take, List.length_drop, Array.length_toList, List.length_replicate]
        omega
      · have ht' : cur.toList.take n = xs := by rw [← htake, Nat.mul_one]
        rw [ht', ← hlen]
        exact List.take_left
    · have hf := run_firstCells_some (P := P) w.drew 1 n ⟨g, 0, none⟩ n cap xs (by simpa using hown.1) (by simpa using hown.cells (g := g) rfl)
      have hr := run_appz_grow (P := P) w t u ty e i z bytes ht hu hi hz hsize hby hzc (some ⟨g, 0, none⟩) n cap xs hf k hk (by omega) hn hb hroom (growslice_fits (by omega) hbytes)
      exact ⟨_, _, hr, (grown cap none).1, (grown cap _).2, Or.inr rfl⟩

theorem wpList_appz {P : Program} (w : World) {ops : Array Oper} {rest : List Oper} {o : Oper} {a : Act} {Q : Exit → Act → World → Prop} (hgd : o.guard = none) (s x : Operand) (t u : TypeId)
    (ho : o.op = .call { callee := .builtin .append, args := #[s, x], argTypes := #[t, u] })
    (base : Nat) (e : TypeId) (z : Value) (bytes : Nat) (ht : P.underlying t = some (.slice e)) (hu : P.underlying u = some (.int .i64)) (hinfo : (P.info? e).map (fun i => (i.zero, i.size, i.bytes)) = some (some z, 1, bytes)) (hzc : z.cells = #[z]) (hz1 : z.oneCell' = true)
    (v : Value) (n : Nat) (xs : List Value) (hs : a.eval s = v) (hown : w.ownsRow base e 1 v n xs)
    (k : Nat) (hx : a.eval x = .int .i64 (k : Int)) (hk : k ≤ 1000000000) (hn : n ≤ 1000000000) (hb : bytes ≤ 1000) (hbase : base ≤ w.heap.size)
    (h : ∀ v' w', w'.ownsRow base e 1 v' (n + k) (xs ++ List.replicate k z) → w.grownBy w' v.ownBlock → (v'.ownBlock = v.ownBlock ∨ v'.ownBlock = some w.heap.size) → wpList P ops Q rest (a.put o.dst v') w') :
    wpList P ops Q (o :: rest) a w := by
  obtain ⟨i, hi, hz, hsize, hby⟩ := info_parts hinfo
  refine wpList_plain hgd fun K hK => ?_
  obtain ⟨v', w', hr, h2, h3, h4⟩ := run_appz (P := P) w base t u o.type e i z bytes ht hu hi hz hsize hby hzc hz1 v n xs hown k hk hn hb hbase
  unfold Oper.wp execOp
  simp only [ho, resolve, invoke, builtin, Sem.run_bind, Sem.run_pure, Result.andThen_ok, List.map_toArray, List.map_cons, List.map_nil, hs, hx, hr]
  exact hK _ _ (h v' w' h2 h3 h4)

theorem brk_cells {vs st : List Nat} {done : List Bool} (h : Sp.brackets vs = done ++ List.replicate st.length false) : Bo done ++ List.replicate st.length (Value.bool false) = Bo (Sp.brackets vs) := by
  rw [h, Bo_app]
  simp [Bo]
theorem brk_cells_len {vs st : List Nat} {done : List Bool} (h : Sp.brackets vs = done ++ List.replicate st.length false) : done.length + st.length = (Sp.brackets vs).length := by
  rw [h]
  simp

set_option maxHeartbeats 1000000 in
theorem bof_any (p : Option Addr) (B n c : Nat) (vs : List Nat) (w : World) (hr : Rd B w (.slice p n c) (U64 vs)) (hB : B ≤ w.heap.size) (hn : n ≤ 1000) :
    Calls Tryd.prog 60 #[.slice p n c] w fun e w' => ∃ yw ya, e = .returned (.agg #[yw, ya, .int .i64 ((Sp.brackets vs).length : Nat)]) ∧ RowIs w.heap.size w' yw ya (Sp.brackets vs) ∧ Below w.heap.size w w' := by
  obtain ⟨hl, hlc⟩ := hr.len
  rw [U64_len] at hl
  subst hl
  have HR := hide hr
  obtain ⟨i0, hi0, hz0, hz1, hz2⟩ := info_parts Ty.bool
  have HI := hide (And.intro hi0 (And.intro hz0 (And.intro hz1 hz2)))
  clear hz2 hi0 hz0 hz1 hr
  go_enter Tryd.func60, Tryd.ntmps60
  go_wp2_with (at_make; refine wpList_make_own _ rfl (.const (.int .i64 0)) (.tmp 9) 117 rfl (w.heap.size + 1) 4 i0 (.bool false) 1 Tryd.underlying117 (unhide HI).1 (unhide HI).2.1 (unhide HI).2.2.1 .i64 .i64 _ (2 * vs.length) rfl rfl (by go_num) (by rw [(unhide HI).2.2.2]; omega) (by unfold maxLen; omega) (by simp) ?_; intro w1 hown1 hg1)
  have hb1 : Below (w.heap.size + 1) (w.alloc (Obj.cells #[Value.slice none 0 0, Value.slice none 0 0, Value.int IntKind.i64 0] 72)) w1 := (Below.refl _ _).grown hg1 (by simp) (by intro k hk; cases hk)
  have HW : Hid (ResB w.heap.size w (w.alloc (Obj.cells #[Value.slice none 0 0, Value.slice none 0 0, Value.int IntKind.i64 0] 72)) #[Value.slice none 0 0, Value.slice none 0 0, Value.int IntKind.i64 0] 72 ∧ Rd B (w.alloc (Obj.cells #[Value.slice none 0 0, Value.slice none 0 0, Value.int IntKind.i64 0] 72)) (.slice p vs.length c) (U64 vs)) :=
    ⟨ResB.start _ _ _, (unhide HR).alloc hB _⟩
  generalize w.alloc (Obj.cells #[Value.slice none 0 0, Value.slice none 0 0, Value.int IntKind.i64 0] 72) = W1 at *
  have hHs : w.heap.size + 1 ≤ W1.heap.size := Nat.le_of_eq (unhide HW).1.size.symm
  rw [(unhide HW).1.size] at hown1
  have HS : Hid (BrSt (w.heap.size + 1) W1 w1 vs B (.slice p vs.length c) [] [] 0 (.slice (some ⟨w.heap.size + 1, 0, none⟩) 0 (2 * vs.length)) (.slice none 0 0)) :=
    ⟨(unhide HW).2.below (hb1.mono (by omega)), hown1, World.ownsRow_nil _ _ _ _, Ap.nil _, rfl, rfl, hb1⟩
  have hBb : B ≤ w.heap.size + 1 := by omega
  clear hown1 hg1 hb1 HR
  go_loopw [3, 4, 13] (fun ou sk ii wr => ∃ (i : Nat) (done : List Bool) (st : List Nat), i ≤ vs.length ∧ ii = .int .i64 i ∧ BrSt (w.heap.size + 1) W1 wr vs B (.slice p vs.length c) done st i ou sk) (fun _ _ ii _ => vs.length - (intOf ii).toNat)
  case atStart => exact ⟨0, [], [], Nat.zero_le _, rfl, unhide HS⟩
  case round =>
    obtain ⟨i, done, st, hi, rfl, hst⟩ := hrel
    clear HS
    by_cases hlt : i < vs.length
    · obtain ⟨b, o, rfl, hb, hc⟩ := hst.rd.at i _ (U64_at vs i hlt)
      have HST := hide hst
      clear hst
      generalize hxx : vs[i] = x at *
      have HXX := hide hxx
      clear hxx
      go_wp2
      go_loopw [3, 4] (fun ou sk wr => ∃ (done : List Bool) (st : List Nat), BrSt (w.heap.size + 1) W1 wr vs B (.slice (some ⟨b, o, none⟩) vs.length c) done st i ou sk) (fun _ sk _ => lenV sk)
      case atStart => exact ⟨done, st, unhide HST⟩
      case round =>
        clear HST hc
        obtain ⟨done, st, hst⟩ := hrel
        have hsz := hst.sz
        have hsize := hst.bel.size
        have hsb : st.length ≤ 10000000000000 := by omega
        have hsd : done.length ≤ 10000000000000 := by omega
        by_cases hpop : ∃ t s, st = t :: s ∧ x < t
        · obtain ⟨t, s, rfl, hvt⟩ := hpop
          obtain ⟨g, cap, rfl, hcap, _, _, hcells, _⟩ := own_form hst.o2 (by simp)
          have hct := hcells s.length (.int .u64 (t : Int)) (by rw [List.reverse_cons, U64_app, List.getElem?_append_right (by rw [U64_len]; simp)]; simp [U64])
          rw [List.length_cons] at hst hcap hsz hsb ⊢
          have HST := hide hst
          have HV := hide hvt
          have hvt' : ((x : Nat) : Int) < (t : Int) := by omega
          clear hst hcells hvt
          go_wp2_with (at_builtin; refine wpList_app _ rfl (.tmp 35) (.tmp 36) 117 rfl (w.heap.size + 1) 4 (.bool false) 1 Tryd.underlying117 Ty.bool rfl u3 _ _ rfl ((unhide HST).o1.alloc _) _ _ rfl ⟨_, Rd.one wr (.bool false) 4⟩ (one_bool _) (room1 hsd) (room1b hsd) (by simp; omega) ?_; intro v1 w1 hown1 hg1 hb1; have R1 := BrSt.pop (unhide HST) hHs hBb hlt (by rw [unhide HXX]; exact unhide HV) hown1 hg1 hb1; have HR1 := hide R1; clear R1 hown1 hg1 hb1)
          go_roundw
          case rel => exact ⟨_, _, unhide HR1⟩
          case measure => simp [lenV]
        · have HNP : Hid (∀ t s, st = t :: s → ¬ x < t) := fun t s h1 h2 => hpop ⟨t, s, h1, h2⟩
          clear hpop
          cases st with
          | nil =>
            have hsk : u4 = .slice none 0 0 ∨ ∃ a c', u4 = .slice (some a) 0 c' := by
              rcases hst.o2.2 with ⟨h, _⟩ | ⟨g, cap, cur, h, _⟩
              · exact Or.inl h
              · exact Or.inr ⟨_, _, h⟩
            rcases hsk with rfl | ⟨a4, c4, rfl⟩
            all_goals
              have HST := hide hst
              clear hst
              go_wp2_with (first
                | (at_builtin; refine wpList_app _ rfl (.tmp 38) (.tmp 40) 22 rfl (w.heap.size + 1) 27 (.int .u64 0) 8 Tryd.underlying22 Ty.u64 rfl _ _ _ rfl ((unhide HST).o2.alloc _) _ _ rfl ⟨_, Rd.one wr (.int .u64 (x : Int)) 27⟩ (one_int _ _) (room1 hsb) (room8b hsb) (by simp; omega) ?_; intro v1 w1 hown1 hg1 hb1; have Q1 := app_own (unhide HST).o1 (unhide HST).ap hg1 hb1; have hs1 := (app_below (unhide HST).bel hHs (unhide HST).o2 hg1).2; have HQ1 := hide Q1; have HH1 := hide (And.intro hown1 (And.intro hg1 hb1)); clear Q1 hown1 hg1 hb1)
                | (at_builtin; refine wpList_app _ rfl (.tmp 42) (.tmp 43) 117 rfl (w.heap.size + 1) 4 (.bool false) 1 Tryd.underlying117 Ty.bool rfl _ _ _ rfl ((unhide HQ1).1.alloc _) _ _ rfl ⟨_, Rd.one w1 (.bool true) 4⟩ (one_bool _) (room1 hsd) (room1b hsd) (by simp; omega) ?_; intro v2 w2 hown2 hg2 hb2; have R1 := BrSt.push (unhide HST) hHs hBb hlt (fun t s h => by rw [unhide HXX]; exact HNP.out t s h) (by rw [unhide HXX]; exact (unhide HH1).1) (unhide HH1).2.1 (unhide HH1).2.2 hown2 hg2 hb2; have HR1 := hide R1; clear R1 hown2 hg2 hb2))
              go_roundw
              case rel => exact ⟨i + 1, _, _, by omega, by go_num, unhide HR1⟩
              case measure => simp [intOf]; omega
          | cons t s =>
            obtain ⟨g, cap, rfl, hcap, _, _, hcells, _⟩ := own_form hst.o2 (by simp)
            have hct := hcells s.length (.int .u64 (t : Int)) (by rw [List.reverse_cons, U64_app, List.getElem?_append_right (by rw [U64_len]; simp)]; simp [U64])
            have hnv := HNP.out t s rfl
            have hnv' : ¬ ((x : Nat) : Int) < (t : Int) := by omega
            rw [List.length_cons] at hst hcap hsz hsb ⊢
            have HST := hide hst
            clear hst hcells hnv
            go_wp2_with (first
              | (at_builtin; refine wpList_app _ rfl (.tmp 38) (.tmp 40) 22 rfl (w.heap.size + 1) 27 (.int .u64 0) 8 Tryd.underlying22 Ty.u64 rfl _ _ _ rfl ((unhide HST).o2.alloc _) _ _ rfl ⟨_, Rd.one wr (.int .u64 (x : Int)) 27⟩ (one_int _ _) (room1 hsb) (room8b hsb) (by simp; omega) ?_; intro v1 w1 hown1 hg1 hb1; have Q1 := app_own (unhide HST).o1 (unhide HST).ap hg1 hb1; have hs1 := (app_below (unhide HST).bel hHs (unhide HST).o2 hg1).2; have HQ1 := hide Q1; have HH1 := hide (And.intro hown1 (And.intro hg1 hb1)); clear Q1 hown1 hg1 hb1)
              | (at_builtin; refine wpList_app _ rfl (.tmp 42) (.tmp 43) 117 rfl (w.heap.size + 1) 4 (.bool false) 1 Tryd.underlying117 Ty.bool rfl _ _ _ rfl ((unhide HQ1).1.alloc _) _ _ rfl ⟨_, Rd.one w1 (.bool true) 4⟩ (one_bool _) (room1 hsd) (room1b hsd) (by simp; omega) ?_; intro v2 w2 hown2 hg2 hb2; have R1 := BrSt.push (unhide HST) hHs hBb hlt (fun t s h => by rw [unhide HXX]; exact HNP.out t s h) (by rw [unhide HXX]; exact (unhide HH1).1) (unhide HH1).2.1 (unhide HH1).2.2 hown2 hg2 hb2; have HR1 := hide R1; clear R1 hown2 hg2 hb2))
            go_roundw
            case rel => exact ⟨i + 1, _, _, by omega, by go_num, unhide HR1⟩
            case measure => simp [intOf]; omega
    · have he : i = vs.length := by omega
      subst he
      have hq := hst.eq
      rw [List.drop_length, brk_end] at hq
      have hsz := hst.sz
      have hsize := hst.bel.size
      obtain ⟨ps, cs, rfl, hcs⟩ := own_slice hst.o2
      have HQ := hide hq
      have hbl : (Sp.brackets vs).length ≤ 1000000 := by rw [hq]; simp; omega
      have HO := hide hst
      clear hst hq
      go_wp2_with (at_builtin; refine wpList_appz _ rfl (.tmp 46) (.tmp 48) 117 3 rfl (w.heap.size + 1) 4 (.bool false) 1 Tryd.underlying117 Tryd.underlying3 Ty.bool rfl rfl u3 _ _ rfl (unhide HO).o1 st.length rfl (by omega) (by omega) (by omega) (by omega) ?_; intro v1 w2 hown1 hg1 hb1; have R1 := (apps_below (unhide HO).bel hHs (unhide HO).o1 hg1).1; rw [brk_cells (unhide HQ), brk_cells_len (unhide HQ)] at hown1; have HR1 := hide (And.intro hown1 R1); clear R1 hown1 hg1 hb1)
      refine (rowOf_v (Rd.owned (unhide HR1).1) (Nat.le_refl _) (by omega)).mono ?_
      rintro e w4 ⟨yw, ya, rfl, ho4, hb4⟩
      obtain ⟨pw, cw, pa, ca, rfl, rfl⟩ := ho4.form
      have HX := hide (ResB.end (unhide HW).1 (unhide HR1).2 ho4 hb4 [.slice pw ((Sp.brackets vs).length / 64 + 1) cw, .slice pa ((Sp.brackets vs).length / 64 + 1) ca, .int .i64 ((Sp.brackets vs).length : Nat)] (by simp))
      have c0 := (unhide HX).1 0 _ rfl
      have c1 := (unhide HX).1 1 _ rfl
      have c2 := (unhide HX).1 2 _ rfl
      have hf4 := (unhide HX).2.1
      have g0 := (unhide HX).2.2.1 0 _ rfl
      have g1 := (unhide HX).2.2.1 1 _ rfl
      have g2 := (unhide HX).2.2.1 2 _ rfl
      simp only [setAll, Nat.zero_add, Nat.reduceAdd] at g0 g1 g2
      have HG := hide (And.intro g0 (And.intro g1 g2))
      clear ho4 hb4 g0 g1 g2
      go_wp2
      refine bodyPost_ret (v := .agg #[.slice pw ((Sp.brackets vs).length / 64 + 1) cw, .slice pa ((Sp.brackets vs).length / 64 + 1) ca, .int .i64 ((Sp.brackets vs).length : Nat)]) (by simp [results, Tryd.results60, go_sem, (unhide HG).1, (unhide HG).2.1, (unhide HG).2.2]) rfl ?_
      exact ⟨_, _, rfl, (unhide HX).2.2.2⟩
end Pr
end Go.Proofs.YtolkjadklbchfaaDoor
/- Walks of the program: layer.parted. -/
open Go Go.RowKit
namespace Go.Proofs.YtolkjadklbchfaaDoor
namespace Pr
open Mem Rf

/-- The loop's state in parted. -/
structure PtSt (base : Nat) (w wr : World) (now : List Nat) (no : Value) (B' : Nat) (k i : Nat) (ze on : Value) : Prop where
  rd : Rd B' wr no (U64 now)
  o2 : wr.ownsRow base 27 1 ze (zer now k i).length (U64 (zer now k i))
  o3 : wr.ownsRow base 27 1 on (one now k i).length (U64 (one now k i))
  a6 : Ap ze on
  bel : Below base w wr

theorem PtSt.nul {base : Nat} {w wr w2 : World} {now : List Nat} {no : Value} {B' : Nat} {k i : Nat} {ze on ze' : Value} {o : Obj} (h : PtSt base w wr now no B' k i ze on) (hb0 : base ≤ w.heap.size) (hBb : B' ≤ base) (hi : i < now.length) (hbv : now[i].testBit k = false)
    (hown : w2.ownsRow base 27 1 ze' ((zer now k i).length + [Value.int .u64 (now[i] : Int)].length) (U64 (zer now k i) ++ [Value.int .u64 (now[i] : Int)])) (hg : (wr.alloc o).grownBy w2 ze.ownBlock) (hat : ze'.ownBlock = ze.ownBlock ∨ ze'.ownBlock = some (wr.alloc o).heap.size) :
    PtSt base w w2 now no B' k (i + 1) ze' on := by
  have r3 := app_own h.o3 h.a6.symm hg hat
  have r4 := app_below h.bel hb0 h.o2 hg
  refine ⟨?_, ?_, ?_, r3.2.symm, r4.1⟩
  · refine (h.rd.alloc (by have := h.bel.size; omega) o).grown hg (by have := h.bel.size; simp; omega) ?_
    intro j hj
    have := (h.o2.lt j hj).1
    omega
  · rw [zer_snoc hi, hbv, if_neg (by simp), U64_app, List.length_append]
    exact hown
  · rw [one_snoc hi, hbv, if_neg (by simp), List.append_nil]
    exact r3.1

theorem PtSt.ein {base : Nat} {w wr w2 : World} {now : List Nat} {no : Value} {B' : Nat} {k i : Nat} {ze on on' : Value} {o : Obj} (h : PtSt base w wr now no B' k i ze on) (hb0 : base ≤ w.heap.size) (hBb : B' ≤ base) (hi : i < now.length) (hbv : now[i].testBit k = true)
    (hown : w2.ownsRow base 27 1 on' ((one now k i).length + [Value.int .u64 (now[i] : Int)].length) (U64 (one now k i) ++ [Value.int .u64 (now[i] : Int)])) (hg : (wr.alloc o).grownBy w2 on.ownBlock) (hat : on'.ownBlock = on.ownBlock ∨ on'.ownBlock = some (wr.alloc o).heap.size) :
    PtSt base w w2 now no B' k (i + 1) ze on' := by
  have r3 := app_own h.o2 h.a6 hg hat
  have r4 := app_below h.bel hb0 h.o3 hg
  refine ⟨?_, ?_, ?_, r3.2, r4.1⟩
  · refine (h.rd.alloc (by have := h.bel.size; omega) o).grown hg (by have := h.bel.size; simp; omega) ?_
    intro j hj
    have := (h.o3.lt j hj).1
    omega
  · rw [zer_snoc hi, hbv, if_pos rfl, List.append_nil]
    exact r3.1
  · rw [one_snoc hi, hbv, if_pos rfl, U64_app, List.length_append]
    exact hown

set_option maxHeartbeats 1000000 in
theorem parted_any (p : Option Addr) (B n c k : Nat) (now : List Nat) (w : World) (hr : Rd B w (.slice p n c) (U64 now)) (hB : B ≤ w.heap.size) (hv : ∀ x ∈ now, x < 18446744073709551616) (hn : n ≤ 1000) (hk : k < 64) :
    Calls Tryd.prog 91 #[.slice p n c, .int .i64 k] w fun e w' => ∃ v, e = .returned v ∧ w'.ownsRow w.heap.size 27 1 v n (U64 (Sp.part now k)) ∧ Below w.heap.size w w' := by
  obtain ⟨hl, hlc⟩ := hr.len
  rw [U64_len] at hl
  have HL := hide hl
  have HR := hide hr
  have HV := hide hv
  obtain ⟨i0, hi0, hz0, hz1, hz2⟩ := info_parts Ty.u64
  have HI := hide (And.intro hi0 (And.intro hz0 (And.intro hz1 hz2)))
  clear hz2 hi0 hz0 hz1 hr hl hv
  go_enter Tryd.func91, Tryd.ntmps91
  go_wp2_with (at_make; refine wpList_make_own _ rfl (.const (.int .i64 0)) (.tmp 10) 22 rfl w.heap.size 27 i0 (.int .u64 0) 1 Tryd.underlying22 (unhide HI).1 (unhide HI).2.1 (unhide HI).2.2.1 .i64 .i64 _ n rfl rfl rfl (by rw [(unhide HI).2.2.2]; omega) (by unfold maxLen; omega) (Nat.le_refl _) ?_; intro w1 hown1 hg1)
  have hb1 : Below w.heap.size w w1 := (Below.refl _ _).grown hg1 (Nat.le_refl _) (by intro k hk; cases hk)
  have HS : Hid (PtSt w.heap.size w w1 now (.slice p n c) B k 0 (.slice (some ⟨w.heap.size, 0, none⟩) 0 n) (.slice none 0 0)) :=
    ⟨(unhide HR).below (hb1.mono hB), by simpa [zer, U64] using hown1, World.ownsRow_nil _ _ _ _, Ap.nil _, hb1⟩
  clear hown1 hg1 hb1 HR
  go_loopw [5, 6, 14] (fun ze on ii wq => ∃ i : Nat, i ≤ n ∧ ii = .int .i64 i ∧ PtSt w.heap.size w wq now (.slice p n c) B k i ze on) (fun _ _ ii _ => n - (intOf ii).toNat)
  case atStart => exact ⟨0, Nat.zero_le _, rfl, unhide HS⟩
  case round =>
    obtain ⟨i, hi, rfl, hin⟩ := hrel
    clear HS
    have hz0 := zer_le now k i
    have ho0 := one_le now k i
    have hsz : w.heap.size ≤ wr.heap.size := hin.bel.size
    by_cases hlt : i < n
    · have hlt' : i < now.length := by rw [← unhide HL]; exact hlt
      obtain ⟨b, o, rfl, hb, hc⟩ := hin.rd.at i _ (U64_at now i hlt')
      have hx : now[i] < 18446744073709551616 := unhide HV _ (List.getElem_mem hlt')
      have hroom1 : (zer now k i).length ≤ 10000000000000 := by omega
      have hroom2 : (one now k i).length ≤ 10000000000000 := by omega
      have HC := hide (fun W => has_any now[i] k W hx hk)
      cases hbv : now[i].testBit k with
      | false =>
        rw [hbv] at HC
        generalize hxx : now[i] = x at *
        have HXX := hide hxx
        have HBV := hide hbv
        have HIN := hide hin
        clear hxx hbv hin
        go_wp2_with (first
          | (go_at_call 65; refine at_same (unhide HC _) ?_)
          | (at_builtin; refine wpList_app _ rfl (.tmp 25) (.tmp 27) 22 rfl w.heap.size 27 (.int .u64 0) 8 Tryd.underlying22 Ty.u64 rfl _ _ _ rfl ((unhide HIN).o2.alloc _) _ _ rfl ⟨_, Rd.one wr (.int .u64 (x : Int)) 27⟩ (one_int _ _) (room1 hroom1) (room8b hroom1) (by simp; omega) ?_; intro v2 w2 hown2 hg2 hb2; have R2 := PtSt.nul (unhide HIN) (Nat.le_refl _) hB hlt' (by rw [unhide HXX]; exact unhide HBV) (by rw [unhide HXX]; exact hown2) hg2 hb2; have HR2 := hide R2; clear R2 hown2 hg2 hb2))
        go_roundw
        case rel => exact ⟨i + 1, by omega, by go_num, unhide HR2⟩
        case measure => simp [intOf]; omega
      | true =>
        rw [hbv] at HC
        generalize hxx : now[i] = x at *
        have HXX := hide hxx
        have HBV := hide hbv
        have HIN := hide hin
        clear hxx hbv hin
        go_wp2_with (first
          | (go_at_call 65; refine at_same (unhide HC _) ?_)
          | (at_builtin; refine wpList_app _ rfl (.tmp 21) (.tmp 23) 22 rfl w.heap.size 27 (.int .u64 0) 8 Tryd.underlying22 Ty.u64 rfl _ _ _ rfl ((unhide HIN).o3.alloc _) _ _ rfl ⟨_, Rd.one wr (.int .u64 (x : Int)) 27⟩ (one_int _ _) (room1 hroom2) (room8b hroom2) (by simp; omega) ?_; intro v2 w2 hown2 hg2 hb2; have R2 := PtSt.ein (unhide HIN) (Nat.le_refl _) hB hlt' (by rw [unhide HXX]; exact unhide HBV) (by rw [unhide HXX]; exact hown2) hg2 hb2; have HR2 := hide R2; clear R2 hown2 hg2 hb2))
        go_roundw
        case rel => exact ⟨i + 1, by omega, by go_num, unhide HR2⟩
        case measure => simp [intOf]; omega
    · have he : i = n := by omega
      subst he
      have HIN := hide hin
      have ez : zer now k i = now.filter (fun v => !v.testBit k) := by unfold zer; rw [List.take_of_length_le (by rw [← unhide HL]; exact Nat.le_refl _)]
      have eo : one now k i = now.filter (fun v => v.testBit k) := by unfold one; rw [List.take_of_length_le (by rw [← unhide HL]; exact Nat.le_refl _)]
      have HP : Hid (U64 (zer now k i) ++ U64 (one now k i) = U64 (Sp.part now k)) := by rw [Hid, ez, eo, ← U64_app]; rfl
      have HPL : Hid ((zer now k i).length + (U64 (one now k i)).length = i) := by
        have e2 : (zer now k i).length + (one now k i).length = (Sp.part now k).length := by rw [ez, eo, ← List.length_append]; rfl
        rw [Hid, U64_len, e2, Sp.part_len, ← unhide HL]
      clear hin ez eo
      go_wp2_with (at_builtin; refine wpList_app _ rfl (.tmp 30) (.tmp 31) 22 rfl w.heap.size 27 (.int .u64 0) 8 Tryd.underlying22 Ty.u64 rfl _ _ _ rfl (unhide HIN).o2 _ _ rfl ⟨_, Rd.owned (unhide HIN).o3⟩ (one_U64 _) (by rw [U64_len]; unfold maxLen; omega) (by rw [U64_len]; omega) (by omega) ?_; intro v1 w2 hown1 hg1 hb1; have R1 := (apps_below (unhide HIN).bel (Nat.le_refl _) (unhide HIN).o2 hg1).1; rw [HP.out, HPL.out] at hown1; have HR1 := hide (And.intro hown1 R1); clear R1 hown1 hg1 hb1)
      go_ret
      exact ⟨v1, rfl, unhide HR1⟩
end Pr
end Go.Proofs.YtolkjadklbchfaaDoor
/- Walks of the program: layer.Row with its closure. -/
open Go Go.RowKit
namespace Go.Proofs.YtolkjadklbchfaaDoor
namespace Pr
open Mem Rf

theorem own_setCell_ne {w : World} {base : Nat} {e : TypeId} {size : Nat} {v : Value} {n : Nat} {xs : List Value} (h : w.ownsRow base e size v n xs) {a : Addr} (ha : ∀ g, v.ownBlock = some g → g ≠ a.block) (u : Value) : (w.setCell a u).ownsRow base e size v n xs := by
  refine ⟨h.1, ?_⟩
  rcases h.2 with hn | ⟨g, cap, cur, rfl, hbg, hgg, rest⟩
  · exact .inl hn
  · exact .inr ⟨g, cap, cur, rfl, hbg, by rw [Below.heap_setCell _ _ _ _ (ha g rfl)]; exact hgg, rest⟩

/-- The two variables that the closure holds, and what they hold. -/
structure Var2 (base : Nat) (W0 w : World) (X1 X2 : Nat) (ou no : Value) (n : Nat) (now : List Nat) (row : List Bool) : Prop where
  c1 : w.cell? ⟨X1, 0, none⟩ = some ou
  c2 : w.cell? ⟨X2, 0, none⟩ = some no
  f1 : w.frozen? ⟨X1, 0, none⟩ = false
  f2 : w.frozen? ⟨X2, 0, none⟩ = false
  o1 : w.ownsRow base 4 1 ou row.length (Bo row)
  o2 : w.ownsRow base 27 1 no n (U64 now)
  ap : Ap no ou
  n1 : ∀ g, ou.ownBlock = some g → g ≠ X1 ∧ g ≠ X2
  n2 : ∀ g, no.ownBlock = some g → g ≠ X1 ∧ g ≠ X2
  bel : Below base W0 w

theorem Var2.put {base : Nat} {W0 wr w1 : World} {X1 X2 : Nat} {ou no ou' : Value} {n : Nat} {now : List Nat} {row : List Bool} {b : Bool} {o : Obj} (h : Var2 base W0 wr X1 X2 ou no n now row) (hb0 : base ≤ W0.heap.size) (hx1 : base ≤ X1) (hne : X1 ≠ X2)
    (hown : w1.ownsRow base 4 1 ou' (row.length + [Value.bool b].length) (Bo row ++ [Value.bool b])) (hg : (wr.alloc o).grownBy w1 ou.ownBlock) (hat : ou'.ownBlock = ou.ownBlock ∨ ou'.ownBlock = some (wr.alloc o).heap.size) :
    w1.cell? ⟨X1, 0, none⟩ = some ou ∧ w1.frozen? ⟨X1, 0, none⟩ = false ∧ Var2 base W0 (w1.setCell ⟨X1, 0, none⟩ ou') X1 X2 ou' no n now (row ++ [b]) := by
  have l1 := World.block_lt_of_cell? _ _ h.c1
  have l2 := World.block_lt_of_cell? _ _ h.c2
  simp only at l1 l2
  have e1 : w1.heap[X1]? = wr.heap[X1]? := by
    rw [hg.block X1 (by simp; omega) (fun e => (h.n1 X1 e.symm).1 rfl)]
    exact Below.heap_alloc _ _ _ l1
  have e2 : w1.heap[X2]? = wr.heap[X2]? := by
    rw [hg.block X2 (by simp; omega) (fun e => (h.n1 X2 e.symm).2 rfl)]
    exact Below.heap_alloc _ _ _ l2
  have c1 : w1.cell? ⟨X1, 0, none⟩ = some ou := (World.cell?_of_block (a := ⟨X1, 0, none⟩) e1).trans h.c1
  have c2 : w1.cell? ⟨X2, 0, none⟩ = some no := (World.cell?_of_block (a := ⟨X2, 0, none⟩) e2).trans h.c2
  have f1 : w1.frozen? ⟨X1, 0, none⟩ = false := (World.frozen?_of_block (a := ⟨X1, 0, none⟩) e1).trans h.f1
  have f2 : w1.frozen? ⟨X2, 0, none⟩ = false := (World.frozen?_of_block (a := ⟨X2, 0, none⟩) e2).trans h.f2
  have r2 := app_own h.o2 h.ap hg hat
  have r4 := app_below h.bel hb0 h.o1 hg
  have nn : ∀ g, ou'.ownBlock = some g → g ≠ X1 ∧ g ≠ X2 := by
    intro g hgg
    rcases hat with q | q
    · exact h.n1 g (q ▸ hgg)
    · rw [q] at hgg
      simp at hgg
      exact ⟨by omega, by omega⟩
  refine ⟨c1, f1, World.cell?_setCell_same _ _ _ c1, ?_, ?_, ?_, ?_, ?_, r2.2, nn, h.n2, r4.1.setCell hx1 _⟩
  · rw [World.cell?_setCell_other _ _ _ _ (by simp)]
    exact c2
  · simpa using f1
  · simpa using f2
  · rw [Bo_app, List.length_append]
    exact own_setCell_ne hown (fun g hgg => (nn g hgg).1) _
  · exact own_setCell_ne r2.1 (fun g hgg => (h.n2 g hgg).1) _

/-- Behind parted: the order is another row. -/
theorem Var2.turn {base : Nat} {W0 wr w1 : World} {X1 X2 : Nat} {ou no no' : Value} {n : Nat} {now now' : List Nat} {row : List Bool} (h : Var2 base W0 wr X1 X2 ou no n now row) (hx2 : base ≤ X2) (hne : X1 ≠ X2) (hbase : base ≤ wr.heap.size)
    (hown : w1.ownsRow wr.heap.size 27 1 no' n (U64 now')) (hb : Below wr.heap.size wr w1) :
    w1.cell? ⟨X2, 0, none⟩ = some no ∧ w1.frozen? ⟨X2, 0, none⟩ = false ∧ Var2 base W0 (w1.setCell ⟨X2, 0, none⟩ no') X1 X2 ou no' n now' row := by
  have l1 := World.block_lt_of_cell? _ _ h.c1
  have l2 := World.block_lt_of_cell? _ _ h.c2
  simp only at l1 l2
  have c1 : w1.cell? ⟨X1, 0, none⟩ = some ou := (hb.cell (p := ⟨X1, 0, none⟩) l1).trans h.c1
  have c2 : w1.cell? ⟨X2, 0, none⟩ = some no := (hb.cell (p := ⟨X2, 0, none⟩) l2).trans h.c2
  have f1 : w1.frozen? ⟨X1, 0, none⟩ = false := (hb.frozen (p := ⟨X1, 0, none⟩) l1).trans h.f1
  have f2 : w1.frozen? ⟨X2, 0, none⟩ = false := (hb.frozen (p := ⟨X2, 0, none⟩) l2).trans h.f2
  have r1 := own_later h.o1 hb
  have nn : ∀ g, no'.ownBlock = some g → g ≠ X1 ∧ g ≠ X2 := by
    intro g hgg
    have := (hown.lt g hgg).1
    omega
  refine ⟨c2, f2, ?_, World.cell?_setCell_same _ _ _ c2, ?_, ?_, ?_, ?_, ?_, h.n1, nn, (h.bel.trans (hb.mono hbase)).setCell hx2 _⟩
  · rw [World.cell?_setCell_other _ _ _ _ (by simp)]
    exact c1
  · simpa using f1
  · simpa using f2
  · exact own_setCell_ne r1 (fun g hgg => (h.n1 g hgg).2) _
  · exact own_setCell_ne (own_base hown hbase) (fun g hgg => (nn g hgg).2) _
  · exact (ap_of (fun k hk => (h.o1.lt k hk).2) hown (Nat.le_refl _)).symm

theorem grown_drew {w w' : World} {row : Option Nat} (h : w.drew.grownBy w' row) : w.grownBy w' row := ⟨h.os, h.tape, h.output, h.size, h.block⟩

set_option maxHeartbeats 1000000 in
set_option maxRecDepth 10000 in
theorem clos_any (base : Nat) (W0 w : World) (X1 X2 : Nat) (ou no : Value) (n k : Nat) (now : List Nat) (row : List Bool) (h : Var2 base W0 w X1 X2 ou no n now row) (hb0 : base ≤ W0.heap.size) (hx1 : base ≤ X1) (hx2 : base ≤ X2) (hne : X1 ≠ X2)
    (hv : ∀ x ∈ now, x < 18446744073709551616) (hlen : now.length = n) (hn : n ≤ 1000) (hk : k < 64) (hrow : row.length ≤ 64000) :
    Calls Tryd.prog 90 #[.int .i64 k, .pointer (some ⟨X2, 0, none⟩), .pointer (some ⟨X1, 0, none⟩)] w fun e w' => e = .returned (.tuple #[]) ∧ ∃ ou' no', Var2 base W0 w' X1 X2 ou' no' n (Sp.part now k) (row ++ now.map (fun v => v.testBit k)) := by
  obtain ⟨pn, cn, rfl, hcn⟩ := own_slice h.o2
  have hcell := h.c2
  have H0 := hide h
  have HV := hide hv
  have HL := hide hlen
  clear h hv hlen
  go_enter Tryd.func90, Tryd.ntmps90
  go_wp2
  go_loopw [8] (fun ii wr => ∃ (i : Nat) (ou : Value), i ≤ n ∧ ii = .int .i64 i ∧ Var2 base W0 wr X1 X2 ou (.slice pn n cn) n now (row ++ bts now k i)) (fun ii _ => n - (intOf ii).toNat)
  case atStart => exact ⟨0, ou, Nat.zero_le _, rfl, by simpa [bts] using unhide H0⟩
  case round =>
    obtain ⟨i, ou, hi, rfl, hst⟩ := hrel
    clear H0 hcell
    by_cases hlt : i < n
    · have hlt' : i < now.length := by rw [unhide HL]; exact hlt
      obtain ⟨b, o, hpe, hb, hc⟩ := (Rd.owned hst.o2).at i _ (U64_at now i hlt')
      subst hpe
      have hx : now[i] < 18446744073709551616 := unhide HV _ (List.getElem_mem hlt')
      have HC := hide (fun W => has_any now[i] k W hx hk)
      have HBT := hide (bts_snoc (k := k) hlt')
      have hc1 := hst.c1
      have hf1 := hst.f1
      have hca : ∀ o, (wr.alloc o).cell? ⟨X1, 0, none⟩ = some ou := fun o => (((Below.refl wr.heap.size wr).alloc (Nat.le_refl _) o).cell (p := ⟨X1, 0, none⟩) (World.block_lt_of_cell? _ _ hc1)).trans hc1
      have hsz : base ≤ wr.heap.size := Nat.le_trans hb0 hst.bel.size
      have hrl : (row ++ bts now k i).length ≤ 10000000000000 := by
        rw [List.length_append]
        have : (bts now k i).length ≤ i := by unfold bts; rw [List.length_map]; exact List.length_take_le _ _
        omega
      have HST := hide hst
      clear hst
      generalize hxx : now[i] = x at *
      clear hxx
      generalize x.testBit k = bit at *
      generalize hrr : row ++ bts now k i = r at *
      have HRR := hide hrr
      clear hrr
      go_wp2_with fail
      go_region_law (first
        | (refine step_app _ (by rfl) (.tmp 12) (.tmp 16) 117 (by rfl) base 4 (.bool false) 1 Tryd.underlying117 Ty.bool rfl ou _ _ (by rfl) ((unhide HST).o1.alloc _) _ _ (by rfl) ⟨_, Rd.one wr (.bool bit) 4⟩ (one_bool _) (room1 hrl) (room1b hrl) (by simp; omega) ?_; intro v1 w1 hown1 hg1 hb1; obtain ⟨p1, c1, rfl, _⟩ := own_slice hown1; have R := Var2.put (unhide HST) hb0 hx1 hne hown1 (grown_drew hg1) hb1; have hcw := R.1; have hfw := R.2.1; have HR := hide R.2.2; clear R hown1 hg1 hb1)
        | (rw [if_pos (by simp [Region.wanted])]; go_simp; go_at_call 65; refine at_same (unhide HC _) ?_))
      all_goals go_wp2
      all_goals
        go_roundw
        case rel => exact ⟨i + 1, _, by omega, by go_num, by rw [unhide HBT, ← List.append_assoc, unhide HRR]; exact unhide HR⟩
        case measure => simp [intOf]; omega
    · have he : i = n := by omega
      subst he
      have hbt : bts now k i = now.map (fun v => v.testBit k) := by unfold bts; rw [List.take_of_length_le (by rw [unhide HL]; exact Nat.le_refl _)]
      rw [hbt] at hst
      have hc2 := hst.c2
      have hf2 := hst.f2
      have HP := hide (parted_any pn _ i cn k now wr (Rd.owned hst.o2) (Nat.le_refl _) (unhide HV) hn hk)
      have hsz : base ≤ wr.heap.size := Nat.le_trans hb0 hst.bel.size
      have HST := hide hst
      clear hst hbt
      go_wp2_with fail
      refine (unhide HP).mono ?_
      rintro e w1 ⟨v1, rfl, ho1, hb1⟩
      obtain ⟨p1, c1, rfl, _⟩ := own_slice ho1
      have R := Var2.turn (unhide HST) hx2 hne hsz ho1 hb1
      have hcw := R.1
      have hfw := R.2.1
      have HR := hide R.2.2
      clear R ho1 hb1
      go_wp2
      go_end0
      exact ⟨rfl, _, _, unhide HR⟩

/-- What the layers' way down holds. -/
structure LaySt (base : Nat) (W0 w : World) (X1 X2 wd n : Nat) (ly : List Bool) (k : Nat) : Prop where
  ex : ∃ ou no now done, Var2 base W0 w X1 X2 ou no n now done ∧ now.length = n ∧ (∀ x ∈ now, x < 18446744073709551616) ∧ ly = done ++ Sp.lay now k ∧ done.length = (wd - k) * n

set_option maxHeartbeats 1000000 in
theorem down_any (base : Nat) (W0 w : World) (X1 X2 wd n : Nat) (ly : List Bool) (h : LaySt base W0 w X1 X2 wd n ly wd) (hb0 : base ≤ W0.heap.size) (hx1 : base ≤ X1) (hx2 : base ≤ X2) (hne : X1 ≠ X2) (hn : n ≤ 1000) (hwd : wd ≤ 64) :
    Calls Tryd.prog 89 #[.int .i64 wd, .func (Fn.func 90) #[] #[.pointer (some ⟨X2, 0, none⟩), .pointer (some ⟨X1, 0, none⟩)]] w fun e w' => e = .returned (.tuple #[]) ∧ LaySt base W0 w' X1 X2 wd n ly 0 := by
  have H0 := hide h
  clear h
  go_enter Tryd.func89, Tryd.ntmps89
  go_wp2
  go_loopw [4] (fun kk wr => ∃ k : Nat, k ≤ wd ∧ kk = .int .i64 ((k : Int) - 1) ∧ LaySt base W0 wr X1 X2 wd n ly k) (fun kk _ => (intOf kk + 1).toNat)
  case atStart => exact ⟨wd, Nat.le_refl _, rfl, unhide H0⟩
  case round =>
    obtain ⟨k, hk, rfl, hst⟩ := hrel
    clear H0
    cases k with
    | zero =>
      have HST := hide hst
      clear hst
      go_wp2
      go_end0
      exact ⟨rfl, unhide HST⟩
    | succ k =>
      rw [show (((k + 1 : Nat) : Int) - 1) = (k : Int) from by omega]
      obtain ⟨ou, no, now, done, hv2, hlen, hbig, heq, hdl⟩ := hst.ex
      have hdn : done.length ≤ 64000 := by rw [hdl]; exact Nat.mul_le_mul (show wd - (k + 1) ≤ 64 by omega) hn
      have HC := hide (clos_any base W0 wr X1 X2 ou no n k now done hv2 hb0 hx1 hx2 hne hbig hlen hn (by omega) hdn)
      have HN : Hid (∀ w' ou' no', Var2 base W0 w' X1 X2 ou' no' n (Sp.part now k) (done ++ now.map (fun v => v.testBit k)) → LaySt base W0 w' X1 X2 wd n ly k) := by
        intro w' ou' no' hv'
        refine ⟨ou', no', _, _, hv', by rw [Sp.part_len]; exact hlen, fun x hx => hbig x (Sp.part_mem hx), ?_, ?_⟩
        · rw [heq, List.append_assoc]; rfl
        · rw [List.length_append, List.length_map, hlen, hdl, show wd - k = wd - (k + 1) + 1 from by omega, Nat.succ_mul]
      clear hst hv2 hlen hbig heq hdl hdn
      go_wp2_with fail
      refine (unhide HC).mono ?_
      rintro e w1 ⟨rfl, ou', no', hv'⟩
      have HS := hide (HN.out w1 ou' no' hv')
      clear hv'
      go_wp2
      go_roundw
      case rel => exact ⟨k, by omega, rfl, unhide HS⟩
      case measure => simp [intOf]

theorem lay_start {w W1 w1 w2 : World} {p2 : Option Addr} {c2 wd n : Nat} {vs : List Nat} {v0 : Value} (hW : W1.heap.size = w.heap.size + 1) (hlen : vs.length = n) (hbig : ∀ x ∈ vs, x < 18446744073709551616) (hown1 : w1.ownsRow (w.heap.size + 1) 4 1 v0 0 []) (hb1 : Below (w.heap.size + 1) W1 w1)
    (ho2 : w2.ownsRow (w1.heap.size + 1) 27 1 (.slice p2 vs.length c2) vs.length (U64 vs)) (hb2 : Below (w1.heap.size + 1) (w1.alloc (.cells #[v0] 117)) w2) (hw : wd = Sp.widthOf vs) :
    LaySt (w.heap.size + 1) W1 (w2.alloc (.cells #[.slice p2 vs.length c2] 22)) w1.heap.size w2.heap.size wd n (Sp.layers vs) wd := by
  have s1 := hb1.size
  have s2 := hb2.size
  simp at s2
  rw [hW] at s1
  have q1 : (w2.alloc (.cells #[.slice p2 vs.length c2] 22)).heap[w1.heap.size]? = some (.cells #[v0] 117) := by
    rw [Below.heap_alloc _ _ _ (by omega), hb2.block _ (by omega)]
    exact heap_alloc_new _ _
  have q2 : (w2.alloc (.cells #[.slice p2 vs.length c2] 22)).heap[w2.heap.size]? = some (.cells #[.slice p2 vs.length c2] 22) := heap_alloc_new _ _
  have lt0 : ∀ g, v0.ownBlock = some g → g < w1.heap.size := fun g hg => (hown1.lt g hg).2
  have o1 : (w2.alloc (.cells #[.slice p2 vs.length c2] 22)).ownsRow (w.heap.size + 1) 4 1 v0 0 [] := by
    refine (own_below (hown1.alloc (.cells #[v0] 117)) hb2 ?_).alloc _
    intro k hk
    have := lt0 k hk
    omega
  refine ⟨v0, .slice p2 vs.length c2, vs, [], ⟨?_, ?_, ?_, ?_, o1, ?_, ?_, ?_, ?_, ?_⟩, hlen, hbig, by rw [hw]; rfl, by simp⟩
  · rw [cell_of_row _ _ _ _ _ (0, 0) q1]; rfl
  · rw [cell_of_row _ _ _ _ _ (0, 0) q2]; rfl
  · exact frozen_of_row _ _ _ _ _ q1
  · exact frozen_of_row _ _ _ _ _ q2
  · rw [← hlen]
    exact own_base (ho2.alloc _) (by omega)
  · intro k h1 h2
    have := (ho2.lt k h1).1
    have := lt0 k h2
    omega
  · intro g hg
    have := lt0 g hg
    omega
  · intro g hg
    have := ho2.lt g hg
    omega
  · exact (((hb1.alloc (by omega) _).trans (hb2.mono (by omega)))).alloc (by omega) _

set_option maxHeartbeats 1000000 in
theorem lof_any (p : Option Addr) (B n c wd : Nat) (vs : List Nat) (w : World) (hr : Rd B w (.slice p n c) (U64 vs)) (hB : B ≤ w.heap.size) (hbig : ∀ x ∈ vs, x < 18446744073709551616) (hn : n ≤ 1000) (hwd : wd = Sp.widthOf vs) :
    Calls Tryd.prog 59 #[.slice p n c] w fun e w' => ∃ yw ya, e = .returned (.agg #[yw, ya, .int .i64 ((Sp.layers vs).length : Nat), .int .i64 (wd : Nat), .int .i64 (n : Nat)]) ∧ RowIs w.heap.size w' yw ya (Sp.layers vs) ∧ Below w.heap.size w w' := by
  obtain ⟨hl, hlc⟩ := hr.len
  rw [U64_len] at hl
  have h64 : wd ≤ 64 := by rw [hwd]; exact Sp.widthOf_le vs hbig
  have hll : (Sp.layers vs).length ≤ 64000 := by
    unfold Sp.layers
    rw [Sp.lay_len]
    exact Nat.mul_le_mul (Sp.widthOf_le vs hbig) (show vs.length ≤ 1000 by omega)
  have HR := hide hr
  have HL := hide hl
  have HBG := hide hbig
  have HWD := hide hwd
  obtain ⟨i0, hi0, hz0, hz1, hz2⟩ := info_parts Ty.bool
  have HI := hide (And.intro hi0 (And.intro hz0 (And.intro hz1 hz2)))
  clear hz2 hi0 hz0 hz1 hr hl hbig hwd
  have hmq : wd * n ≤ 64000 := Nat.mul_le_mul h64 hn
  have hmqi : (wd : Int) * (n : Int) ≤ 64000 := by rw [show (wd : Int) * (n : Int) = ((wd * n : Nat) : Int) from by simp]; exact Int.ofNat_le.2 hmq
  have hmq0 : (0 : Int) ≤ (wd : Int) * (n : Int) := by rw [show (wd : Int) * (n : Int) = ((wd * n : Nat) : Int) from by simp]; exact Int.natCast_nonneg _
  have HWI := hide (fun (o : Obj) => lwidth_any p B n c vs (w.alloc o) ((unhide HR).alloc hB o) (unhide HBG) (by omega))
  rw [← unhide HWD] at HWI
  go_enter Tryd.func59, Tryd.ntmps59
  go_wp2_with (first | (go_at_call 87; refine at_same (unhide HWI _) ?_) | (at_make; refine wpList_make_own _ rfl (.const (.int .i64 0)) (.tmp 11) 117 rfl (w.heap.size + 1) 4 i0 (.bool false) 1 Tryd.underlying117 (unhide HI).1 (unhide HI).2.1 (unhide HI).2.2.1 .i64 .i64 _ (wd * n) rfl rfl (by simp) (by rw [(unhide HI).2.2.2]; omega) (by unfold maxLen; omega) (by simp) ?_; intro w1 hown1 hg1))
  have hb1 : Below (w.heap.size + 1) (w.alloc (Obj.cells #[Value.slice none 0 0, Value.slice none 0 0, Value.int IntKind.i64 0, Value.int IntKind.i64 0, Value.int IntKind.i64 0] 70)) w1 := (Below.refl _ _).grown hg1 (by simp) (by intro k hk; cases hk)
  have HW : Hid (ResB w.heap.size w (w.alloc (Obj.cells #[Value.slice none 0 0, Value.slice none 0 0, Value.int IntKind.i64 0, Value.int IntKind.i64 0, Value.int IntKind.i64 0] 70)) #[Value.slice none 0 0, Value.slice none 0 0, Value.int IntKind.i64 0, Value.int IntKind.i64 0, Value.int IntKind.i64 0] 70 ∧ Rd B (w.alloc (Obj.cells #[Value.slice none 0 0, Value.slice none 0 0, Value.int IntKind.i64 0, Value.int IntKind.i64 0, Value.int IntKind.i64 0] 70)) (.slice p n c) (U64 vs)) :=
    ⟨ResB.start _ _ _, (unhide HR).alloc hB _⟩
  generalize w.alloc (Obj.cells #[Value.slice none 0 0, Value.slice none 0 0, Value.int IntKind.i64 0, Value.int IntKind.i64 0, Value.int IntKind.i64 0] 70) = W1 at *
  have hHs : w.heap.size + 1 ≤ W1.heap.size := Nat.le_of_eq (unhide HW).1.size.symm
  rw [(unhide HW).1.size] at hown1
  have hs1 := hb1.size
  have HS := hide (And.intro hown1 hb1)
  clear hown1 hg1 hb1 HR
  refine (clone64_any p B n c vs _ (((unhide HW).2.below ((unhide HS).2.mono (by omega))).alloc (by omega) _) (by simp; omega) (by omega)).mono ?_
  rintro e w2 ⟨v2, rfl, o2, b2⟩
  obtain ⟨p2, c2, rfl, hc2⟩ := own_slice o2
  have HD := hide (lay_start (unhide HW).1.size (unhide HL).symm (unhide HBG) (unhide HS).1 (unhide HS).2 (by simpa using o2) (by simpa using b2) (unhide HWD))
  have hs2 := b2.size
  simp at hs2
  have HDN := hide (down_any _ _ _ _ _ _ _ _ (unhide HD) hHs (by omega) (by omega) (by omega) hn h64)
  clear o2 b2 hc2
  go_wp2_with fail
  refine (unhide HDN).mono ?_
  rintro e w3 ⟨rfl, hst⟩
  obtain ⟨ou, no, now, done, hv2, hlen, hbg, heq, hdl⟩ := hst.ex
  have hdone : Sp.layers vs = done := by rw [heq]; simp [Sp.lay]
  have hc1 := hv2.c1
  have HV2 := hide hv2
  have HDE := hide hdone
  clear hst hv2 hlen hbg heq hdl hdone HDN HD
  go_wp2_with fail
  refine (rowOf_v (Rd.owned (unhide HV2).o1) (Nat.le_refl _) (by rw [← unhide HDE]; omega)).mono ?_
  rintro e w4 ⟨yw, ya, rfl, ho4, hb4⟩
  obtain ⟨pw, cw, pa, ca, rfl, rfl⟩ := ho4.form
  have HX := hide (ResB.end (unhide HW).1 (unhide HV2).bel ho4 hb4 [.slice pw (done.length / 64 + 1) cw, .slice pa (done.length / 64 + 1) ca, .int .i64 (done.length : Nat), .int .i64 (wd : Nat), .int .i64 (n : Nat)] (by simp))
  have c0 := (unhide HX).1 0 _ rfl
  have c1 := (unhide HX).1 1 _ rfl
  have c2 := (unhide HX).1 2 _ rfl
  have c3 := (unhide HX).1 3 _ rfl
  have c4 := (unhide HX).1 4 _ rfl
  have hf4 := (unhide HX).2.1
  have g0 := (unhide HX).2.2.1 0 _ rfl
  have g1 := (unhide HX).2.2.1 1 _ rfl
  have g2 := (unhide HX).2.2.1 2 _ rfl
  have g3 := (unhide HX).2.2.1 3 _ rfl
  have g4 := (unhide HX).2.2.1 4 _ rfl
  simp only [setAll, Nat.zero_add, Nat.reduceAdd] at g0 g1 g2 g3 g4
  have HG := hide (And.intro g0 (And.intro g1 (And.intro g2 (And.intro g3 g4))))
  clear ho4 hb4 g0 g1 g2 g3 g4 hc1
  go_wp2
  refine bodyPost_ret (v := .agg #[.slice pw (done.length / 64 + 1) cw, .slice pa (done.length / 64 + 1) ca, .int .i64 (done.length : Nat), .int .i64 (wd : Nat), .int .i64 (n : Nat)]) (by simp [results, Tryd.results59, go_sem, (unhide HG).1, (unhide HG).2.1, (unhide HG).2.2.1, (unhide HG).2.2.2.1, (unhide HG).2.2.2.2]) rfl ?_
  rw [unhide HDE]
  exact ⟨_, _, rfl, (unhide HX).2.2.2⟩
end Pr
end Go.Proofs.YtolkjadklbchfaaDoor
