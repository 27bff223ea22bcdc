import PyProof.Rows.All
import Wide.All
import OpenK.AllK
import Wide.FinOn
import HandS.TupSets
import KE.KeyNested
import KE.SortCalls
import KE.SortKeyed
import HandS.ForExc
import HandS.List
import HandS.Base
import HandS.Call
import HandS.Ends
import HandS.Exc
import HandS.ExcOwn
import HandS.Comp
import HandS.Iter
import HandS.Lambda
import KE.KDictKeyed
import HandS.Words
import HandS.Style
import HandS.Conv
import HandS.RaiseMore
import HandS.IsInst
import HandS.TupAny
import HandS.TryOnly
import HandS.WordsExc
import PyProof.Rows.Range3
import PyProof.ListRange
import PyProof.ConsumeWalk
import HandS.Flow
import HandS.Deep
import HandS.Property
import HandS.Codes
import KE.KFmtOwn
import PyProof.InstEq
import KE.DataMinMax
import HandS.More
import PyProof.Rows.InDataRows
import HandS.ExcIs
import HandS.ExcValue
import HandS.Zip
import PyProof.Rows.CountFlat
import HandS.DictTup
import HandS.Records
import HandS.DictComp
import KE.KDictSum
import KE.KDictCopyH
import KE.KDictList
import HandS.DictEq
import KE.KDictPairs
import PyProof.ReprLen
import KE.KDictDisplayH
import HandS.EndOwn
import PyProof.SetRoads
import HandS.OwnEq
import PySem.Challenge.RW_loosecursors_k35_fewest_calls
set_option Elab.async false
set_option linter.all false
set_option maxRecDepth 100000
set_option maxHeartbeats 4000000
set_option autoImplicit false
namespace Rz.Sx
open PySem PySem.Spec PyProof.Rows L2
structure Mk (P : Program) (w : World) (κ : Type) [DecidableEq κ] where
  kd : HeapKind P w κ
  ok : κ → Prop
  stay : ∀ {h h' : Heap} {k : κ} {b : Addr}, kd.is h k b → (∀ c o vs n, h.get? c = some o → o.data = .seq vs n → h'.get? c = some o) → kd.is h' k b
  seq : ∀ {h : Heap} {k : κ} {b : Addr}, kd.is h k b → ∃ o vs n, h.get? b = some o ∧ o.data = .seq vs n
  cls : ∀ {A : Around} {E : Value → Shared → Prop} {s : Shared} {k : κ} {b : Addr} {Q : Bool → Shared → Prop}, kd.is s.heap k b → Q false s → wpAny (model P w) A (ofAClassStatement 8 (.ref b)) Q E s
  byv : ∀ {A : Around} {E : Value → Shared → Prop} {s : Shared} {k : κ} {b : Addr} {Q : Bool → Shared → Prop}, ok k → kd.is s.heap k b → Q true s → wpAny (model P w) A (hashByValue 8 (.ref b)) Q E s
section
variable {P : Program} {w : World} {κ : Type} [DecidableEq κ] (M : Mk P w κ)
abbrev hsh (r : Addr × κ) : Int := M.kd.hash r.2
abbrev cellOf (r : Addr × κ) : Int × Value := (hsh M r, .ref r.1)
structure At (h : Heap) (a : Addr) (L : List (Addr × κ)) (es : Array (Int × Value)) (ep : Nat) (t : SetTable) : Prop where
  obj : ∃ o, h.get? a = some o ∧ o.ExactSet ∧ o.data = .set es ep t
  cells : es.toList = L.map (cellOf M)
  tab : TabOk t (L.map (hsh M))
  nd : (L.map Prod.snd).Nodup
  keys : ∀ r ∈ L, M.kd.is h r.2 r.1
  plain : t.plain = true
  led : w.params.followText "set-order" = true ∨ t.led = true
  room : L.length * 5 < t.mask * 3
  few : L.length < 64
variable {M} {A : Around} {E : Value → Shared → Prop} {s : Shared} {a : Addr} {L : List (Addr × κ)} {es : Array (Int × Value)} {ep : Nat} {t : SetTable}
theorem cells_len {L : List (Addr × κ)} {es : Array (Int × Value)} (h : es.toList = L.map (cellOf M)) : es.size = L.length := by
  have := congrArg List.length h
  simpa using this
theorem cells_at {L : List (Addr × κ)} {es : Array (Int × Value)} (h : es.toList = L.map (cellOf M)) {i : Nat} {r : Addr × κ} (e : L[i]? = some r) : es[i]? = some (cellOf M r) := by
  rw [← Array.getElem?_toList, h, List.getElem?_map, e]
  rfl
theorem At.sz (R : At M s.heap a L es ep t) : t.place.size = L.length := by simpa using R.tab.sz
theorem At.fits (R : At M s.heap a L es ep t) : t.fits es.size = true := by
  have h1 := R.sz
  have h2 := cells_len R.cells
  have h3 := R.room
  unfold SetTable.fits SetTable.fill
  simp only [R.tab.dm, Bool.and_eq_true, beq_iff_eq, decide_eq_true_eq, Array.size_empty]
  omega
theorem nth_dummy {m : Nat} : ∀ (n : Nat) (p : SetTable.Probe), p.dummy = none → (nth m p n).dummy = none
  | 0, _, h => h
  | n + 1, p, h => nth_dummy n (adv m p) (by unfold adv; split <;> exact h)
theorem seen_no {x : Addr} {k : κ} (hx : M.kd.is s.heap k x) {Q : Bool → Shared → Prop} (q : Q false s) : ∀ {ys : List Value}, (∀ y ∈ ys, ∃ r : Addr × κ, y = .ref r.1 ∧ M.kd.is s.heap r.2 r.1) → wpAny (model P w) A (searchCouldBeSeen (.ref x) ys) Q E s := by
  intro ys hy
  unfold searchCouldBeSeen
  refine wpAny_bind (wpAny_forIn_list _ (fun rest st s' => s' = s ∧ st.1 = none ∧ ∀ y ∈ rest, ∃ r : Addr × κ, y = .ref r.1 ∧ M.kd.is s.heap r.2 r.1) _ ?turn ?last _ _ ⟨rfl, rfl, hy⟩)
  case turn =>
    rintro v rest st s' ⟨rfl, e, all⟩
    obtain ⟨⟨c, k'⟩, rfl, hc⟩ := all v List.mem_cons_self
    have tl : ∀ y ∈ rest, ∃ r : Addr × κ, y = .ref r.1 ∧ M.kd.is s'.heap r.2 r.1 := fun y m => all y (List.mem_cons_of_mem _ m)
    by_cases same : (x == c || (carriedByValue (.ref x) && carriedByValue (.ref c))) = true
    · exact wp_if_pos same (wpAny_pure ⟨rfl, rfl, tl⟩)
    · refine wp_if_neg same (wpAny_bind (M.kd.quiet hx ?_))
      simp only [Bool.not_true, Bool.false_eq_true, if_false]
      refine wpAny_bind (M.kd.quiet hc ?_)
      simp only [Bool.not_true, Bool.false_eq_true, if_false]
      refine wpAny_bind (M.cls hx ?_)
      simp only [Bool.false_eq_true, if_false]
      refine wpAny_bind (M.cls hc ?_)
      simp only [Bool.false_eq_true, if_false]
      exact wpAny_pure ⟨rfl, rfl, tl⟩
  case last =>
    rintro ⟨r1, r2⟩ s' ⟨rfl, e, _⟩
    simp only at e
    subst e
    exact wpAny_pure q
abbrev wy (t : SetTable) (h : Int) : Nat → Nat := way t.mask h
abbrev stp (t : SetTable) (h : Int) (c : Nat) : SetTable.Probe := nth t.mask (runAt t.mask (SetTable.bits h % (t.mask + 1)) (SetTable.bits h)) c
theorem stp_add (t : SetTable) (h : Int) (c q : Nat) : nth t.mask (stp t h c) q = stp t h (c + q) := (nth_add t.mask c _ q).symm
theorem look_from (R : At M s.heap a L es ep t) {x : Addr} {k : κ} (hx : M.kd.is s.heap k x) (hu : M.kd.room A) {K : Nat} (hKf : K < 10 * SetTable.turns t.mask) (hK : wy t (M.kd.hash k) K ∉ t.place.toList) (hb : ∀ c, c < K → wy t (M.kd.hash k) c ∈ t.place.toList)
    {ad : Bool} {Q : SetFound → Shared → Prop} (yes : k ∈ L.map Prod.snd → (ad = true → Q (.there none) s) ∧ (ad = false → ∀ i, Q (.there (some i)) s)) (no : k ∉ L.map Prod.snd → Q (.free (wy t (M.kd.hash k) K) false) s) :
    ∀ (f c : Nat) (st : Option SetTable.Probe), st.getD (t.probeStart (M.kd.hash k)) = stp t (M.kd.hash k) c → c ≤ K → K - c < f → (∀ (i : Nat) r, L[i]? = some r → r.2 = k → ∃ c', c ≤ c' ∧ c' < K ∧ t.place.toList[i]? = some (wy t (M.kd.hash k) c')) →
      wpAny (model P w) A (setSearchFrom a (.ref x) (M.kd.hash k) ad f st) Q E s := by
  intro f
  induction f with
  | zero => exact fun c st _ _ z _ => absurd z (Nat.not_lt_zero _)
  | succ f ih =>
    intro c st hst hc hf left
    generalize eh : M.kd.hash k = hk at *
    obtain ⟨o, ho, hex, hd⟩ := R.obj
    rw [setSearchFrom_succ]
    refine wpAny_bind (wpAny_setState_of ho hd R.fits ?_)
    dsimp only
    refine wp_if_neg (show ¬ t.gaveWay = true by unfold SetTable.gaveWay; rw [mask_odd R.tab.mok]; decide) ?_
    try refine wpAny_bind (wpAny_pure ?_)
    have way_ : ∀ q, (nth t.mask (stp t hk c) q).j = wy t hk (c + q) := fun q => congrArg SetTable.Probe.j (stp_add t hk c q)
    have hAt : ∀ (i : Nat) r, L[i]? = some r → (fun i => (es[i]?.map (·.1)).getD 0) i = hsh M r := fun i r e => by
      show (es[i]?.map (·.1)).getD 0 = _
      rw [cells_at R.cells e]
      rfl
    rcases go_spec t R.tab.ris R.tab.dm (fun i => (es[i]?.map (·.1)).getD 0) hk (10 * SetTable.turns t.mask) (K - c) (stp t hk c) (nth_dummy c _ rfl) (by omega) (fun q hq => by rw [way_]; exact hb _ (by omega)) (by rw [way_, Nat.add_sub_cancel' hc]; exact hK) with ⟨q, i, hq, hi, hh, ahead, pr⟩ | ⟨ahead, pr⟩
    · have pr' : t.probe (fun i => (es[i]?.map (·.1)).getD 0) hk (st.getD (t.probeStart hk)) = some (.candidate (wy t hk (c + q)) i (stp t hk (c + (q + 1)))) := by
        rw [hst, ← way_, ← stp_add]
        exact pr
      rw [pr']
      dsimp only
      rw [way_] at hi
      have il : i < L.length := by
        have z := (List.getElem?_eq_some_iff.mp hi).1
        have z2 := R.sz
        rw [Array.length_toList] at z
        omega
      obtain ⟨r, hr⟩ : ∃ r, L[i]? = some r := ⟨_, List.getElem?_eq_getElem il⟩
      have rm : r ∈ L := List.mem_of_getElem? hr
      have live : t.slot (wy t hk (c + q)) = .live i := slot_live R.tab.ris hi
      have tail : wpAny (model P w) A (searchRest a (.ref x) hk ad f es t (wy t hk (c + q)) i (stp t hk (c + (q + 1)))) Q E s := by
        unfold searchRest
        rw [cells_at R.cells hr]
        dsimp only
        refine wpAny_bind (wpAny_holding (M.kd.eqBool hu (R.keys r rm) hx ?_))
        refine wpAny_bind (wpAny_setState_of ho hd R.fits ?_)
        dsimp only
        have sm : t.sameMemory t.moves t.mask = some true := by unfold SetTable.sameMemory; rw [if_pos (beq_self_eq_true _)]
        by_cases e : r.2 = k
        · obtain ⟨y1, y2⟩ := yes (List.mem_map.mpr ⟨r, rm, e⟩)
          cases ad with
          | true => exact wp_if_pos (by simp [e]) (wpAny_pure (y1 rfl))
          | false =>
            refine wp_if_neg (by simp) ?_
            try refine wpAny_bind (wpAny_pure ?_)
            rw [sm]
            dsimp only
            simp only [if_true, live, cells_at R.cells hr]
            refine wpAny_bind (wpAny_isSame_ref_self (wpAny_bind (wpAny_pure ?_)))
            simp only [if_true]
            exact wp_if_pos (by simp [e]) (wpAny_pure (y2 rfl i))
        · refine wp_if_neg (by simp [e]) ?_
          try refine wpAny_bind (wpAny_pure ?_)
          rw [sm]
          dsimp only
          simp only [if_true, live, cells_at R.cells hr]
          refine wpAny_bind (wpAny_isSame_ref_self (wpAny_bind (wpAny_pure ?_)))
          simp only [if_true]
          refine wp_if_neg (by simp [e]) (ih (c + (q + 1)) _ rfl (by omega) (by omega) fun i0 r0 h0 k0 => ?_)
          obtain ⟨c', l1, l2, l3⟩ := left i0 r0 h0 k0
          refine ⟨c', ?_, l2, l3⟩
          have h0' : hsh M r0 = hk := by show M.kd.hash r0.2 = hk; rw [k0, eh]
          rcases Nat.lt_trichotomy c' (c + q) with z | z | z
          · exact absurd ((hAt i0 r0 h0).trans h0') (ahead (c' - c) i0 (by omega) (by rw [way_, Nat.add_sub_cancel' l1]; exact l3))
          · rw [z] at l3
            have s0 := slot_live R.tab.ris l3
            rw [live] at s0
            injection s0 with s0
            rw [← s0, hr] at h0
            cases h0
            exact absurd k0 e
          · omega
      by_cases hl : t.led = true
      · refine wp_if_neg (by simp [hl]) ?_
        try refine wpAny_bind (wpAny_pure ?_)
        exact tail
      · refine wp_if_pos (by simp [hl]) (wpAny_bind (seen_no hx ?_ fun y hy => ?_))
        · refine wp_if_neg (by decide) ?_
          try refine wpAny_bind (wpAny_pure ?_)
          exact tail
        · obtain ⟨e, he, rfl⟩ := List.mem_map.mp hy
          have he' : e ∈ es.toList := by
            have := (List.mem_filter.mp (by simpa using he : e ∈ es.toList.filter (·.1 == hk))).1
            exact this
          rw [R.cells] at he'
          obtain ⟨r, hr, rfl⟩ := List.mem_map.mp he'
          exact ⟨r, rfl, R.keys r hr⟩
    · have pr' : t.probe (fun i => (es[i]?.map (·.1)).getD 0) hk (st.getD (t.probeStart hk)) = some (.empty (wy t hk K) none) := by
        have z : wy t hk K = (nth t.mask (stp t hk c) (K - c)).j := by rw [way_, Nat.add_sub_cancel' hc]
        rw [hst, z]
        exact pr
      rw [pr']
      dsimp only
      refine wpAny_pure (no fun hm => ?_)
      obtain ⟨r0, m0, k0⟩ := List.mem_map.mp hm
      obtain ⟨i0, l0, e0⟩ := List.getElem_of_mem m0
      have h0 : L[i0]? = some r0 := by rw [List.getElem?_eq_getElem l0, e0]
      obtain ⟨c', l1, l2, l3⟩ := left i0 r0 h0 k0
      refine ahead (c' - c) i0 (by omega) (by rw [way_, Nat.add_sub_cancel' l1]; exact l3) ((hAt i0 r0 h0).trans ?_)
      show M.kd.hash r0.2 = hk
      rw [k0, eh]
end
end Rz.Sx
namespace Rz.Sx
open PySem PySem.Spec PyProof.Rows L2
section
variable {P : Program} {w : World} {κ : Type} [DecidableEq κ] {M : Mk P w κ} {A : Around} {E : Value → Shared → Prop} {s : Shared} {a : Addr} {L : List (Addr × κ)} {es : Array (Int × Value)} {ep : Nat} {t : SetTable}
theorem look (R : At M s.heap a L es ep t) {x : Addr} {k : κ} (hx : M.kd.is s.heap k x) (hu : M.kd.room A) {ad : Bool} {Q : SetFound → Shared → Prop} (yes : k ∈ L.map Prod.snd → (ad = true → Q (.there none) s) ∧ (ad = false → ∀ i, Q (.there (some i)) s))
    (no : ∀ K, k ∉ L.map Prod.snd → wy t (M.kd.hash k) K ∉ t.place.toList → (∀ c, c < K → wy t (M.kd.hash k) c ∈ t.place.toList) → Q (.free (wy t (M.kd.hash k) K) false) s) : wpAny (model P w) A (setSearch a (.ref x) (M.kd.hash k) ad) Q E s := by
  have rm := R.room
  obtain ⟨K, k1, k2, k3⟩ := R.tab.first (by rw [List.length_map]; omega) (M.kd.hash k)
  have few : K < 100000 := by
    have : 10 * SetTable.turns t.mask ≤ 1420 := by
      unfold SetTable.turns
      rcases R.tab.mok with e | e | e <;> omega
    omega
  refine look_from R hx hu k1 k2 k3 yes (fun n => no K n k2 k3) 100000 0 none rfl (Nat.zero_le _) (by omega) fun i r hr hk => ?_
  have il : i < t.place.toList.length := by
    have := (List.getElem?_eq_some_iff.mp hr).1
    have := R.sz
    rw [Array.length_toList]
    omega
  have hj := List.getElem?_eq_getElem il
  obtain ⟨c, hc, e⟩ := R.tab.before k2 (i := i) (h := M.kd.hash k) (by rw [List.getElem?_map, hr, ← hk]; rfl) hj
  exact ⟨c, Nat.zero_le _, hc, hj.trans (congrArg some e.symm)⟩
theorem still {h h' : Heap} {k : κ} {b : Addr} {o : Obj} (hb : M.kd.is h k b) (ho : h.get? a = some o) (hd : o.data = .set es ep t) (hs : Heap.SameBut a h h') : M.kd.is h' k b :=
  M.stay hb fun c u vs n e d => (hs.2 c fun z => by
    subst z
    rw [ho] at e
    cases e
    rw [hd] at d
    cases d).trans e
theorem kept {h h' : Heap} {k : κ} {b : Addr} (hb : M.kd.is h k b) (hs : ∀ c o, h.get? c = some o → h'.get? c = some o) : M.kd.is h' k b := M.stay hb fun c u _ _ e _ => hs c u e
theorem pick_rows (L : List (Addr × κ)) {es : Array (Int × Value)} (hc : es.toList = L.map (cellOf M)) : ∀ l : List Nat, (∀ i ∈ l, i < L.length) → l.filterMap (fun i => es[i]?) = (l.filterMap fun i => L[i]?).map (cellOf M) ∧ ((l.filterMap fun i => L[i]?).map (hsh M)) = l.map fun i => (es.map (·.1)).getD i 0
  | [], _ => ⟨rfl, rfl⟩
  | i :: l, h => by
    obtain ⟨e1, e2⟩ := pick_rows L hc l fun j hj => h j (List.mem_cons_of_mem _ hj)
    obtain ⟨r, hi⟩ : ∃ r, L[i]? = some r := ⟨_, List.getElem?_eq_getElem (h i List.mem_cons_self)⟩
    have hi' := cells_at hc hi
    have g : (es.map (·.1)).getD i 0 = hsh M r := by
      have : (es.map (·.1))[i]? = some (hsh M r) := by rw [Array.getElem?_map, hi']; rfl
      simp [Array.getD_eq_getD_getElem?, this]
    rw [List.filterMap_cons_some hi', List.filterMap_cons_some hi, List.map_cons, List.map_cons, List.map_cons, e1, e2, g]
    exact ⟨rfl, rfl⟩
theorem all_rows {α : Type} (L : List α) : (List.range L.length).filterMap (fun i => L[i]?) = L := by
  have key : ∀ n, n ≤ L.length → (List.range n).filterMap (fun i => L[i]?) = L.take n := by
    intro n
    induction n with
    | zero => intro _; rfl
    | succ n ih =>
      intro h
      have e := List.getElem?_eq_getElem (show n < L.length from h)
      rw [List.range_succ, List.filterMap_append, ih (Nat.le_of_lt h), List.take_succ, e, List.filterMap_cons_some e]
      rfl
  rw [key _ (Nat.le_refl _), List.take_length]
theorem grow {o : Obj} (ho : s.heap.get? a = some o) (hex : o.ExactSet) (hd : o.data = .set es ep t) (hc : es.toList = L.map (cellOf M)) (hz : t.place.size = es.size) (hdm : t.dummies = #[]) (hf : es.size ≤ t.mask) (nd : (L.map Prod.snd).Nodup) (ks : ∀ r ∈ L, M.kd.is s.heap r.2 r.1)
    (pl : t.plain = true) (ld : w.params.followText "set-order" = true ∨ t.led = true) (few : L.length < 64) {wanted m : Nat} (hw : SetTable.sizeAbove wanted - 1 = m) (hm : MaskOk m) (hw2 : SetTable.sizeAbove wanted ≤ 128) (hr : L.length * 5 < m * 3) {Q : Unit → Shared → Prop}
    (q : ∀ h' L' es' ep' t', Heap.SameBut a s.heap h' → At M h' a L' es' ep' t' → L'.Perm L → Q () { s with heap := h' }) : wpAny (model P w) A (setRelay a wanted) Q E s := by
  have n1 := cells_len hc
  obtain ⟨t', ord, e, hp, T, em, el, ep', ed⟩ := relaid_ok t (hs := es.map (·.1)) (wanted := wanted) hw hm (by rw [Array.size_map]; omega)
  rw [Array.size_map, n1] at hp
  obtain ⟨r1, r2⟩ := pick_rows (M := M) L hc ord.toList fun i hi => List.mem_range.mp (hp.mem_iff.mp hi)
  have pm : (ord.toList.filterMap fun i => L[i]?).Perm L := by
    have := hp.filterMap (fun i => L[i]?)
    rwa [all_rows] at this
  have r1' : (ord.filterMap (es[·]?)).toList = (ord.toList.filterMap fun i => L[i]?).map (cellOf M) := by
    rw [← r1]
    first | exact Array.toList_filterMap | simp
  rw [← r2] at T
  generalize ord.toList.filterMap (fun i => L[i]?) = L2 at r1' T pm
  have hs2 : (ord.filterMap (es[·]?)).size = es.size := by rw [cells_len r1', pm.length_eq, n1]
  rw [setRelay_eq]
  refine wpAny_bind (wpAny_setState_of ho hd (show t.fits es.size = true by
    unfold SetTable.fits SetTable.fill
    simp only [hdm, Bool.and_eq_true, beq_iff_eq, decide_eq_true_eq, Array.size_empty]
    omega) ?_)
  dsimp only
  refine wp_if_neg (by rw [sizeLine_eq]; omega) ?_
  try refine wpAny_bind (wpAny_pure ?_)
  rw [e]
  dsimp only
  refine wpAny_bind ?_
  refine wp_if_neg (by rw [hs2]; simp) ?_
  try refine wpAny_bind (wpAny_pure ?_)
  refine wpAny_pure ?_
  dsimp only
  refine wpAny_storeSet_of ho hd ?_ (by rw [hs2, sizeLine_eq]; omega)
  have sb : Heap.SameBut a s.heap (s.heap.update a (Obj.putSet (ord.filterMap (es[·]?)) t')) := Heap.SameBut.update ..
  refine q _ L2 (ord.filterMap (es[·]?)) (ep + 1) t' sb ⟨⟨_, store_at ho hd, ⟨hex.1, hex.2.1, hex.2.2⟩, rfl⟩, r1', T, (pm.map Prod.snd).nodup_iff.mpr nd, fun r hm => still (ks r (pm.mem_iff.mp hm)) ho hd sb, by rw [ep']; exact pl, by rw [el]; exact ld, by rw [pm.length_eq, em]; exact hr, by rw [pm.length_eq]; exact few⟩ pm
theorem ins_perm {α : Type} (L : List α) (p : Nat) (x : α) : (L.take p ++ x :: L.drop p).Perm (x :: L) := by
  have := @List.perm_middle α x (L.take p) (L.drop p)
  rwa [List.take_append_drop] at this
theorem put (R : At M s.heap a L es ep t) {x : Addr} {k : κ} (hx : M.kd.is s.heap k x) (hok : M.ok k) (hu : M.kd.room A) (few : k ∉ L.map Prod.snd → L.length + 1 < 64) {Q : Bool → Shared → Prop}
    (q : ∀ b h' L' es' ep' t', Heap.SameBut a s.heap h' → At M h' a L' es' ep' t' → (k ∈ L.map Prod.snd → L' = L) → (k ∉ L.map Prod.snd → L'.Perm ((x, k) :: L)) → Q b { s with heap := h' }) : wpAny (model P w) A (setAddHashed a (.ref x) (M.kd.hash k)) Q E s := by
  obtain ⟨o, ho, hex, hd⟩ := R.obj
  have n0 := cells_len R.cells
  have rm := R.room
  unfold setAddHashed
  refine wpAny_holding ?_
  rw [show (100000 : Nat) = 99999 + 1 from rfl, setAddHashedIn_succ]
  refine wpAny_bind (wpAny_setState_of ho hd R.fits ?_)
  dsimp only
  refine wp_if_neg (by simp [byScan, Value.scannable]) ?_
  try refine wpAny_bind (wpAny_pure ?_)
  refine wpAny_bind (look R hx hu (fun m => ⟨fun _ => ?_, (fun z => nomatch z)⟩) fun K m hK hb => ?_)
  · dsimp only
    exact wpAny_pure (q false s.heap L es ep t (Heap.SameBut.refl a s.heap) R (fun _ => rfl) fun z => absurd m z)
  · have few := few m
    dsimp only
    refine wpAny_bind (wpAny_setState_of ho hd R.fits ?_)
    dsimp only
    obtain ⟨q1, q2, q3, q4, q5, q6, q7, q8, q9⟩ := R.tab.put hK hb
    have pl1 : (t.put (way t.mask (M.kd.hash k) K)).1.plain = true := by rw [q6]; exact R.plain
    generalize ept : t.put (way t.mask (M.kd.hash k) K) = pt at q1 q3 q4 q5 q6 q7 q8 q9 pl1 ⊢
    obtain ⟨t1, j⟩ := pt
    dsimp only at q1 q3 q4 q5 q6 q7 q8 q9 pl1 ⊢
    subst q1
    first
      | (refine wpAny_bind ?_; refine wp_if_pos pl1 ?_; refine M.byv hok hx ?_)
      | refine wp_if_pos pl1 (wpAny_bind (M.byv hok hx ?_))
    simp only [if_true]
    have c1 : (SetTable.insertAt es (SetTable.below t.place (way t.mask (M.kd.hash k) K)) (M.kd.hash k, Value.ref x)).toList = (L.take (SetTable.below t.place (way t.mask (M.kd.hash k) K)) ++ (x, k) :: L.drop (SetTable.below t.place (way t.mask (M.kd.hash k) K))).map (cellOf M) := by
      rw [SetTable.toList_insertAt, R.cells, List.map_append, List.map_cons, List.map_take, List.map_drop]
    generalize SetTable.below t.place (way t.mask (M.kd.hash k) K) = j at q2 q3 c1 ⊢
    have pm := ins_perm L j (x, k)
    have ln : (L.take j ++ (x, k) :: L.drop j).length = L.length + 1 := pm.length_eq
    have hh : (L.take j ++ (x, k) :: L.drop j).map (hsh M) = (L.map (hsh M)).take j ++ M.kd.hash k :: (L.map (hsh M)).drop j := by rw [List.map_append, List.map_cons, List.map_take, List.map_drop]
    rw [← hh] at q3
    have nd1 : ((L.take j ++ (x, k) :: L.drop j).map Prod.snd).Nodup := by
      rw [(pm.map Prod.snd).nodup_iff, List.map_cons]
      exact List.nodup_cons.mpr ⟨m, R.nd⟩
    generalize SetTable.insertAt es j (M.kd.hash k, Value.ref x) = es1 at c1 ⊢
    generalize L.take j ++ (x, k) :: L.drop j = L1 at pm ln q3 nd1 c1
    have n1 := cells_len c1
    refine wpAny_bind (wpAny_storeSet_of ho hd ?_ (by rw [n1, ln, sizeLine_eq]; omega))
    have sb : Heap.SameBut a s.heap (s.heap.update a (Obj.putSet es1 t1)) := Heap.SameBut.update ..
    have ho1 := store_at (es' := es1) (t' := t1) ho hd
    generalize s.heap.update a (Obj.putSet es1 t1) = h1 at sb ho1 ⊢
    have ks1 : ∀ r ∈ L1, M.kd.is h1 r.2 r.1 := fun r hr => by
      rcases List.mem_cons.mp (pm.mem_iff.mp hr) with e | hr
      · rw [e]; exact still hx ho hd sb
      · exact still (R.keys r hr) ho hd sb
    have ld1 : w.params.followText "set-order" = true ∨ t1.led = true := by rw [q5]; exact R.led
    have fill1 : t1.fill = L.length + 1 := by rw [q9, List.length_map]
    by_cases hf : t1.tooFull = true
    · first
        | (refine wpAny_bind ?_; refine wp_if_pos (by simp [hf]) ?_)
        | (refine wp_if_pos (by simp [hf]) ?_; refine wpAny_bind ?_)
      have full : (L.length + 1) * 5 ≥ t1.mask * 3 := by
        have h := hf
        unfold SetTable.tooFull at h
        rw [decide_eq_true_eq, fill1] at h
        exact h
      rw [n0]
      have sz1 : t1.place.size = es1.size := by
        have h := q3.sz
        rw [List.length_map] at h
        rw [h, n1]
      have big : ∃ m, SetTable.sizeAbove (SetTable.grown (L.length + 1)) - 1 = m ∧ MaskOk m ∧ SetTable.sizeAbove (SetTable.grown (L.length + 1)) ≤ 128 ∧ (L.length + 1) * 5 < m * 3 ∧ L.length + 1 ≤ t1.mask := by
        rcases R.tab.mok with e | e | e
        · have : L.length = 4 := by rw [q4, e] at full; rw [e] at rm; omega
          rw [this, q4, e]
          exact ⟨31, by rw [size_20], .inr (.inl rfl), by rw [size_20]; decide, by decide, by decide⟩
        · have : L.length = 18 := by rw [q4, e] at full; rw [e] at rm; omega
          rw [this, q4, e]
          exact ⟨127, by rw [size_76], .inr (.inr rfl), by rw [size_76]; decide, by decide, by decide⟩
        · rw [q4, e] at full
          omega
      obtain ⟨m', b1, b2, b3, b4, b5⟩ := big
      refine grow (s := { s with heap := h1 }) ho1 ⟨hex.1, hex.2.1, hex.2.2⟩ rfl c1 sz1 q3.dm (by rw [n1, ln]; exact b5) nd1 ks1 pl1 ld1 (by rw [ln]; exact few) b1 b2 b3 (by rw [ln]; exact b4) fun h2 L2 es2 ep2 t2 sb2 R2 pm2 => ?_
      exact wpAny_pure (q true h2 L2 es2 ep2 t2 (sb.trans sb2) R2 (fun z => absurd z m) fun _ => pm2.trans pm)
    · first
        | refine wp_if_neg (by simp [hf]) ?_
        | (refine wpAny_bind ?_; refine wp_if_neg (by simp [hf]) ?_; refine wpAny_pure ?_)
      refine wpAny_pure (q true h1 L1 es1 (ep + 1) t1 sb ⟨⟨_, ho1, ⟨hex.1, hex.2.1, hex.2.2⟩, rfl⟩, c1, q3, nd1, ks1, pl1, ld1, ?_, by rw [ln]; exact few⟩ (fun z => absurd z m) fun _ => pm)
      have h := hf
      unfold SetTable.tooFull at h
      rw [decide_eq_true_eq, fill1] at h
      rw [ln]
      omega
end
end Rz.Sx
namespace Rz.Sx
open PySem PySem.Spec PyProof.Rows L2
section
variable {P : Program} {w : World} {κ : Type} [DecidableEq κ] {M : Mk P w κ} {A : Around} {E : Value → Shared → Prop} {s : Shared} {a : Addr} {L : List (Addr × κ)} {es : Array (Int × Value)} {ep : Nat} {t : SetTable}
theorem At.go {h h' : Heap} (R : At M h a L es ep t) (k : ∀ c o, h.get? c = some o → h'.get? c = some o) : At M h' a L es ep t :=
  ⟨let ⟨o, ho, r⟩ := R.obj; ⟨o, k a o ho, r⟩, R.cells, R.tab, R.nd, fun r m => kept (R.keys r m) k, R.plain, R.led, R.room, R.few⟩
structure Has (rs : List (Addr × κ)) (i : Nat) (L : List (Addr × κ)) : Prop where
  sub : ∀ r ∈ L, r ∈ rs.take i
  all : ∀ r ∈ rs.take i, r.2 ∈ L.map Prod.snd
  len : L.length ≤ i
theorem Has.next {rs L L' : List (Addr × κ)} {i : Nat} {r : Addr × κ} (g : Has rs i L) (h : rs[i]? = some r) (c : (r.2 ∈ L.map Prod.snd ∧ L' = L) ∨ L'.Perm (r :: L)) : Has rs (i + 1) L' := by
  have e : rs.take (i + 1) = rs.take i ++ [r] := by rw [List.take_succ, h]; rfl
  rcases c with ⟨m, rfl⟩ | pm
  · refine ⟨fun q hq => by rw [e]; exact List.mem_append_left _ (g.sub q hq), fun q hq => ?_, Nat.le_succ_of_le g.len⟩
    rw [e] at hq
    rcases List.mem_append.mp hq with z | z
    · exact g.all q z
    · rw [List.mem_singleton.mp z]; exact m
  · refine ⟨fun q hq => ?_, fun q hq => ?_, by rw [pm.length_eq]; exact Nat.succ_le_succ g.len⟩
    · rw [e]
      rcases List.mem_cons.mp (pm.mem_iff.mp hq) with z | z
      · rw [z]; simp
      · exact List.mem_append_left _ (g.sub q z)
    · rw [(pm.map Prod.snd).mem_iff, List.map_cons]
      rw [e] at hq
      rcases List.mem_append.mp hq with z | z
      · exact List.mem_cons_of_mem _ (g.all q z)
      · rw [List.mem_singleton.mp z]; exact List.mem_cons_self
theorem fill {I : Addr} {fp wr : List Addr} {G : Array GenState → Array GenState → Prop} {n : Nat} {Pv : Nat → Value → Prop} {St : Nat → Shared → Prop} {R : Result → Shared → Prop} (W : WalksS P w A.in1 I fp wr G n Pv St) (S : Addr) (hS : S ∉ fp) (rs : List (Addr × κ)) (hn : n = rs.length) (few : ∀ L : List (Addr × κ), (∀ q ∈ L, q ∈ rs) → (L.map Prod.snd).Nodup → L.length < 64)
    (hv : ∀ i v, Pv i v → ∃ r, rs[i]? = some r ∧ v = .ref r.1) (h0 : Heap) (hk : ∀ r ∈ rs, M.kd.is h0 r.2 r.1) (ok : ∀ r ∈ rs, M.ok r.2) (nS : h0.get? S = none) (nw : ∀ b ∈ wr, h0.get? b = none) (hu : M.kd.room A.in1) (m : Nat) :
    ∀ (i : Nat) (s : Shared), n - i = m → i ≤ n → St i s → (∀ b o, h0.get? b = some o → s.heap.get? b = some o) → (∃ L es ep t, At M s.heap S L es ep t ∧ Has rs i L) →
      (∀ s' L es ep t, Moved (S :: wr) G s s' → At M s'.heap S L es ep t → Has rs n L → (∀ b o, h0.get? b = some o → s'.heap.get? b = some o) → R (.ok (.ret .none)) s') → codeAny (model P w) A (.builtin "set.update.loop" ⟨[.ref S, .ref I], []⟩) R s := by
  have nSw : S ∉ wr := fun h => hS (W.sub _ h)
  have up : ∀ b ∈ wr, b ∈ S :: wr := fun b hb => List.mem_cons_of_mem _ hb
  have stays : ∀ {s s' : Shared}, Moved wr G s s' → (∀ b o, h0.get? b = some o → s.heap.get? b = some o) → ∀ b o, h0.get? b = some o → s'.heap.get? b = some o := fun hm k b o e => hm.heap b o (fun z => by rw [nw b z] at e; cases e) (k b o e)
  have rowS : ∀ {s s' : Shared} {L : List (Addr × κ)} {es ep t i}, Moved wr G s s' → (∀ b o, h0.get? b = some o → s.heap.get? b = some o) → Has rs i L → At M s.heap S L es ep t → At M s'.heap S L es ep t := fun {s s' L es ep t i} hm k g R => by
    obtain ⟨o, ho, r⟩ := R.obj
    exact ⟨⟨o, hm.heap S o nSw ho, r⟩, R.cells, R.tab, R.nd, fun r hr => kept (hk r (List.mem_of_mem_take (g.sub r hr))) (stays hm k), R.plain, R.led, R.room, R.few⟩
  induction m with
  | zero =>
    rintro i s e hi st k ⟨L, es, ep, t, R0, g⟩ fin
    obtain rfl : i = n := by omega
    refine codeAny_builtin F.entry_set_update_loop ?_
    rw [Around.under_plainId F.plain_set_update_loop _]
    refine wpAny_bind (W.done s _ _ st fun s' hm => ?_)
    exact wpAny_pure (fin s' L es ep t (hm.mono up) (rowS hm k g R0) g (stays hm k))
  | succ m ih =>
    rintro i s e hi st k ⟨L, es, ep, t, R0, g⟩ fin
    have lt : i < n := by omega
    refine codeAny_builtin F.entry_set_update_loop ?_
    rw [Around.under_plainId F.plain_set_update_loop _]
    refine wpAny_bind (W.item i s _ _ lt st fun v s' pv st' hm => ?_)
    obtain ⟨r, hr, rfl⟩ := hv i v pv
    have rm := List.mem_of_getElem? hr
    have k' := stays hm k
    have R1 := rowS hm k g R0
    have K1 := kept (hk r rm) k'
    show wpAny _ A.in1 (holding [Value.ref r.1] (setAdd S (.ref r.1)) >>= _) _ _ s'
    refine wpAny_bind (wpAny_holding ?_)
    unfold setAdd
    refine wpAny_holding (wpAny_bind (M.kd.pyHash hu (kept (hk r rm) k') ?_))
    refine put (s := { s' with toks := s'.toks + M.kd.draws r.2 }) R1 K1 (ok r rm) hu (fun nk => few (r :: L) (fun q hq => by
      rcases List.mem_cons.mp hq with z | z
      · rw [z]; exact rm
      · exact List.mem_of_mem_take (g.sub q z)) (by rw [List.map_cons]; exact List.nodup_cons.mpr ⟨nk, R1.nd⟩)) fun b h' L' es' ep' t' sb R2 c1 c2 => ?_
    have g' : Has rs (i + 1) L' := g.next hr (by
      rcases Classical.em (r.2 ∈ L.map Prod.snd) with c | c
      · exact .inl ⟨c, c1 c⟩
      · exact .inr (c2 c))
    refine wpAny_pure ⟨plainId_quiet F.plain_set_update_loop _, ih (i + 1) _ (by omega) lt (W.frame _ s' _ _ st' (Nat.le_add_right _ _) fun b hb o e => ?_) (fun b o e => (sb.2 b (fun z => by rw [z, nS] at e; cases e)).trans (k' b o e)) ⟨L', es', ep', t', R2, g'⟩ fun s'' L2 es2 ep2 t2 hm2 R3 g2 k2 => ?_⟩
    · rw [sb.2 b fun z => hS (by rw [← z]; exact hb)]
      exact e
    · refine fin s'' L2 es2 ep2 t2 (Moved.trans W.gtrans ((hm.mono up).then_heap (Nat.le_add_right _ _) fun b o hb e => ?_) hm2) R3 g2 k2
      rw [sb.2 b fun z => hb (by rw [z]; exact List.mem_cons_self)]
      exact e
end
end Rz.Sx
namespace Rz.Sx
open PySem PySem.Spec PyProof.Rows L2
mutual
def bare : NestedKey → Bool
  | .none => true
  | .num _ => true
  | .text _ => false
  | .tup ks => bareAll ks
def bareAll : List NestedKey → Bool
  | [] => true
  | k :: ks => bare k && bareAll ks
end
theorem bareAll_mem : ∀ {ks : List NestedKey}, bareAll ks = true → ∀ k ∈ ks, bare k = true
  | [], _, _, h => by cases h
  | k :: ks, e, k', h => by
    simp only [bareAll, Bool.and_eq_true] at e
    rcases List.mem_cons.mp h with z | z
    · rw [z]; exact e.1
    · exact bareAll_mem e.2 k' z
theorem all_at {h : Heap} : ∀ {ks : List NestedKey} {vs : List Value}, NestedAll h ks vs → ∀ v ∈ vs, ∃ k ∈ ks, NestedIs h k v
  | [], _, x, v, hv => by cases x; cases hv
  | k :: ks, _, x, v, hv => by
    cases x with
    | cons x1 x2 =>
      rcases List.mem_cons.mp hv with z | z
      · rw [z]; exact ⟨k, List.mem_cons_self, x1⟩
      · obtain ⟨k', m, y⟩ := all_at x2 v z
        exact ⟨k', List.mem_cons_of_mem _ m, y⟩
theorem depth_mem : ∀ {ks : List NestedKey} {k : NestedKey}, k ∈ ks → k.depth ≤ NestedKey.depthAll ks
  | k' :: ks, k, h => by
    simp only [NestedKey.depthAll]
    rcases List.mem_cons.mp h with z | z
    · rw [z]; omega
    · have := depth_mem z
      omega
section
variable {P : Program} {w : World}
theorem cls_key : ∀ (n : Nat) (k : NestedKey) (v : Value) {A : Around} {E : Value → Shared → Prop} {s : Shared} {Q : Bool → Shared → Prop}, NestedIs s.heap k v → k.depth ≤ n → Q false s → wpAny (model P w) A (ofAClassStatement n v) Q E s := by
  intro n
  induction n with
  | zero =>
    intro k v A E s Q x hn q
    cases x with
    | tup h1 h2 h3 h4 => simp [NestedKey.depth] at hn
    | _ => unfold ofAClassStatement; exact wpAny_pure q
  | succ n ih =>
    intro k v A E s Q x hn q
    cases x with
    | @tup a o vs m ks h1 h2 h3 h4 =>
      have hT : s.TypeIs (.ref a) "tuple" := ⟨o, h1, h2⟩
      unfold ofAClassStatement
      refine wpAny_bind (wpAny_typeOf hT ?_)
      dsimp only
      have e : (("tuple" : String) == "tuple") = true := by decide
      simp only [e, if_true, Bool.not_true, Bool.false_eq_true, if_false]
      try refine wpAny_bind (wpAny_pure ?_)
      try simp only [Bool.not_true, Bool.false_eq_true, if_false]
      show wpAny _ _ (seqItems? (.ref a) >>= _) _ _ s
      refine wpAny_bind (wpAny_seqItems h1 h3 ?_)
      dsimp only
      refine wpAny_bind ?_
      show wpAny _ _ (forIn vs _ _) _ _ s
      rw [← Array.forIn_toList]
      simp only [NestedKey.depth] at hn
      refine wpAny_forIn_list _ (fun rest r s' => s' = s ∧ r.1 = none ∧ ∀ v ∈ rest, ∃ k ∈ ks, NestedIs s.heap k v) _ ?_ ?_ _ _ ⟨rfl, rfl, all_at h4⟩
      · rintro v rest r s' ⟨rfl, hr, hall⟩
        obtain ⟨k', hk', y⟩ := hall v List.mem_cons_self
        refine wpAny_bind (ih k' v y (by have := depth_mem hk'; omega) ?_)
        simp only [Bool.false_eq_true, if_false]
        exact wpAny_pure ⟨rfl, rfl, fun u hu => hall u (List.mem_cons_of_mem _ hu)⟩
      · rintro ⟨r1, r2⟩ s' ⟨rfl, hr, _⟩
        simp only at hr
        subst hr
        exact wpAny_pure q
    | _ => unfold ofAClassStatement; exact wpAny_pure q
theorem byv_key : ∀ (n : Nat) (k : NestedKey) (v : Value) {A : Around} {E : Value → Shared → Prop} {s : Shared} {Q : Bool → Shared → Prop}, NestedIs s.heap k v → k.depth ≤ n → bare k = true → Q true s → wpAny (model P w) A (hashByValue n v) Q E s := by
  intro n
  induction n with
  | zero =>
    intro k v A E s Q x hn hb q
    cases x with
    | tup h1 h2 h3 h4 => simp [NestedKey.depth] at hn
    | text => cases hb
    | _ => unfold hashByValue; exact wpAny_pure q
  | succ n ih =>
    intro k v A E s Q x hn hb q
    cases x with
    | @tup a o vs m ks h1 h2 h3 h4 =>
      have hT : s.TypeIs (.ref a) "tuple" := ⟨o, h1, h2⟩
      unfold hashByValue
      refine wpAny_bind (wpAny_specialOf hT F.slot_tuple_hash.lookup ?_)
      show wpAny _ _ (seqItems? (.ref a) >>= _) _ _ s
      refine wpAny_bind (wpAny_seqItems h1 h3 ?_)
      refine wpAny_bind ?_
      show wpAny _ _ (forIn vs _ _) _ _ s
      rw [← Array.forIn_toList]
      simp only [NestedKey.depth] at hn
      simp only [bare] at hb
      refine wpAny_forIn_list _ (fun rest r s' => s' = s ∧ r.1 = none ∧ ∀ v ∈ rest, ∃ k ∈ ks, NestedIs s.heap k v) _ ?_ ?_ _ _ ⟨rfl, rfl, all_at h4⟩
      · rintro v rest r s' ⟨rfl, hr, hall⟩
        obtain ⟨k', hk', y⟩ := hall v List.mem_cons_self
        refine wpAny_bind (ih k' v y (by have := depth_mem hk'; omega) (bareAll_mem hb k' hk') ?_)
        simp only [Bool.not_true, Bool.false_eq_true, if_false]
        exact wpAny_pure ⟨rfl, rfl, fun u hu => hall u (List.mem_cons_of_mem _ hu)⟩
      · rintro ⟨r1, r2⟩ s' ⟨rfl, hr, _⟩
        simp only at hr
        subst hr
        exact wpAny_pure q
    | text => cases hb
    | _ => unfold hashByValue; exact wpAny_pure q
variable (P w)
def NM : Mk P w NestedKey where
  kd := nestedKind P w
  ok := fun k => bare k = true
  stay := fun x k => ⟨NestedIs.at k _ _ x.1, x.2⟩
  seq := fun x => by
    obtain ⟨x, _⟩ := x
    cases x with
    | tup h1 h2 h3 h4 => exact ⟨_, _, _, h1, h3⟩
  cls := fun x q => cls_key 8 _ _ x.1 x.2 q
  byv := fun b x q => byv_key 8 _ _ x.1 x.2 b q
end
mutual
def nk : PyData → NestedKey
  | .none => .none
  | .bool b => .num (if b = true then 1 else 0)
  | .int i => .num i
  | .str x => .text x
  | .list _ => .none
  | .tuple ds => .tup (nks ds)
  | .dict _ => .none
def nks : List PyData → List NestedKey
  | [] => []
  | d :: ds => nk d :: nks ds
end
mutual
def numD : PyData → Bool
  | .none => true
  | .bool _ => true
  | .int _ => true
  | .tuple ds => numDs ds
  | _ => false
def numDs : List PyData → Bool
  | [] => true
  | d :: ds => numD d && numDs ds
end
mutual
theorem key_of {h : Heap} : ∀ (d : PyData) (v : Value) (as : List Addr), Reads h v d as → numD d = true → NestedIs h (nk d) v
  | .none, _, _, r, _ => by cases r; exact .none
  | .bool b, _, _, r, _ => by cases r; exact .bool rfl
  | .int i, _, _, r, _ => by cases r; exact .int _ _
  | .str _, _, _, _, e => by cases e
  | .list _, _, _, _, e => by cases e
  | .dict _, _, _, _, e => by cases e
  | .tuple ds, _, _, r, e => by
    cases r with
    | tuple h1 h2 h3 h4 => exact .tup h1 h2 h3 (keys_of ds _ _ h4 (by simpa [numD] using e))
theorem keys_of {h : Heap} : ∀ (ds : List PyData) (vs : List Value) (as : List Addr), ReadsAll h vs ds as → numDs ds = true → NestedAll h (nks ds) vs
  | [], _, _, r, _ => by cases r; exact .nil
  | d :: ds, _, _, r, e => by
    simp only [numDs, Bool.and_eq_true] at e
    cases r with
    | cons r1 r2 => exact .cons (key_of d _ _ r1 e.1) (keys_of ds _ _ r2 e.2)
end
mutual
theorem bare_of : ∀ d : PyData, numD d = true → bare (nk d) = true
  | .none, _ => rfl
  | .bool _, _ => rfl
  | .int _, _ => rfl
  | .str _, e => by cases e
  | .list _, e => by cases e
  | .dict _, e => by cases e
  | .tuple ds, e => by
    simp only [nk, bare]
    exact bares_of ds (by simpa [numD] using e)
theorem bares_of : ∀ ds : List PyData, numDs ds = true → bareAll (nks ds) = true
  | [], _ => rfl
  | d :: ds, e => by
    simp only [numDs, Bool.and_eq_true] at e
    simp only [nks, bareAll, bare_of d e.1, bares_of ds e.2, Bool.and_self]
end
mutual
theorem depth_of : ∀ d : PyData, (nk d).depth ≤ d.depth
  | .none => by simp [nk, NestedKey.depth]
  | .bool _ => by simp [nk, NestedKey.depth]
  | .int _ => by simp [nk, NestedKey.depth]
  | .str _ => by simp [nk, NestedKey.depth]
  | .list _ => by simp [nk, NestedKey.depth]
  | .dict _ => by simp [nk, NestedKey.depth]
  | .tuple ds => by
    have := depths_of ds
    simp only [nk, NestedKey.depth, PyData.depth]
    omega
theorem depths_of : ∀ ds : List PyData, NestedKey.depthAll (nks ds) ≤ PyData.depthAll ds
  | [] => by simp [nks, NestedKey.depthAll]
  | d :: ds => by
    have h1 := depth_of d
    have h2 := depths_of ds
    simp only [nks, NestedKey.depthAll, PyData.depthAll]
    omega
end
end Rz.Sx
namespace Rz.Sx
open PySem PySem.Spec PyProof.Rows L2 PySem.W
abbrev dle {β : Type} (k : β → PyData) : β → β → Bool := dataLe false k
section
variable {X : Cx} {k : Nat}
structure DList (K : PySem.W.Frag) (H : Hp) {β : Type} (bs : List β) (f : β → V) (d : β → PyData) : Prop where
  dp : ∀ b ∈ bs, Dp K H (f b) (d b)
  alike : AllAlike (bs.map d)
  sort : Sortable (bs.map d)
  deep : ∀ b ∈ bs, (d b).depth ≤ 100
def rSrt (K : PySem.W.Frag) : List V → Hp → VK → Prop := fun xs H Q => ∃ (β : Type) (a : Addr) (bs : List β) (f : β → V) (d : β → PyData), xs = [.ref a] ∧ SqL K H a (bs.map f) ∧ DList K H bs f d ∧ ∀ p, H p = none → Q (.ref p) (upd H p (.lst ((bs.mergeSort (dle d)).map f)))
def SetN (P : Program) (w : World) (a : Addr) (L : List (Addr × NestedKey)) : HO := .ext fun h => ∃ (es : Array (Int × Value)) (ep : Nat) (t : SetTable), (∃ o, h.get? a = some o ∧ o.ExactSet ∧ o.data = .set es ep t) ∧ es.toList = L.map (cellOf (NM P w)) ∧ TabOk t (L.map (hsh (NM P w))) ∧ (L.map Prod.snd).Nodup ∧ t.plain = true ∧
  (w.params.followText "set-order" = true ∨ t.led = true) ∧ L.length * 5 < t.mask * 3 ∧ L.length < 64
structure KList (K : PySem.W.Frag) (H : Hp) {β : Type} (bs : List β) (f : β → Addr) (d : β → PyData) : Prop where
  dp : ∀ b ∈ bs, Dp K H (.ref (f b)) (d b)
  num : ∀ b ∈ bs, numD (d b) = true
  deep : ∀ b ∈ bs, (d b).depth ≤ 8
theorem key_at {β : Type} {bs : List β} {f : β → Addr} {d : β → PyData} {pins : List (Addr × Obj)} {σ : L2.St} {H : Hp} {s : Shared} (I : Inv X pins σ H s) (D : KList X.K H bs f d) {b : β} (m : b ∈ bs) : (NM X.prog X.w).kd.is s.heap (nk (d b)) (f b) := by
  obtain ⟨as, r⟩ := Dp.reads I (d b) (.ref (f b)) (.ref (f b)) (D.dp b m) rfl
  exact ⟨key_of _ _ _ r (D.num b m), Nat.le_trans (depth_of _) (D.deep b m)⟩
def rSet (K : PySem.W.Frag) (P : Program) (w : World) : List V → Hp → VK → Prop := fun xs H Q => ∃ (β : Type) (a : Addr) (bs : List β) (f : β → Addr) (d : β → PyData), xs = [.ref a] ∧ SqL K H a (bs.map fun b => V.ref (f b)) ∧ KList K H bs f d ∧ (∀ cs : List β, (∀ c ∈ cs, c ∈ bs) → (cs.map fun b => nk (d b)).Nodup → cs.length < 64) ∧
  ∀ (p : Addr) (cs : List β), H p = none → (∀ c ∈ cs, c ∈ bs) → (cs.map fun b => nk (d b)).Nodup → (∀ b ∈ bs, nk (d b) ∈ cs.map fun b => nk (d b)) → Q (.ref p) (upd H p (SetN P w p (cs.map fun b => (f b, nk (d b)))))
def rLenSet (P : Program) (w : World) : List V → Hp → VK → Prop := fun xs H Q => ∃ a L, xs = [.ref a] ∧ H a = some (SetN P w a L) ∧ Q (.int L.length) H
end
end Rz.Sx
namespace Rz
open PySem PySem.Spec PyProof.Rows L2

def tyName : Nat → String
  | 0 => "NoneType"
  | 1 => "bool"
  | 2 => "int"
  | 3 => "str"
  | 4 => "tuple"
  | 5 => "list"
  | 6 => "dict"
  | _ => "object"

inductive Va where
  | non | bl (b : Bool) | int (i : Int) | str (x : Str) | ty (n : Nat) | tup (ws : List Va) | loc (i : Nat) | cl (c : Nat)
  deriving Inhabited

inductive Ob where
  | lst (ws : List Va) | frl (ws : List Va) | dct (kvs : List (Va × Va)) | frd (kvs : List (Va × Va)) | dci (kvs : List (Int × Va)) | dcs (kvs : List (Str × Va)) | sst (ws : List Va) | ins (c : Nat) (fs : List Va) | exo (c : Nat) (fs : List Va)
  deriving Inhabited

abbrev Env := List (Option Va)
abbrev Sto := List Ob

inductive Rs (α : Type) where
  | ok (a : α) (S : Sto)
  | ex (c : Nat) (fs : List Va) (S : Sto)
  | bad
def Rs.bind {α β : Type} (r : Rs α) (f : α → Sto → Rs β) : Rs β := match r with
  | .ok a S => f a S
  | .ex c fs S => .ex c fs S
  | .bad => .bad

inductive Out where
  | nx (δ : Env) (S : Sto)
  | rt (w : Va) (S : Sto)
  | bk (δ : Env) (S : Sto)
  | ct (δ : Env) (S : Sto)
  | ex (c : Nat) (fs : List Va) (δ : Env) (S : Sto)
  | bad
def Out.next (o : Out) (f : Env → Sto → Out) : Out := match o with
  | .nx δ S => f δ S
  | o => o
def Rs.out {α : Type} (r : Rs α) (δ : Env) (f : α → Sto → Out) : Out := match r with
  | .ok a S => f a S
  | .ex c fs S => .ex c fs δ S
  | .bad => .bad

abbrev XE := Env → Sto → Rs Va
abbrev XA := Env → Sto → Rs (List Va)
abbrev XT := Env → Sto → Rs Bool
abbrev XS := Env → Sto → Out

structure G where
  K : PySem.W.Frag
  cls : Nat → Addr
  fld : Nat → List Str
  P : Program
  w : World
  /-- tables of code objects and the name that each bears -/
  T : List (Addr × Str)
def dN (P : Program) (w : World) (a : Addr) (L : List (NestedKey × Addr × V)) : HO := .ext fun h => (a == sysModules) = false ∧ L.length ≤ sizeLine ∧ (∀ r ∈ L, r.1.depth ≤ 8) ∧ ∃ xs : List (NestedKey × Addr × Value),
  Paired (fun (p : NestedKey × Addr × V) (q : NestedKey × Addr × Value) => p.1 = q.1 ∧ p.2.1 = q.2.1 ∧ RelV p.2.2 q.2.2) L xs ∧
  ∃ o es ep, h.get? a = some o ∧ o.ExactDict ∧ o.data = .dict es ep ∧ es.toList = xs.map (entryOfKey (nestedKind P w)) ∧ (xs.map (·.1)).Nodup
def nkV : Va → Option NestedKey
  | .non => some .none
  | .bl b => some (.num (if b then 1 else 0))
  | .int i => some (.num i)
  | .tup ws => (nksV ws).map .tup
  | _ => none
where nksV : List Va → Option (List NestedKey)
  | [] => some []
  | w :: ws => match nkV w, nksV ws with
    | some k, some ks => some (k :: ks)
    | _, _ => none

mutual
inductive Rel (g : G) (ρ : List Addr) (H : Hp) : Va → V → Prop
  | non : Rel g ρ H .non .non
  | bl (b : Bool) : Rel g ρ H (.bl b) (.bl b)
  | int (i : Int) : Rel g ρ H (.int i) (.int i)
  | str (x : Str) : Rel g ρ H (.str x) (.str x)
  | ty (n : Nat) : Rel g ρ H (.ty n) (.ty (tyName n))
  | tup {ws : List Va} {vs : List V} {a : Addr} : SqT g.K H a vs → RelL g ρ H ws vs → Rel g ρ H (.tup ws) (.ref a)
  | loc {i : Nat} {a : Addr} : ρ[i]? = some a → Rel g ρ H (.loc i) (.ref a)
  | cl (c : Nat) : Rel g ρ H (.cl c) (.ref (g.cls c))
inductive RelL (g : G) (ρ : List Addr) (H : Hp) : List Va → List V → Prop
  | nil : RelL g ρ H [] []
  | cons {w : Va} {ws : List Va} {v : V} {vs : List V} : Rel g ρ H w v → RelL g ρ H ws vs → RelL g ρ H (w :: ws) (v :: vs)
end

structure Ext (g : G) (ρ : List Addr) (H : Hp) (ρ' : List Addr) (H' : Hp) : Prop where
  pre : ∃ r, ρ' = ρ ++ r
  tup : ∀ a vs, SqT g.K H a vs → SqT g.K H' a vs
  frz : ∀ b o u, H b = some (.frz o u) → H' b = some (.frz o u)

section
variable {g : G} {ρ ρ' ρ'' : List Addr} {H H' H'' : Hp}
theorem Ext.refl : Ext g ρ H ρ H := ⟨⟨[], by simp⟩, fun _ _ h => h, fun _ _ _ h => h⟩
theorem Ext.trans (a : Ext g ρ H ρ' H') (b : Ext g ρ' H' ρ'' H'') : Ext g ρ H ρ'' H'' := by
  obtain ⟨r, rfl⟩ := a.pre
  obtain ⟨q, rfl⟩ := b.pre
  exact ⟨⟨r ++ q, by simp⟩, fun x vs h => b.tup x vs (a.tup x vs h), fun x o u h => b.frz x o u (a.frz x o u h)⟩
theorem Ext.at (e : Ext g ρ H ρ' H') {i : Nat} {a : Addr} (h : ρ[i]? = some a) : ρ'[i]? = some a := by
  obtain ⟨r, rfl⟩ := e.pre
  have q := (List.getElem?_eq_some_iff.mp h).1
  rw [List.getElem?_append_left q]
  exact h
theorem Rel.mono (e : Ext g ρ H ρ' H') {w : Va} {v : V} (h : Rel g ρ H w v) : Rel g ρ' H' w v :=
  Rel.rec (motive_1 := fun w v _ => Rel g ρ' H' w v) (motive_2 := fun ws vs _ => RelL g ρ' H' ws vs) .non (fun b => .bl b) (fun i => .int i) (fun x => .str x) (fun n => .ty n)
    (fun s _ ih => .tup (e.tup _ _ s) ih) (fun s => .loc (e.at s)) (fun c => .cl c) .nil (fun _ _ a b => .cons a b) h
theorem RelL.mono (e : Ext g ρ H ρ' H') : ∀ {ws : List Va} {vs : List V}, RelL g ρ H ws vs → RelL g ρ' H' ws vs
  | _, _, .nil => .nil
  | _, _, .cons a b => .cons (a.mono e) (RelL.mono e b)
theorem RelL.length : ∀ {ws : List Va} {vs : List V}, RelL g ρ H ws vs → ws.length = vs.length
  | _, _, .nil => rfl
  | _, _, .cons _ b => congrArg (· + 1) (RelL.length b)
theorem RelL.get : ∀ {ws : List Va} {vs : List V} {i : Nat} {w : Va}, RelL g ρ H ws vs → ws[i]? = some w → ∃ v, vs[i]? = some v ∧ Rel g ρ H w v
  | _, _, _, _, .nil, h => by simp at h
  | _, _, 0, _, .cons a _, h => by
    simp at h
    subst h
    exact ⟨_, rfl, a⟩
  | _, _, i + 1, w, .cons _ b, h => by
    obtain ⟨v, h1, h2⟩ := RelL.get (i := i) (w := w) b (by simpa using h)
    exact ⟨v, by simpa using h1, h2⟩
theorem RelL.app : ∀ {ws us : List Va} {vs ts : List V}, RelL g ρ H ws vs → RelL g ρ H us ts → RelL g ρ H (ws ++ us) (vs ++ ts)
  | _, _, _, _, .nil, h => h
  | _, _, _, _, .cons a b, h => .cons a (RelL.app b h)
theorem RelL.take : ∀ {ws : List Va} {vs : List V} (n : Nat), RelL g ρ H ws vs → RelL g ρ H (ws.take n) (vs.take n)
  | _, _, 0, _ => .nil
  | _, _, _ + 1, .nil => .nil
  | _, _, n + 1, .cons a b => .cons a (RelL.take n b)
theorem RelL.drop : ∀ {ws : List Va} {vs : List V} (n : Nat), RelL g ρ H ws vs → RelL g ρ H (ws.drop n) (vs.drop n)
  | _, _, 0, h => h
  | _, _, _ + 1, .nil => .nil
  | _, _, n + 1, .cons _ b => RelL.drop n b
theorem RelL.put {w : Va} {v : V} (r : Rel g ρ H w v) : ∀ {ws : List Va} {vs : List V} (i : Nat), RelL g ρ H ws vs → RelL g ρ H (ws.set i w) (vs.set i v)
  | _, _, _, .nil => .nil
  | _, _, 0, .cons _ b => .cons r b
  | _, _, i + 1, .cons a b => .cons a (RelL.put r i b)
end

def exH (cls : Value) (a : Addr) : HO := .ext fun hp => ∃ ob fs, hp.get? a = some ob ∧ Zc cls none ob ∧ ob.data = .fields fs
def At (g : G) (ρ : List Addr) (H : Hp) (a : Addr) : Ob → Prop
  | .lst ws => ∃ vs, H a = some (.lst vs) ∧ RelL g ρ H ws vs
  | .frl ws => (∃ o vs, H a = some (.frz o (.lst vs)) ∧ RelL g ρ H ws vs) ∨ ∃ vs, (∀ H', SqL g.K H' a vs) ∧ RelL g ρ H ws vs
  | .dct kvs => ∃ L : List (NestedKey × Addr × V), H a = some (dN g.P g.w a L) ∧ RelL g ρ H (kvs.map Prod.fst) (L.map fun r => V.ref r.2.1) ∧ RelL g ρ H (kvs.map Prod.snd) (L.map fun r => r.2.2) ∧ kvs.map (fun p => nkV p.1) = L.map (fun r => some r.1) ∧ ∀ r ∈ L, r.1.depth ≤ 8
  | .frd kvs => ∃ (o : Obj) (L : List (NestedKey × Addr × V)), H a = some (.frz o (dN g.P g.w a L)) ∧ RelL g ρ H (kvs.map Prod.fst) (L.map fun r => V.ref r.2.1) ∧ RelL g ρ H (kvs.map Prod.snd) (L.map fun r => r.2.2) ∧ kvs.map (fun p => nkV p.1) = L.map (fun r => some r.1) ∧ ∀ r ∈ L, r.1.depth ≤ 8
  | .dci kvs => ∃ L : List (L2.Key × V), H a = some (.dK L) ∧ L.map Prod.fst = kvs.map (fun p => Sum.inl p.1) ∧ RelL g ρ H (kvs.map Prod.snd) (L.map Prod.snd)
  | .dcs kvs => ∃ L : List (L2.Key × V), H a = some (.dK L) ∧ L.map Prod.fst = kvs.map (fun p => Sum.inr p.1) ∧ RelL g ρ H (kvs.map Prod.snd) (L.map Prod.snd)
  | .sst ws => ∃ (L : List (Addr × NestedKey)) (us : List Va), H a = some (Sx.SetN g.P g.w a L) ∧ RelL g ρ H us (L.map fun r => V.ref r.1) ∧ us.map nkV = L.map (fun r => some r.2) ∧ (∀ r ∈ L, r.2.depth ≤ 8) ∧ ∀ k, k ∈ L.map Prod.snd ↔ some k ∈ ws.map nkV
  | .ins c fs => ∃ dx fs', H a = some (.ins (g.cls c) dx fs') ∧ fs'.map (·.1) = (g.fld c).take fs.length ∧ RelL g ρ H fs (fs'.map (·.2))
  | .exo c fs => fs = [] ∧ H a = some (exH (.ref (g.cls c)) a)
def isFr : Ob → Bool
  | .frl _ => true
  | _ => false
def isLk : Ob → Bool
  | .frl _ => true
  | .frd _ => true
  | _ => false
def offObj : Obj := { cls := .none, data := .freed }
def oneHeap (c : Addr) (o : Obj) : Heap := ⟨(List.replicate c offObj ++ [o]).toArray, {}⟩
theorem oneHeap_objs (c b : Addr) (o : Obj) : (oneHeap c o).objs[b]? = if b < c then some offObj else if b = c then some o else none := by
  unfold oneHeap
  dsimp only
  rw [List.getElem?_toArray]
  by_cases e : b < c
  · rw [if_pos e, List.getElem?_append_left (by simpa using e), List.getElem?_replicate, if_pos e]
  · rw [if_neg e, List.getElem?_append_right (by simpa using Nat.le_of_not_lt e), List.length_replicate]
    by_cases e2 : b = c
    · rw [if_pos e2, e2, Nat.sub_self]; rfl
    · rw [if_neg e2]
      refine List.getElem?_eq_none ?_
      have h1 : c < b := Nat.lt_of_le_of_ne (Nat.le_of_not_lt e) (Ne.symm e2)
      exact Nat.sub_pos_of_lt h1
theorem oneHeap_at {c : Addr} {o : Obj} (h : o.data ≠ .freed) : (oneHeap c o).get? c = some o := by
  unfold Heap.get?
  rw [oneHeap_objs, if_neg (Nat.lt_irrefl c), if_pos rfl]
  obtain ⟨a, b, d, f⟩ := o
  cases d <;> first | rfl | exact absurd rfl h
theorem oneHeap_of {c b : Addr} {o u : Obj} (h : (oneHeap c o).get? b = some u) : u = o := by
  unfold Heap.get? at h
  rw [oneHeap_objs] at h
  by_cases e : b < c
  · rw [if_pos e] at h
    cases h
  · rw [if_neg e] at h
    by_cases e2 : b = c
    · rw [if_pos e2] at h
      obtain ⟨a, b, d, f⟩ := o
      cases d <;> first | (cases h; done) | exact (Option.some.inj h).symm
    · rw [if_neg e2] at h
      cases h
def oneCode (q : Str) : Obj := { cls := .none, data := .fields #[.none, .str q 0] }
theorem ne_code {c : Addr} {q : Str} {p : Heap → Prop} (h : p (oneHeap c (oneCode q)) → False) : HO.ext p ≠ LamX.CodeO c q := fun z => by
  unfold LamX.CodeO at z
  injection z with z
  have := congrFun z (oneHeap c (oneCode q))
  exact h (this ▸ ⟨oneCode q, _, 0, oneHeap_at (fun z => nomatch z), rfl, rfl⟩)
theorem dN_code {P : Program} {w : World} {a c : Addr} {q : Str} {L : List (NestedKey × Addr × V)} : dN P w a L ≠ LamX.CodeO c q := ne_code fun ⟨_, _, _, _, _, o, es, ep, h, _, hd, _⟩ => by
  rw [oneHeap_of h] at hd
  cases hd
theorem setN_code {P : Program} {w : World} {a c : Addr} {q : Str} {L : List (Addr × NestedKey)} : Sx.SetN P w a L ≠ LamX.CodeO c q := ne_code fun ⟨_, _, _, ⟨o, h, _, hd⟩, _⟩ => by
  rw [oneHeap_of h] at hd
  cases hd
theorem exH_code {cls : Addr} {a c : Addr} {q : Str} : exH (.ref cls) a ≠ LamX.CodeO c q := ne_code fun ⟨o, fs, h, z, _⟩ => by
  rw [oneHeap_of h] at z
  exact absurd z.1 (fun z => nomatch z)
theorem tabs_upd {T : List (Addr × Str)} {H : Hp} {a : Addr} {x u : HO} (t : LamX.Tabs T H) (hx : H a = some x) (h1 : ∀ ps, x ≠ .tbl ps) (h2 : ∀ c q, x ≠ LamX.CodeO c q) : LamX.Tabs T (upd H a u) := fun p hp => by
  obtain ⟨ps, e1, e2, e3⟩ := t p hp
  refine ⟨ps, ?_, e2, fun pos cv hc => ?_⟩
  · rw [upd_ne (fun z => by rw [z, hx] at e1; exact h1 _ (Option.some.inj e1))]
    exact e1
  · obtain ⟨c, f1, f2⟩ := e3 pos cv hc
    refine ⟨c, f1, ?_⟩
    rw [upd_ne (fun z => by rw [z, hx] at f2; exact h2 _ _ (Option.some.inj f2))]
    exact f2
structure Sim (g : G) (ρ : List Addr) (S : Sto) (H : Hp) : Prop where
  len : S.length = ρ.length
  inj : ∀ (i j : Nat) (a : Addr) (o u : Ob), ρ[i]? = some a → ρ[j]? = some a → S[i]? = some o → S[j]? = some u → isFr o = false → isFr u = false → i = j
  ats : ∀ (i : Nat) (o : Ob) (a : Addr), S[i]? = some o → ρ[i]? = some a → At g ρ H a o
  tabs : LamX.Tabs g.T H

section
variable {g : G} {ρ ρ' : List Addr} {H H' : Hp} {S : Sto} {a : Addr}
theorem At.there {o : Ob} (h : At g ρ H a o) (n : isLk o = false) : ∃ u, H a = some u ∧ (∀ vs, u ≠ .tup vs) ∧ ∀ ob w, u ≠ .frz ob w := by
  cases o with
  | lst ws => obtain ⟨vs, e, _⟩ := h; exact ⟨_, e, (fun vs z => by cases z), fun ob w z => by cases z⟩
  | frl ws => cases n
  | frd kvs => cases n
  | dct kvs => obtain ⟨L, e, _⟩ := h; exact ⟨_, e, (fun vs z => nomatch (show HO.ext _ = HO.tup vs from z)), fun ob w z => nomatch (show HO.ext _ = HO.frz ob w from z)⟩
  | dci kvs => obtain ⟨L, e, _⟩ := h; exact ⟨_, e, (fun vs z => by cases z), fun ob w z => by cases z⟩
  | dcs kvs => obtain ⟨L, e, _⟩ := h; exact ⟨_, e, (fun vs z => by cases z), fun ob w z => by cases z⟩
  | sst ws => obtain ⟨L, us, e, _⟩ := h; exact ⟨_, e, (fun vs z => nomatch (show HO.ext _ = HO.tup vs from z)), fun ob w z => nomatch (show HO.ext _ = HO.frz ob w from z)⟩
  | ins c fs => obtain ⟨dx, fs', e, _⟩ := h; exact ⟨_, e, (fun vs z => by cases z), fun ob w z => by cases z⟩
  | exo c fs => exact ⟨_, h.2, (fun vs z => nomatch (show HO.ext _ = HO.tup vs from z)), fun ob w z => nomatch (show HO.ext _ = HO.frz ob w from z)⟩
theorem At.code {o : Ob} (h : At g ρ H a o) (n : isFr o = false) : ∃ u, H a = some u ∧ (∀ ps, u ≠ .tbl ps) ∧ ∀ c q, u ≠ LamX.CodeO c q := by
  cases o with
  | lst ws => obtain ⟨vs, e, _⟩ := h; exact ⟨_, e, (fun ps z => nomatch z), fun c q z => by unfold LamX.CodeO at z; cases z⟩
  | frl ws => cases n
  | dct kvs => obtain ⟨L, e, _⟩ := h; exact ⟨_, e, (fun ps z => nomatch (show HO.ext _ = HO.tbl ps from z)), fun c q => dN_code⟩
  | frd kvs => obtain ⟨o, L, e, _⟩ := h; exact ⟨_, e, (fun ps z => nomatch z), fun c q z => by unfold LamX.CodeO at z; cases z⟩
  | dci kvs => obtain ⟨L, e, _⟩ := h; exact ⟨_, e, (fun ps z => nomatch z), fun c q z => by unfold LamX.CodeO at z; cases z⟩
  | dcs kvs => obtain ⟨L, e, _⟩ := h; exact ⟨_, e, (fun ps z => nomatch z), fun c q z => by unfold LamX.CodeO at z; cases z⟩
  | sst ws => obtain ⟨L, us, e, _⟩ := h; exact ⟨_, e, (fun ps z => nomatch (show HO.ext _ = HO.tbl ps from z)), fun c q => setN_code⟩
  | ins c fs => obtain ⟨dx, fs', e, _⟩ := h; exact ⟨_, e, (fun ps z => nomatch z), fun c q z => by unfold LamX.CodeO at z; cases z⟩
  | exo c fs => exact ⟨_, h.2, (fun ps z => nomatch (show HO.ext _ = HO.tbl ps from z)), fun c q => exH_code⟩
theorem At.mono (e : Ext g ρ H ρ' H') (k : ∀ u, H a = some u → H' a = some u) {o : Ob} (h : At g ρ H a o) : At g ρ' H' a o := by
  cases o with
  | lst ws => obtain ⟨vs, q, r⟩ := h; exact ⟨vs, k _ q, r.mono e⟩
  | frl ws =>
    rcases h with ⟨o, vs, q, r⟩ | ⟨vs, q, r⟩
    · exact .inl ⟨o, vs, k _ q, r.mono e⟩
    · exact .inr ⟨vs, q, r.mono e⟩
  | dct kvs => obtain ⟨L, q, r1, r2, z⟩ := h; exact ⟨L, k _ q, r1.mono e, r2.mono e, z⟩
  | frd kvs => obtain ⟨o, L, q, r1, r2, z⟩ := h; exact ⟨o, L, k _ q, r1.mono e, r2.mono e, z⟩
  | dci kvs => obtain ⟨L, q, z, r⟩ := h; exact ⟨L, k _ q, z, r.mono e⟩
  | dcs kvs => obtain ⟨L, q, z, r⟩ := h; exact ⟨L, k _ q, z, r.mono e⟩
  | sst ws => obtain ⟨L, us, q, r, z⟩ := h; exact ⟨L, us, k _ q, r.mono e, z⟩
  | ins c fs => obtain ⟨dx, fs', q, z, r⟩ := h; exact ⟨dx, fs', k _ q, z, r.mono e⟩
  | exo c fs => exact ⟨h.1, k _ h.2⟩
theorem Sim.mono (s : Sim g ρ S H) (t : ∀ a vs, SqT g.K H a vs → SqT g.K H' a vs) (f : ∀ b o u, H b = some (.frz o u) → H' b = some (.frz o u)) (k : ∀ a ∈ ρ, ∀ u, H a = some u → H' a = some u) (tb : LamX.Tabs g.T H') : Sim g ρ S H' :=
  ⟨s.len, s.inj, fun i o a h1 h2 => (s.ats i o a h1 h2).mono ⟨⟨[], by simp⟩, t, f⟩ (k a (List.mem_of_getElem? h2)), tb⟩
theorem Sim.put {i : Nat} {o o' : Ob} {u : HO} (s : Sim g ρ S H) (h1 : S[i]? = some o) (h2 : ρ[i]? = some a) (nl : isLk o = false) (nf' : isFr o' = false)
    (new : ∀ H', Ext g ρ H ρ H' → H' a = some u → At g ρ H' a o') : Sim g ρ (S.set i o') (upd H a u) ∧ Ext g ρ H ρ (upd H a u) := by
  obtain ⟨x, hx, nt, nfz⟩ := (s.ats i o a h1 h2).there nl
  have nf : isFr o = false := by cases o <;> first | rfl | cases nl
  have e : Ext g ρ H ρ (upd H a u) := ⟨⟨[], by simp⟩, fun b vs t => by
    rcases t with (t | ⟨ob, t⟩) | t
    · exact .inl (.inl (by rw [upd_ne (ne_of t hx (fun z => nt vs z.symm))]; exact t))
    · exact .inl (.inr ⟨ob, by rw [upd_ne (ne_of t hx (fun z => nfz ob _ z.symm))]; exact t⟩)
    · exact .inr t, fun b ob w e => by rw [upd_ne (ne_of e hx (fun z => nfz ob w z.symm))]; exact e⟩
  have back : ∀ {j : Nat} {c : Ob}, (S.set i o')[j]? = some c → isFr c = false → ∃ b, S[j]? = some b ∧ isFr b = false := fun {j c} q q2 => by
    by_cases hj : j = i
    · subst hj
      exact ⟨o, h1, nf⟩
    · rw [List.getElem?_set_ne (Ne.symm hj)] at q
      exact ⟨c, q, q2⟩
  obtain ⟨x', hx', nt', nc'⟩ := (s.ats i o a h1 h2).code nf
  refine ⟨⟨by simp [s.len], fun j k b c d q1 q2 q3 q4 q5 q6 => ?_, fun j b c q1 q2 => ?_, tabs_upd s.tabs hx' nt' nc'⟩, e⟩
  · obtain ⟨c', z1, z2⟩ := back q3 q5
    obtain ⟨d', z3, z4⟩ := back q4 q6
    exact s.inj j k b c' d' q1 q2 z1 z3 z2 z4
  · by_cases hj : j = i
    · subst hj
      rw [h2] at q2
      cases q2
      have hlt := (List.getElem?_eq_some_iff.mp h1).1
      rw [List.getElem?_set_self hlt] at q1
      cases q1
      exact new _ e upd_same
    · rw [List.getElem?_set_ne (Ne.symm hj)] at q1
      have z0 := s.ats j b c q1 q2
      by_cases hb : isFr b = true
      · cases b with
        | frl ws =>
          rcases z0 with ⟨ob, vs, z, r⟩ | ⟨vs, z, r⟩
          · refine .inl ⟨ob, vs, ?_, r.mono e⟩
            rw [upd_ne (ne_of z hx fun y => nfz _ _ y.symm)]
            exact z
          · exact .inr ⟨vs, z, r.mono e⟩
        | _ => cases hb
      · have hb' : isFr b = false := by simpa using hb
        refine z0.mono e fun y q => ?_
        have n : c ≠ a := fun z => by
          subst z
          exact hj (s.inj j i c b o q2 h2 q1 h1 hb' nf)
        rw [upd_ne n]
        exact q
end
end Rz
namespace Rz
open PySem PySem.Spec PyProof.Rows L2

def ExD (g : G) (ρ : List Addr) (H : Hp) (c : Nat) (fs : List Va) (d : Option Addr) : Prop :=
  (fs = [] ∧ d = none) ∨ ∃ dd fs', fs ≠ [] ∧ d = some dd ∧ H dd = some (.xd fs') ∧ fs'.map (·.1) = (g.fld c).take fs.length ∧ RelL g ρ H fs (fs'.map (·.2))
def wpR {α β : Type} (g : G) (Wx : WX) (σ : L2.St) (rel : List Addr → Hp → α → β → Prop) (ρ : List Addr) (H : Hp) (r : Rs α) (Q : β → Hp → Prop) : Prop :=
  match r with
  | .ok a S => ∀ ρ' H' b, Ext g ρ H ρ' H' → Sim g ρ' S H' → rel ρ' H' a b → Q b H'
  | .ex c fs S => ∀ ρ' H' d, Ext g ρ H ρ' H' → Sim g ρ' S H' → ExD g ρ' H' c fs d → Wx (.ref (g.cls c)) d σ H'
  | .bad => False
def relB (_ : List Addr) (_ : Hp) (a b : Bool) : Prop := a = b
def SimE (g : G) (ρ : List Addr) (H : Hp) (δ : Env) (σ : L2.St) : Prop := δ.length = σ.length ∧ ∀ (i : Nat) (w : Va), δ[i]? = some (some w) → ∃ v, σ[i]? = some (some v) ∧ Rel g ρ H w v
def wpS (g : G) (Wx : WX) (ρ : List Addr) (H : Hp) (D : Ends) (o : Out) : Prop :=
  match o with
  | .nx δ S => ∀ ρ' H' σ', Ext g ρ H ρ' H' → Sim g ρ' S H' → SimE g ρ' H' δ σ' → D.nx σ' H'
  | .bk δ S => ∀ ρ' H' σ', Ext g ρ H ρ' H' → Sim g ρ' S H' → SimE g ρ' H' δ σ' → D.bk σ' H'
  | .ct δ S => ∀ ρ' H' σ', Ext g ρ H ρ' H' → Sim g ρ' S H' → SimE g ρ' H' δ σ' → D.ct σ' H'
  | .rt w S => ∀ ρ' H' v, Ext g ρ H ρ' H' → Sim g ρ' S H' → Rel g ρ' H' w v → D.rt v H'
  | .ex c fs δ S => ∀ ρ' H' σ' d, Ext g ρ H ρ' H' → Sim g ρ' S H' → SimE g ρ' H' δ σ' → ExD g ρ' H' c fs d → Wx (.ref (g.cls c)) d σ' H'
  | .bad => False

section
variable {g : G} {Wx : WX} {ρ ρ' : List Addr} {H H' : Hp} {σ : L2.St} {δ : Env} {S : Sto}
theorem SimE.mono (e : Ext g ρ H ρ' H') (h : SimE g ρ H δ σ) : SimE g ρ' H' δ σ := ⟨h.1, fun i w q => let ⟨v, h1, h2⟩ := h.2 i w q; ⟨v, h1, h2.mono e⟩⟩
theorem SimE.put {i : Nat} {w : Va} {v : V} (h : SimE g ρ H δ σ) (r : Rel g ρ H w v) : SimE g ρ H (δ.set i (some w)) (σ.set i (some v)) := by
  refine ⟨by simp [h.1], fun j u q => ?_⟩
  by_cases hj : j = i
  · subst hj
    have hlt : j < δ.length := by
      have z := (List.getElem?_eq_some_iff.mp q).1
      simpa using z
    rw [List.getElem?_set_self hlt] at q
    cases q
    exact ⟨v, List.getElem?_set_self (by rw [← h.1]; exact hlt), r⟩
  · rw [List.getElem?_set_ne (Ne.symm hj)] at q ⊢
    exact h.2 j u q
theorem SimE.drop {i : Nat} (h : SimE g ρ H δ σ) : SimE g ρ H (δ.set i none) (σ.set i none) := by
  refine ⟨by simp [h.1], fun j u q => ?_⟩
  by_cases hj : j = i
  · subst hj
    have hlt : j < δ.length := by
      have z := (List.getElem?_eq_some_iff.mp q).1
      simpa using z
    rw [List.getElem?_set_self hlt] at q
    cases q
  · rw [List.getElem?_set_ne (Ne.symm hj)] at q ⊢
    exact h.2 j u q
section
variable {α β γ θ : Type} {rel : List Addr → Hp → α → β → Prop} {rel2 : List Addr → Hp → γ → θ → Prop}
theorem wpR.imp {r : Rs α} {Q Q' : β → Hp → Prop} (h : wpR g Wx σ rel ρ H r Q) (k : ∀ b H', Q b H' → Q' b H') : wpR g Wx σ rel ρ H r Q' := by
  cases r with
  | ok a S => exact fun ρ' H' b e s r => k b H' (h ρ' H' b e s r)
  | ex c fs S => exact h
  | bad => exact h
theorem wpR.ext {r : Rs α} {Q : β → Hp → Prop} (e0 : Ext g ρ H ρ' H') (h : wpR g Wx σ rel ρ H r Q) : wpR g Wx σ rel ρ' H' r Q := by
  cases r with
  | ok a S => exact fun ρ1 H1 b e s r => h ρ1 H1 b (e0.trans e) s r
  | ex c fs S => exact fun ρ1 H1 d e s x => h ρ1 H1 d (e0.trans e) s x
  | bad => exact h
theorem wpR.bind {r : Rs α} {f : α → Sto → Rs γ} {Q : θ → Hp → Prop} (h : wpR g Wx σ rel2 ρ H (r.bind f) Q) :
    wpR g Wx σ rel ρ H r fun b H1 => ∃ ρ1 a S1, Ext g ρ H ρ1 H1 ∧ Sim g ρ1 S1 H1 ∧ rel ρ1 H1 a b ∧ wpR g Wx σ rel2 ρ1 H1 (f a S1) Q := by
  cases r with
  | ok a S => exact fun ρ' H' b e s r => ⟨ρ', a, S, e, s, r, wpR.ext e h⟩
  | ex c fs S => exact h
  | bad => exact h
theorem wpS.ext {D : Ends} {o : Out} (e0 : Ext g ρ H ρ' H') (h : wpS g Wx ρ H D o) : wpS g Wx ρ' H' D o := by
  cases o with
  | nx δ S => exact fun ρ1 H1 s e a b => h ρ1 H1 s (e0.trans e) a b
  | bk δ S => exact fun ρ1 H1 s e a b => h ρ1 H1 s (e0.trans e) a b
  | ct δ S => exact fun ρ1 H1 s e a b => h ρ1 H1 s (e0.trans e) a b
  | rt w S => exact fun ρ1 H1 s e a b => h ρ1 H1 s (e0.trans e) a b
  | ex c fs δ S => exact fun ρ1 H1 s d e a b c => h ρ1 H1 s d (e0.trans e) a b c
  | bad => exact h
theorem wpR.out {r : Rs α} {f : α → Sto → Out} {D : Ends} (se : SimE g ρ H δ σ) (h : wpS g Wx ρ H D (r.out δ f)) :
    wpR g Wx σ rel ρ H r fun b H1 => ∃ ρ1 a S1, Ext g ρ H ρ1 H1 ∧ Sim g ρ1 S1 H1 ∧ rel ρ1 H1 a b ∧ wpS g Wx ρ1 H1 D (f a S1) := by
  cases r with
  | ok a S => exact fun ρ' H' b e s r => ⟨ρ', a, S, e, s, r, wpS.ext e h⟩
  | ex c fs S => exact fun ρ' H' d e s x => h ρ' H' σ d e s (se.mono e) x
  | bad => exact h
end
theorem wpR.fin {α β : Type} {rel : List Addr → Hp → α → β → Prop} {a : α} {b : β} {Q : β → Hp → Prop} (h : wpR g Wx σ rel ρ H (.ok a S) Q) (s : Sim g ρ S H) (r : rel ρ H a b) : Q b H := h ρ H b .refl s r
end

def tE (g : G) (Wx : WX) (x : XE) : TE := fun σ H Q => ∃ δ S ρ, Sim g ρ S H ∧ SimE g ρ H δ σ ∧ wpR g Wx σ (Rel g) ρ H (x δ S) Q
def tA (g : G) (Wx : WX) (x : XA) : TA := fun σ H Q => ∃ δ S ρ, Sim g ρ S H ∧ SimE g ρ H δ σ ∧ wpR g Wx σ (RelL g) ρ H (x δ S) Q
def tQ (g : G) (Wx : WX) (x : XT) : TT := fun σ H Q => ∃ δ S ρ, Sim g ρ S H ∧ SimE g ρ H δ σ ∧ wpR g Wx σ relB ρ H (x δ S) Q
def tS (g : G) (Wx : WX) (x : XS) : TS := fun D σ H => ∃ δ S ρ, Sim g ρ S H ∧ SimE g ρ H δ σ ∧ wpS g Wx ρ H D (x δ S)
abbrev SE (X : Cx) (g : G) (Wx : WX) (e : Expr) (x : XE) : Prop := PE X e (tE g Wx x)
abbrev SA (X : Cx) (g : G) (Wx : WX) (es : List Expr) (x : XA) : Prop := PA X es (tA g Wx x)
abbrev SQ (X : Cx) (g : G) (Wx : WX) (e : Expr) (x : XT) : Prop := PT X e (tQ g Wx x)
abbrev SS (X : Cx) (g : G) (Wx : WX) (s : Stmt) (x : XS) : Prop := PS X s (tS g Wx x)
abbrev SB (X : Cx) (g : G) (Wx : WX) (s : List Stmt) (x : XS) : Prop := PSs X s (tS g Wx x)
structure XO (X : Cx) (g : G) (Wx : WX) (k : Nat) : Prop where
  K : g.K = X.K
  nd : X.N.Nodup
  calm : X.calm = true
  room : Room k X.A
  grd : X.A.guards = some []
  tk : Takes X Wx
  po : PassesOwn (model X.prog X.w) X.A X.env X.xe
  gP : g.P = X.prog
  gw : g.w = X.w
theorem XO.mono {X : Cx} {g : G} {Wx : WX} {j k : Nat} (o : XO X g Wx k) (h : j ≤ k) : XO X g Wx j := ⟨o.K, o.nd, o.calm, o.room.mono h, o.grd, o.tk, o.po, o.gP, o.gw⟩

@[simp] def xvar (i : Nat) : XE := fun δ S => match δ[i]? with
  | some (some w) => .ok w S
  | _ => .bad
@[simp] def xlit (w : Va) : XE := fun _ S => .ok w S
@[simp] def xbin (f : Va → Va → Sto → Rs Va) (x y : XE) : XE := fun δ S => (x δ S).bind fun a S1 => (y δ S1).bind fun b S2 => f a b S2
@[simp] def xun (f : Va → Sto → Rs Va) (x : XE) : XE := fun δ S => (x δ S).bind f
@[simp] def xbinB (f : Va → Va → Sto → Rs Bool) (x y : XE) : XT := fun δ S => (x δ S).bind fun a S1 => (y δ S1).bind fun b S2 => f a b S2
@[simp] def xboo (x : XT) : XE := fun δ S => (x δ S).bind fun b S1 => .ok (.bl b) S1
@[simp] def xand (x y : XT) : XT := fun δ S => (x δ S).bind fun b S1 => if b then y δ S1 else .ok false S1
@[simp] def xor (x y : XT) : XT := fun δ S => (x δ S).bind fun b S1 => if b then .ok true S1 else y δ S1
@[simp] def xnot (x : XT) : XT := fun δ S => (x δ S).bind fun b S1 => .ok (!b) S1
@[simp] def xite (c : XT) (x y : XE) : XE := fun δ S => (c δ S).bind fun b S1 => if b then x δ S1 else y δ S1
@[simp] def anil : XA := fun _ S => .ok [] S
@[simp] def acons (x : XE) (r : XA) : XA := fun δ S => (x δ S).bind fun a S1 => (r δ S1).bind fun as S2 => .ok (a :: as) S2
@[simp] def xcall (f : List Va → Sto → Rs Va) (r : XA) : XE := fun δ S => (r δ S).bind f
def fits (n : Nat) : Bool := decide (n ≤ sizeLine)
theorem fits_iff {n : Nat} : fits n = true ↔ n ≤ sizeLine := by unfold fits; exact decide_eq_true_iff
theorem fits_of {n : Nat} (h : n ≤ 16777216) : fits n = true := fits_iff.mpr (by rw [sizeLine_eq]; exact h)
def ltup (ws : List Va) (S : Sto) : Rs Va := bif fits ws.length then .ok (.tup ws) S else .bad
def llst (ws : List Va) (S : Sto) : Rs Va := bif fits ws.length then .ok (.loc S.length) (S ++ [.lst ws]) else .bad

section
variable {X : Cx} {g : G} {Wx : WX} {k : Nat} {pos : Pos}
def OpS (g : G) (r : R2) (f : Va → Va → Sto → Rs Va) : Prop :=
  ∀ (Wx : WX) (σ : L2.St) (ρ : List Addr) (S : Sto) (H : Hp) (a b : Va) (x y : V) (Q : VK), Sim g ρ S H → Rel g ρ H a x → Rel g ρ H b y → wpR g Wx σ (Rel g) ρ H (f a b S) Q → r x y H Q
def OpB (g : G) (r : R2) (f : Va → Va → Sto → Rs Bool) : Prop :=
  ∀ (Wx : WX) (σ : L2.St) (ρ : List Addr) (S : Sto) (H : Hp) (a b : Va) (x y : V) (Q : VK), Sim g ρ S H → Rel g ρ H a x → Rel g ρ H b y → wpR g Wx σ relB ρ H (f a b S) (fun b H' => Q (.bl b) H') → r x y H Q
@[simp] def tobl (w : Va) (S : Sto) : Rs Bool := match w with
  | .bl b => .ok b S
  | _ => .bad
def xtst (x : XE) : XT := fun δ S => (x δ S).bind tobl
end
end Rz
namespace Rz
open PySem PySem.Spec PyProof.Rows L2

def getL (S : Sto) (i : Nat) : Option (List Va) := match S[i]? with
  | some (.lst ws) => some ws
  | some (.frl ws) => some ws
  | _ => none
@[simp] def truV (w : Va) (S : Sto) : Rs Bool := match w with
  | .non => .ok false S
  | .bl b => .ok b S
  | .int i => .ok (i != 0) S
  | .str y => bif fits y.length then .ok ((y.length : Int) != 0) S else .bad
  | .tup ws => .ok (!ws.isEmpty) S
  | .loc i => match getL S i with
    | some ws => .ok (!ws.isEmpty) S
    | none => .bad
  | _ => .bad
section
variable {X : Cx} {g : G} {Wx : WX} {k : Nat} {pos : Pos} {a b c : Expr} {x y z : XE} {p q : XT}
@[simp] def xtru (x : XE) : XT := fun δ S => (x δ S).bind truV
abbrev SW (X : Cx) (g : G) (Wx : WX) (e : Expr) (x : XT) : Prop := PW X e (tQ g Wx x)
@[simp] def xandV (x y : XE) : XE := fun δ S => (x δ S).bind fun w S1 => match w with
  | .bl true => y δ S1
  | .bl false => .ok (.bl false) S1
  | _ => .bad
@[simp] def xorV (x y : XE) : XE := fun δ S => (x δ S).bind fun w S1 => match w with
  | .bl true => .ok (.bl true) S1
  | .bl false => y δ S1
  | _ => .bad
@[simp] def xnotV (x : XE) : XE := fun δ S => (x δ S).bind fun w S1 => match w with
  | .bl b => .ok (.bl (!b)) S1
  | _ => .bad
@[simp] def xchain (f f' : Va → Va → Sto → Rs Bool) (x y z : XE) : XT := fun δ S => (x δ S).bind fun u S1 => (y δ S1).bind fun v S2 => (f u v S2).bind fun t S3 => if t then (z δ S3).bind fun w S4 => f' v w S4 else .ok false S3
variable {es : List Expr} {r : XA}
@[simp] def xtup (r : XA) : XE := fun δ S => (r δ S).bind ltup
@[simp] def xlst (r : XA) : XE := fun δ S => (r δ S).bind llst
variable {s t : XS} {st : Stmt} {rest : List Stmt}
@[simp] def snext : XS := fun δ S => .nx δ S
@[simp] def sseq (s t : XS) : XS := fun δ S => (s δ S).next t
@[simp] def sset (i : Nat) (x : XE) : XS := fun δ S => (x δ S).out δ fun w S1 => .nx (δ.set i (some w)) S1
@[simp] def sexp (x : XE) : XS := fun δ S => (x δ S).out δ fun _ S1 => .nx δ S1
@[simp] def sret (x : XE) : XS := fun δ S => (x δ S).out δ fun w S1 => .rt w S1
@[simp] def sretN : XS := fun _ S => .rt .non S
@[simp] def sbrk : XS := fun δ S => .bk δ S
@[simp] def scnt : XS := fun δ S => .ct δ S
@[simp] def sif (p : XT) (s t : XS) : XS := fun δ S => (p δ S).out δ fun b S1 => if b then s δ S1 else t δ S1
@[simp] def sraise (c : Nat) : XS := fun δ S => .ex c [] δ S
end
end Rz
namespace Rz
open PySem PySem.Spec PyProof.Rows L2

structure FnG (P : Program) (w : World) (K : PySem.W.Frag) (mg : Str → Option Value) (base : Heap) (k : Nat) (f : Addr) (fd : FuncData) (ps : List Str) (sp : Sp) : Prop where
  len : ∀ vs H Q E, sp vs H Q E → vs.length = ps.length
  run : ∀ (A : Around) (outer : List PySem.Env) (s : Shared) (H : Hp) (args : Args) (us : List Value) (vs : List V) (Q : VK) (E : XK), Room k A → A.guards = some [] →
    Env0 P w K mg base A outer s H → BindsTo s fd args (ps.zip us) → Vals vs us → sp vs H Q E →
    codeAny (model P w) A (.call (.ref f) args) (CR (L2.CX P w) outer P w H s Q E) s
theorem FnG.mono {P : Program} {w : World} {K : PySem.W.Frag} {mg : Str → Option Value} {base : Heap} {j k : Nat} {f : Addr} {fd : FuncData} {ps : List Str} {sp : Sp} (F : FnG P w K mg base j f fd ps sp) (h : j ≤ k) : FnG P w K mg base k f fd ps sp :=
  ⟨F.len, fun A outer s H args us vs Q E hr => F.run A outer s H args us vs Q E (hr.mono h)⟩
def spM (g : G) (n : Nat) (m : List Va → Sto → Rs Va) : Sp := fun vs H Q E => vs.length = n ∧ ∃ ws S ρ, Sim g ρ S H ∧ RelL g ρ H ws vs ∧ wpR g (fun c d _ H' => E c d H') [] (Rel g) ρ H (m ws S) Q
def Out.fin (o : Out) : Rs Va := match o with
  | .rt w S' => .ok w S'
  | .nx _ S' => .ok .non S'
  | .ex c fs _ S' => .ex c fs S'
  | _ => .bad
@[simp] def mkFn (n : Nat) (s : XS) (ws : List Va) (S : Sto) : Rs Va := (s (ws.map some ++ List.replicate (n - ws.length) none) S).fin
abbrev Eo (E : XK) : WX := fun c d _ H' => E c d H'
section
variable {X : Cx} {g : G} {Wx : WX} {k : Nat} {pos : Pos} {a b c : Expr} {es : List Expr} {x y z : XE} {r : XA}
@[simp] def ycall (n : Nat) (m : List Va → Sto → Rs Va) (r : XA) : XE := fun δ S => (r δ S).bind fun ws S1 => if ws.length = n then m ws S1 else .bad
abbrev XP := Va → Env → Option Env
def tP (g : G) (p : XP) (sl : List Nat) : TG := fun v σ H Q => ∃ δ w ρ δ', Rel g ρ H w v ∧ SimE g ρ H δ σ ∧ p w δ = some δ' ∧ ∀ σ', SimE g ρ H δ' σ' → σ'.length = σ.length → (∀ j, j ∉ sl → σ'[j]? = σ[j]?) → Q σ' H
abbrev SG (X : Cx) (g : G) (tg : Expr) (p : XP) (sl : List Nat) : Prop := PG X tg (tP g p sl)
@[simp] def pname (i : Nat) : XP := fun w δ => some (δ.set i (some w))
abbrev XPs := List Va → Env → Option Env
def tPs (g : G) (p : XPs) (sl : List Nat) : TGs := fun vs σ H Q => ∃ δ ws ρ δ', RelL g ρ H ws vs ∧ SimE g ρ H δ σ ∧ p ws δ = some δ' ∧ ∀ σ', SimE g ρ H δ' σ' → σ'.length = σ.length → (∀ j, j ∉ sl → σ'[j]? = σ[j]?) → Q σ' H
abbrev SGs (X : Cx) (g : G) (ts : List Expr) (p : XPs) (sl : List Nat) : Prop := PGs X ts (tPs g p sl)
@[simp] def pnil : XPs := fun ws δ => match ws with
  | [] => some δ
  | _ => none
@[simp] def pcons (p : XP) (q : XPs) : XPs := fun ws δ => match ws with
  | w :: ws => (p w δ).bind (q ws)
  | [] => none
@[simp] def ptup (n : Nat) (q : XPs) : XP := fun w δ => match w with
  | .tup ws => if ws.length = n then q ws δ else none
  | _ => none
abbrev Nth := Sto → Nat → Option (Option Va)
def nseq (ws : List Va) : Nth := fun _ i => some ws[i]?
def nloc (l : Nat) : Nth := fun S i => (getL S l).map fun ws => ws[i]?
def nrng (lo : Int) (n : Nat) : Nth := fun _ i => some (if i < n then some (.int (lo + i)) else none)
def forG (nth : Nth) (put : XP) (body : XS) : Nat → Nat → XS
  | 0, _ => fun _ _ => .bad
  | n + 1, i => fun δ S => match nth S i with
    | none => .bad
    | some none => .nx δ S
    | some (some w) => match put w δ with
      | none => .bad
      | some δ1 => match body δ1 S with
        | .nx δ2 S2 => forG nth put body n (i + 1) δ2 S2
        | .ct δ2 S2 => forG nth put body n (i + 1) δ2 S2
        | .bk δ2 S2 => .nx δ2 S2
        | o => o
def NthOk (g : G) (ρ0 : List Addr) (H0 : Hp) (nth : Nth) (J : It) : Prop := ∀ i S ρ H, Ext g ρ0 H0 ρ H → Sim g ρ S H →
  (nth S i = some none → J.stop i H) ∧ ∀ w, nth S i = some (some w) → J.go i H ∧ ∀ x H', J.yld i H x H' → Ext g ρ H ρ H' ∧ Sim g ρ S H' ∧ Rel g ρ H' w x
abbrev XI := Env → Sto → Rs (Nat × Nth)
def tI (g : G) (Wx : WX) (x : XI) : TI := fun σ H R => ∃ δ S ρ, Sim g ρ S H ∧ SimE g ρ H δ σ ∧ match x δ S with
    | .ok a S' => ∀ ρ' H' J, Ext g ρ H ρ' H' → Sim g ρ' S' H' → NthOk g ρ' H' a.2 J → R J H'
    | .ex c fs S' => ∀ ρ' H' d, Ext g ρ H ρ' H' → Sim g ρ' S' H' → ExD g ρ' H' c fs d → Wx (.ref (g.cls c)) d σ H'
    | .bad => False
abbrev SI (X : Cx) (g : G) (Wx : WX) (tg it : Expr) (x : XI) : Prop := PI X tg it (tI g Wx x)
@[simp] def sfor (x : XI) (put : XP) (body : XS) : XS := fun δ S => (x δ S).out δ fun a S1 => forG a.2 put body a.1 0 δ S1
@[simp] def isq (x : XE) : XI := fun δ S => (x δ S).bind fun w S1 => match w with
  | .tup ws => .ok (ws.length + 1, nseq ws) S1
  | .loc l => match getL S1 l with
    | some ws => .ok (ws.length + 1, nloc l) S1
    | none => .bad
  | _ => .bad
def big (j : Int) : Bool := decide (-(2 ^ 62) ≤ j) && decide (j < 2 ^ 62)
@[simp] def irg1 (x : XE) : XI := fun δ S => (x δ S).bind fun w S1 => match w with
  | .int j => bif big j then .ok (j.toNat + 1, nrng 0 j.toNat) S1 else .bad
  | _ => .bad
@[simp] def irg2 (x y : XE) : XI := fun δ S => (x δ S).bind fun w S1 => (y δ S1).bind fun u S2 => match w, u with
  | .int i, .int j => bif big i && big j then .ok ((j - i).toNat + 1, nrng i (j - i).toNat) S2 else .bad
  | _, _ => .bad
end
end Rz
namespace Rz
open PySem PySem.Spec PyProof.Rows L2

def mulOk (i j : Int) : Bool := (decide (-(2 ^ 64) < i) && decide (i < 2 ^ 64)) || (decide (-(2 ^ 64) < j) && decide (j < 2 ^ 64))
def powOk (i j : Int) : Bool := decide (0 ≤ j) && decide (j ≤ 1000000) && decide (i.natAbs < 2 ^ 64)
@[simp] def oAdd (a b : Va) (S : Sto) : Rs Va := match a, b with
  | .int i, .int j => .ok (.int (i + j)) S
  | .str x, .str y => bif fits (x.length + y.length) then .ok (.str (x ++ y)) S else .bad
  | .tup xs, .tup ys => ltup (xs ++ ys) S
  | .loc i, .loc j => match S[i]?, S[j]? with
    | some (.lst xs), some (.lst ys) => llst (xs ++ ys) S
    | _, _ => .bad
  | _, _ => .bad
@[simp] def oSub (a b : Va) (S : Sto) : Rs Va := match a, b with
  | .int i, .int j => .ok (.int (i - j)) S
  | _, _ => .bad
def oMul (a b : Va) (S : Sto) : Rs Va := match a, b with
  | .int i, .int j => bif mulOk i j then .ok (.int (i * j)) S else .bad
  | .loc l, .int k => match S[l]? with
    | some (.lst xs) => bif big k && decide (xs.length * k.toNat ≤ sizeLine) then llst (List.replicate k.toNat xs).flatten S else .bad
    | _ => .bad
  | _, _ => .bad
@[simp] def oDiv (a b : Va) (S : Sto) : Rs Va := match a, b with
  | .int i, .int j => if 0 < j ∧ j < 1073741824 then .ok (.int (i / j)) S else .bad
  | _, _ => .bad
@[simp] def oMod (a b : Va) (S : Sto) : Rs Va := match a, b with
  | .int i, .int j => if 0 < j then .ok (.int (i % j)) S else .bad
  | _, _ => .bad
@[simp] def oPow (a b : Va) (S : Sto) : Rs Va := match a, b with
  | .int i, .int j => bif powOk i j then .ok (.int (i ^ j.toNat)) S else .bad
  | _, _ => .bad
@[simp] def oShl (a b : Va) (S : Sto) : Rs Va := match a, b with
  | .int i, .int j => bif powOk i j then .ok (.int (i * 2 ^ j.toNat)) S else .bad
  | _, _ => .bad
section
variable {g : G}
abbrev rOr (r r' : R2) : R2 := fun x y H Q => r x y H Q ∨ r' x y H Q
abbrev rStr : R2 := fun x y H Q => ∃ i j, x = .str i ∧ y = .str j ∧ i.length + j.length ≤ sizeLine ∧ Q (.str (i ++ j)) H
abbrev rAddAll (K : PySem.W.Frag) : R2 := rOr (rI0 fun i j => .int (i + j)) (rOr rStr (rOr (rCatA K) rCat))
abbrev rMulAll : R2 := rOr (rI CMul fun i j => .int (i * j)) rRep
@[simp] def cLt (a b : Va) (S : Sto) : Rs Bool := match a, b with
  | .int i, .int j => .ok (decide (i < j)) S
  | _, _ => .bad
@[simp] def cLe (a b : Va) (S : Sto) : Rs Bool := match a, b with
  | .int i, .int j => .ok (decide (i ≤ j)) S
  | _, _ => .bad
@[simp] def cGt (a b : Va) (S : Sto) : Rs Bool := match a, b with
  | .int i, .int j => .ok (decide (j < i)) S
  | _, _ => .bad
@[simp] def cGe (a b : Va) (S : Sto) : Rs Bool := match a, b with
  | .int i, .int j => .ok (decide (j ≤ i)) S
  | _, _ => .bad
def allD (f : Va → Option PyData) : List Va → Option (List PyData)
  | [] => some []
  | w :: ws => match f w, allD f ws with
    | some d, some ds => some (d :: ds)
    | _, _ => none
def toD (S : Sto) : Nat → Va → Option PyData
  | 0, _ => none
  | n + 1, w => match w with
    | .non => some .none
    | .bl b => some (.bool b)
    | .int i => some (.int i)
    | .str x => some (.str x)
    | .tup ws => (allD (toD S n) ws).map .tuple
    | .loc l => match getL S l with
      | some ws => (allD (toD S n) ws).map .list
      | none => none
    | _ => none
def scE (a b : Va) : Option Bool := match a, b with
  | .str x, .str y => some (decide (x = y))
  | .int x, .int y => some (decide (x = y))
  | .bl x, .bl y => some (decide (x = y))
  | .non, .int _ => some false
  | .non, .bl _ => some false
  | .non, .str _ => some false
  | .int _, .non => some false
  | .bl _, .non => some false
  | .str _, .non => some false
  | .int _, .str _ => some false
  | .str _, .int _ => some false
  | .bl _, .str _ => some false
  | .str _, .bl _ => some false
  | _, _ => none
def deepE (a b : Va) (S : Sto) : Rs Bool := match toD S 64 a, toD S 64 b with
  | some d, some e => bif SeqAt.shaped d && SeqAt.shaped e then .ok (PyData.eqv d e) S else .bad
  | _, _ => .bad
def cEq (a b : Va) (S : Sto) : Rs Bool := match scE a b with
  | some t => .ok t S
  | none => deepE a b S
@[simp] def cNe (a b : Va) (S : Sto) : Rs Bool := (cEq a b S).bind fun b S1 => .ok (!b) S1
@[simp] def cIs (a b : Va) (S : Sto) : Rs Bool := match a, b with
  | .bl i, .bl j => .ok (decide (i = j)) S
  | _, _ => .bad
@[simp] def cIsn (a b : Va) (S : Sto) : Rs Bool := match a, b with
  | .bl i, .bl j => .ok (!decide (i = j)) S
  | _, _ => .bad
@[simp] def xisN (x : XE) : XT := fun δ S => (x δ S).bind fun w S1 => match w with
  | .non => .ok true S1
  | _ => .ok false S1
end
section
variable {X : Cx} {g : G} {Wx : WX} {k : Nat} {pos : Pos} {a b c : Expr} {es : List Expr} {x y z : XE} {r : XA}
@[simp] def oIx (a b : Va) (S : Sto) : Rs Va := match a, b with
  | .tup ws, .int i => match atI ws i with
    | some w => .ok w S
    | none => .bad
  | .loc l, .int i => match getL S l with
    | some ws => match atI ws i with
      | some w => .ok w S
      | none => .bad
    | none => .bad
  | _, _ => .bad
abbrev rIxAll (K : PySem.W.Frag) : R2 := rOr (rIxL K) (rIxT K)
end
end Rz
namespace Rz
open PySem PySem.Spec PyProof.Rows L2

def CalS (g : G) (r : List V → Hp → VK → Prop) (f : List Va → Sto → Rs Va) : Prop :=
  ∀ (Wx : WX) (σ : L2.St) (ρ : List Addr) (S : Sto) (H : Hp) (ws : List Va) (vs : List V) (Q : VK), Sim g ρ S H → RelL g ρ H ws vs → wpR g Wx σ (Rel g) ρ H (f ws S) Q → r vs H Q
section
variable {X : Cx} {g : G} {Wx : WX} {k : Nat} {pos : Pos} {a b c : Expr} {es : List Expr} {x y z : XE} {r : XA}
def rRepr (K : PySem.W.Frag) : List V → Hp → VK → Prop := fun xs H Q => ∃ x d, xs = [x] ∧ Dp K H x d ∧ d.showable = true ∧ d.hasDict = false ∧ d.depth ≤ 100 ∧ d.shown.length ≤ sizeLine ∧ Q (.str d.shown) H
def fRepr (ws : List Va) (S : Sto) : Rs Va := match ws with
  | [w] => match toD S 64 w with
    | some d => bif d.showable && !d.hasDict && decide (d.depth ≤ 100) && decide (d.shown.length ≤ sizeLine) then .ok (.str d.shown) S else .bad
    | none => .bad
  | _ => .bad
@[simp] def fInt (ws : List Va) (S : Sto) : Rs Va := match ws with
  | [.int i] => .ok (.int i) S
  | [.bl b] => .ok (.int (if b then 1 else 0)) S
  | _ => .bad
@[simp] def itm (w : Va) (S : Sto) : Option (List Va) := match w with
  | .tup ws => some ws
  | .loc l => getL S l
  | _ => none
@[simp] def fLen (ws : List Va) (S : Sto) : Rs Va := match ws with
  | [w] => match itm w S with
    | some us => .ok (.int us.length) S
    | none => .bad
  | _ => .bad
@[simp] def fList (ws : List Va) (S : Sto) : Rs Va := match ws with
  | [w] => match itm w S with
    | some us => llst us S
    | none => .bad
  | _ => .bad
@[simp] def kind (w : Va) (S : Sto) : Option Nat := match w with
  | .non => some 0
  | .bl _ => some 1
  | .int _ => some 2
  | .str _ => some 3
  | .tup _ => some 4
  | .loc l => match S[l]? with
    | some (.lst _) => some 5
    | some (.frl _) => some 5
    | some (.dci _) => some 6
    | some (.dcs _) => some 6
    | _ => none
  | _ => none
@[simp] def isK (a b : Nat) : Bool := a == b || (a == 1 && b == 2)
@[simp] def fIsi (ws : List Va) (S : Sto) : Rs Va := match ws with
  | [w, .ty n] => match kind w S with
    | some m => if n < 7 then .ok (.bl (isK m n)) S else .bad
    | none => .bad
  | _ => .bad
def MetS (g : G) (q : V → List V → Hp → VK → Prop) (f : Va → List Va → Sto → Rs Va) : Prop :=
  ∀ (Wx : WX) (σ : L2.St) (ρ : List Addr) (S : Sto) (H : Hp) (w : Va) (v : V) (ws : List Va) (vs : List V) (Q : VK), Sim g ρ S H → Rel g ρ H w v → RelL g ρ H ws vs → wpR g Wx σ (Rel g) ρ H (f w ws S) Q → q v vs H Q
@[simp] def isL (w : Va) (S : Sto) : Bool := match w with
  | .loc l => (getL S l).isSome
  | _ => false
@[simp] def xmetL (f : Va → List Va → Sto → Rs Va) (x : XE) (r : XA) : XE := fun δ S => (x δ S).bind fun w S1 => if isL w S1 then (r δ S1).bind fun ws S2 => f w ws S2 else .bad
def oApp (w : Va) (ws : List Va) (S : Sto) : Rs Va := match w, ws with
  | .loc l, [y] => match S[l]? with
    | some (.lst xs) => bif fits (xs.length + 1) then .ok .non (S.set l (.lst (xs ++ [y]))) else .bad
    | _ => .bad
  | _, _ => .bad
@[simp] def oRev (w : Va) (S : Sto) : Rs Va := match w with
  | .loc l => match getL S l with
    | some ws => llst ws.reverse S
    | none => .bad
  | _ => .bad
end
end Rz
namespace Rz
open PySem PySem.Spec PyProof.Rows L2

abbrev WF : WX := fun _ _ _ _ => False
@[simp] def wipeE (δ : Env) : List Nat → Env
  | [] => δ
  | v :: vs => (wipeE δ vs).set v none
def compG (nth : Nth) (put : XP) (cond : XT) (elt : XE) (D : Nat) (δ : Env) : Nat → Nat → Sto → Rs Va
  | 0, _, _ => .bad
  | n + 1, i, S => match nth S i with
    | none => .bad
    | some none => .ok (.loc D) S
    | some (some w) => match put w δ with
      | none => .bad
      | some δ1 => match cond δ1 S with
        | .ok false S1 => compG nth put cond elt D δ n (i + 1) S1
        | .ok true S1 => match elt δ1 S1 with
          | .ok y S2 => match S2[D]? with
            | some (.lst acc) => bif fits (acc.length + 1) then compG nth put cond elt D δ n (i + 1) (S2.set D (.lst (acc ++ [y]))) else .bad
            | _ => .bad
          | _ => .bad
        | _ => .bad
@[simp] def xcomp (vs : List Nat) (x : XI) (put : XP) (cond : XT) (elt : XE) : XE := fun δ S => (x δ S).bind fun a S1 => compG a.2 put cond elt S1.length (wipeE δ vs) a.1 0 (S1 ++ [.lst []])
@[simp] def xyes : XT := fun _ S => .ok true S
section
variable {g : G} {ρ : List Addr} {H : Hp}
theorem SimE.wipe {δ : Env} {σ : L2.St} (h : SimE g ρ H δ σ) : ∀ vs : List Nat, SimE g ρ H (wipeE δ vs) (L2.wipe σ vs)
  | [] => h
  | v :: vs => (SimE.wipe h vs).drop
end
section
variable {X : Cx} {g : G} {Wx : WX} {k : Nat} {pos : Pos} {a b c : Expr} {es : List Expr} {x y z : XE} {r : XA}
def rgL (a c : Int) (n : Nat) : List Va := (List.range n).map fun i => Va.int (a + (i : Nat) * c)
def lrngOk (a b c : Int) : Bool := decide (c ≠ 0) && Builtin.Range.small a b c && decide (0 ≤ Builtin.Range.rangeSize a b c) && decide (Builtin.Range.rangeSize a b c ≤ 16777216) && decide (c.natAbs < 1073741824)
def lrng (a b c : Int) (S : Sto) : Rs Va := bif lrngOk a b c then llst (rgL a c (Builtin.Range.rangeSize a b c).toNat) S else .bad
@[simp] def fLR3 (ws : List Va) (S : Sto) : Rs Va := match ws with
  | [.int a, .int b, .int c] => lrng a b c S
  | _ => .bad
@[simp] def fLR2 (ws : List Va) (S : Sto) : Rs Va := match ws with
  | [.int a, .int b] => lrng a b 1 S
  | _ => .bad
@[simp] def fLR1 (ws : List Va) (S : Sto) : Rs Va := match ws with
  | [.int b] => lrng 0 b 1 S
  | _ => .bad
end
end Rz
namespace Rz
open PySem PySem.Spec PyProof.Rows L2
section
variable {X : Cx} {g : G} {Wx : WX} {k : Nat} {pos : Pos} {a b c : Expr} {es : List Expr} {x y z : XE} {r : XA}
@[simp] def spar (is : List Nat) (r : XA) : XS := fun δ S => (r δ S).out δ fun ws S1 => if ws.length = is.length then .nx ((is.zip ws).foldl (fun d p => d.set p.1 (some p.2)) δ) S1 else .bad
end

def LawOk (m : List Va → Sto → Rs Va) : Prop := ∀ ns : List Int, ns.length ≤ 63 → ∃ S, m [.loc 0] [.frl (ns.map .int)] = .ok (.bl true) S
section
variable {P : Program} {w : World} {K : PySem.W.Frag} {mg mb : Str → Option Value} {k : Nat} {fa a : Addr} {fd : FuncData} {x : Str} {g : G} {m : List Va → Sto → Rs Va} {s₁ : Shared} {vs : List Value} {ns : List Int}
end
end Rz
namespace Rz
open PySem PySem.Spec PyProof.Rows L2
structure FnT (K : PySem.W.Frag) (mg : Str → Option Value) (nm qual : Str) (st : Stmt) (ps : List Str) (f : Addr) (fd : FuncData) : Prop where
  F : Fun K nm qual st f fd
  m : mg nm = some (.ref f)
  b : Binds K fd ps []
structure Cal (P : Program) (w : World) (K : PySem.W.Frag) (mg : Str → Option Value) (base : Heap) (g : G) (nm : Str) (k n : Nat) (m : List Va → Sto → Rs Va) : Prop where
  ex : ∃ f fd ps, FnG P w K mg base k f fd ps (spM g n m) ∧ mg nm = some (.ref f) ∧ PySem.W.keepIn K (.ref f) = true ∧ Binds K fd ps []
structure ExT (K : PySem.W.Frag) (mg : Str → Option Value) (nm : Str) (C : Addr) : Prop where
  m : mg nm = some (.ref C)
  x : PySem.W.excIn K C [.type "ValueError", .type "Exception", .type "BaseException", .type "object"] "ValueError.__new__" = true
  kp : PySem.W.keepIn K (.ref C) = true
  b : PySem.W.subIn K (.ref C) (.type "BaseException") = some true
  t : PySem.W.typeIn K (.ref C) = some (.type "type")
section
variable {X : Cx} {g : G} {Wx : WX} {k : Nat} {pos : Pos} {a b c : Expr} {es : List Expr} {x y z : XE} {r : XA}
@[simp] def sasg (p : XP) (x : XE) : XS := fun δ S => (x δ S).out δ fun w S1 => match p w δ with
  | some δ' => .nx δ' S1
  | none => .bad
@[simp] def oNeg (a : Va) (S : Sto) : Rs Va := match a with
  | .int i => .ok (.int (-i)) S
  | _ => .bad
end
end Rz
namespace Rz
open PySem L2
@[simp] theorem bind_ok {α β : Type} (a : α) (S : Sto) (f : α → Sto → Rs β) : (Rs.ok a S).bind f = f a S := rfl
@[simp] theorem bind_ex {α β : Type} (c : Nat) (fs : List Va) (S : Sto) (f : α → Sto → Rs β) : (Rs.ex c fs S : Rs α).bind f = .ex c fs S := rfl
@[simp] theorem out_ok {α : Type} (a : α) (S : Sto) (δ : Env) (f : α → Sto → Out) : (Rs.ok a S).out δ f = f a S := rfl
@[simp] theorem out_ex {α : Type} (c : Nat) (fs : List Va) (S : Sto) (δ : Env) (f : α → Sto → Out) : (Rs.ex c fs S : Rs α).out δ f = .ex c fs δ S := rfl
@[simp] theorem bad_bind {α β : Type} (f : α → Sto → Rs β) : (Rs.bad : Rs α).bind f = .bad := rfl
@[simp] theorem bad_out {α : Type} (δ : Env) (f : α → Sto → Out) : (Rs.bad : Rs α).out δ f = .bad := rfl
@[simp] theorem bad_next (f : XS) : Out.bad.next f = .bad := rfl
@[simp] theorem bad_fin : Out.bad.fin = .bad := rfl
@[simp] theorem next_nx (δ : Env) (S : Sto) (f : XS) : (Out.nx δ S).next f = f δ S := rfl
@[simp] theorem next_rt (w : Va) (S : Sto) (f : XS) : (Out.rt w S).next f = .rt w S := rfl
@[simp] theorem next_ex (c : Nat) (fs : List Va) (δ : Env) (S : Sto) (f : XS) : (Out.ex c fs δ S).next f = .ex c fs δ S := rfl
@[simp] theorem fin_rt (w : Va) (S : Sto) : (Out.rt w S).fin = .ok w S := rfl
@[simp] theorem fin_nx (δ : Env) (S : Sto) : (Out.nx δ S).fin = .ok .non S := rfl
@[simp] theorem fin_ex (c : Nat) (fs : List Va) (δ : Env) (S : Sto) : (Out.ex c fs δ S).fin = .ex c fs S := rfl
section
variable {α β : Type} {p : Prop} [Decidable p]
@[simp] theorem ite_bind (a b : Rs α) (f : α → Sto → Rs β) : (if p then a else b).bind f = if p then a.bind f else b.bind f := by split <;> rfl
@[simp] theorem ite_out (a b : Rs α) (δ : Env) (f : α → Sto → Out) : (if p then a else b).out δ f = if p then a.out δ f else b.out δ f := by split <;> rfl
@[simp] theorem ite_next (a b : Out) (f : XS) : (if p then a else b).next f = if p then a.next f else b.next f := by split <;> rfl
@[simp] theorem ite_fin (a b : Out) : (if p then a else b).fin = if p then a.fin else b.fin := by split <;> rfl
@[simp] theorem ite_ok (a b : α) (S : Sto) : (if p then Rs.ok a S else Rs.ok b S) = Rs.ok (if p then a else b) S := by split <;> rfl
@[simp] theorem ite_rt (a b : Va) (S : Sto) : (if p then Out.rt a S else Out.rt b S) = Out.rt (if p then a else b) S := by split <;> rfl
end
def Keep (S S' : Sto) : Prop := ∀ (j : Nat) (o : Ob), S[j]? = some o → S'[j]? = some o
theorem Keep.refl (S : Sto) : Keep S S := fun _ _ h => h
theorem Keep.trans {S S1 S2 : Sto} (a : Keep S S1) (b : Keep S1 S2) : Keep S S2 := fun j o h => b j o (a j o h)
theorem Keep.app (S r : Sto) : Keep S (S ++ r) := fun j o h => by
  have := (List.getElem?_eq_some_iff.mp h).1
  rw [List.getElem?_append_left this]
  exact h
theorem Keep.len {S S' : Sto} (k : Keep S S') : S.length ≤ S'.length := by
  rcases Nat.lt_or_ge S'.length S.length with h | h
  · have e : S[S'.length]? = some S[S'.length] := List.getElem?_eq_getElem h
    have := (List.getElem?_eq_some_iff.mp (k _ _ e)).1
    omega
  · exact h
theorem Keep.set {S S' : Sto} {D : Nat} {o : Ob} (k : Keep S S') (h : S.length ≤ D) : Keep S (S'.set D o) := fun j u e => by
  have := (List.getElem?_eq_some_iff.mp e).1
  rw [List.getElem?_set_ne (by omega)]
  exact k j u e
theorem Keep.getL {S S' : Sto} (k : Keep S S') {l : Nat} {ws : List Va} (h : getL S l = some ws) : Rz.getL S' l = some ws := by
  unfold Rz.getL at h ⊢
  cases e : S[l]? with
  | none => rw [e] at h; cases h
  | some o => rw [k l o e]; rw [e] at h; exact h
theorem get_new (S : Sto) (o : Ob) (r : Sto) : (S ++ o :: r)[S.length]? = some o := by simp
theorem getL_new (S : Sto) (ws : List Va) : getL (S ++ [.lst ws]) S.length = some ws := by
  unfold getL
  rw [get_new]
theorem forG_inv {nth : Nth} {put : XP} {body : XS} {n : Nat} (P : Nat → Env → Sto → Prop) : ∀ (m i : Nat) (δ : Env) (S : Sto), i + m = n → P i δ S → (∀ i δ S, i < n → P i δ S → ∃ w δ1, nth S i = some (some w) ∧ put w δ = some δ1 ∧ ∃ δ2 S2, (body δ1 S = .nx δ2 S2 ∨ body δ1 S = .ct δ2 S2) ∧ P (i + 1) δ2 S2) → (∀ δ S, P n δ S → nth S n = some none) →
    ∃ δ' S', forG nth put body (m + 1) i δ S = .nx δ' S' ∧ P n δ' S'
  | 0, i, δ, S, e, p, hs, hd => by
    have e' : i = n := by omega
    subst e'
    refine ⟨δ, S, ?_, p⟩
    unfold forG
    rw [hd δ S p]
  | m + 1, i, δ, S, e, p, hs, hd => by
    obtain ⟨w, δ1, h1, h2, δ2, S2, h3, h4⟩ := hs i δ S (by omega) p
    obtain ⟨δ', S', h5, h6⟩ := forG_inv (nth := nth) (put := put) (body := body) P m (i + 1) δ2 S2 (by omega) h4 hs hd
    refine ⟨δ', S', ?_, h6⟩
    unfold forG
    rw [h1]
    dsimp only
    rw [h2]
    dsimp only
    rcases h3 with h3 | h3
    · rw [h3]
      exact h5
    · rw [h3]
      exact h5
theorem for_rng {put : XP} {body : XS} {lo : Int} {n : Nat} {δ : Env} {S : Sto} (P : Nat → Env → Sto → Prop) (h0 : P 0 δ S) (hs : ∀ i δ S, i < n → P i δ S → ∃ δ1, put (.int (lo + (i : Nat))) δ = some δ1 ∧ ∃ δ2 S2, (body δ1 S = .nx δ2 S2 ∨ body δ1 S = .ct δ2 S2) ∧ P (i + 1) δ2 S2) :
    ∃ δ' S', forG (nrng lo n) put body (n + 1) 0 δ S = .nx δ' S' ∧ P n δ' S' := by
  refine forG_inv P n 0 δ S (by omega) h0 (fun i δ S hi p => ?_) fun δ S p => ?_
  · obtain ⟨δ1, h1, h2⟩ := hs i δ S hi p
    exact ⟨_, δ1, by unfold nrng; rw [if_pos hi], h1, h2⟩
  · unfold nrng
    rw [if_neg (by omega)]
theorem for_loc {put : XP} {body : XS} {l : Nat} {ws : List Va} {δ : Env} {S : Sto} (P : Nat → Env → Sto → Prop) (h0 : P 0 δ S) (hl : ∀ i δ S, P i δ S → getL S l = some ws) (hs : ∀ i w δ S, ws[i]? = some w → P i δ S → ∃ δ1, put w δ = some δ1 ∧ ∃ δ2 S2, (body δ1 S = .nx δ2 S2 ∨ body δ1 S = .ct δ2 S2) ∧ P (i + 1) δ2 S2) :
    ∃ δ' S', forG (nloc l) put body (ws.length + 1) 0 δ S = .nx δ' S' ∧ P ws.length δ' S' := by
  refine forG_inv P ws.length 0 δ S (by omega) h0 (fun i δ S hi p => ?_) fun δ S p => ?_
  · obtain ⟨δ1, h1, h2⟩ := hs i ws[i] δ S (List.getElem?_eq_getElem hi) p
    exact ⟨_, δ1, by unfold nloc; rw [hl i δ S p, Option.map_some, List.getElem?_eq_getElem hi], h1, h2⟩
  · unfold nloc
    rw [hl _ δ S p, Option.map_some, List.getElem?_eq_none (Nat.le_refl _)]
theorem compG_inv {nth : Nth} {put : XP} {cond : XT} {elt : XE} {D : Nat} {δ : Env} {n : Nat} (P : Nat → List Va → Sto → Prop) : ∀ (m i : Nat) (acc : List Va) (S : Sto), i + m = n → S[D]? = some (.lst acc) → P i acc S →
    (∀ i acc S, i < n → S[D]? = some (.lst acc) → P i acc S → ∃ w δ1 b S1, nth S i = some (some w) ∧ put w δ = some δ1 ∧ cond δ1 S = .ok b S1 ∧ if b = true then ∃ y S2, elt δ1 S1 = .ok y S2 ∧ S2[D]? = some (.lst acc) ∧ acc.length < sizeLine ∧ P (i + 1) (acc ++ [y]) (S2.set D (.lst (acc ++ [y]))) else S1[D]? = some (.lst acc) ∧ P (i + 1) acc S1) →
    (∀ acc S, P n acc S → nth S n = some none) → ∃ acc' S', compG nth put cond elt D δ (m + 1) i S = .ok (.loc D) S' ∧ S'[D]? = some (.lst acc') ∧ P n acc' S'
  | 0, i, acc, S, e, hD, p, hs, hd => by
    have e' : i = n := by omega
    subst e'
    refine ⟨acc, S, ?_, hD, p⟩
    unfold compG
    rw [hd acc S p]
  | m + 1, i, acc, S, e, hD, p, hs, hd => by
    obtain ⟨w, δ1, b, S1, h1, h2, h3, h4⟩ := hs i acc S (by omega) hD p
    cases b with
    | false =>
      have h4' : S1[D]? = some (.lst acc) ∧ P (i + 1) acc S1 := by simpa using h4
      obtain ⟨acc', S', h5, h6, h7⟩ := compG_inv (nth := nth) (put := put) (cond := cond) (elt := elt) (D := D) (δ := δ) P m (i + 1) acc S1 (by omega) h4'.1 h4'.2 hs hd
      refine ⟨acc', S', ?_, h6, h7⟩
      unfold compG
      rw [h1]
      dsimp only
      rw [h2]
      dsimp only
      rw [h3]
      exact h5
    | true =>
      have h4' : ∃ y S2, elt δ1 S1 = .ok y S2 ∧ S2[D]? = some (.lst acc) ∧ acc.length < sizeLine ∧ P (i + 1) (acc ++ [y]) (S2.set D (.lst (acc ++ [y]))) := by simpa using h4
      obtain ⟨y, S2, k1, k2, k3, k4⟩ := h4'
      have hlt := (List.getElem?_eq_some_iff.mp k2).1
      obtain ⟨acc', S', h5, h6, h7⟩ := compG_inv (nth := nth) (put := put) (cond := cond) (elt := elt) (D := D) (δ := δ) P m (i + 1) (acc ++ [y]) (S2.set D (.lst (acc ++ [y]))) (by omega) (List.getElem?_set_self hlt) k4 hs hd
      refine ⟨acc', S', ?_, h6, h7⟩
      unfold compG
      rw [h1]
      dsimp only
      rw [h2]
      dsimp only
      rw [h3]
      dsimp only
      rw [k1]
      dsimp only
      rw [k2]
      dsimp only
      rw [fits_iff.mpr k3]
      exact h5
theorem compG_pure {nth : Nth} {put : XP} {cond : XT} {elt : XE} {δ : Env} {ws : List Va} (f : Va → Option Va) (S : Sto) (hz : ws.length ≤ 16777216) (hn : ∀ S' i, Keep S S' → nth S' i = some ws[i]?)
    (hs : ∀ w, w ∈ ws → ∃ δ1, put w δ = some δ1 ∧ ∀ S', Keep S S' → (∃ y, f w = some y ∧ cond δ1 S' = .ok true S' ∧ elt δ1 S' = .ok y S') ∨ (f w = none ∧ cond δ1 S' = .ok false S')) :
    compG nth put cond elt S.length δ (ws.length + 1) 0 (S ++ [.lst []]) = .ok (.loc S.length) (S ++ [.lst (ws.filterMap f)]) := by
  obtain ⟨acc, S', h1, h2, h3, h4⟩ := compG_inv (nth := nth) (put := put) (cond := cond) (elt := elt) (D := S.length) (δ := δ) (n := ws.length) (fun i acc S' => acc = (ws.take i).filterMap f ∧ S' = S ++ [.lst acc]) ws.length 0 [] (S ++ [.lst []]) (by omega) (get_new _ _ _) ⟨rfl, rfl⟩ (fun i acc S1 hi hD ⟨ea, eS⟩ => by
    subst eS
    have kp : Keep S (S ++ [.lst acc]) := Keep.app _ _
    obtain ⟨δ1, k1, k2⟩ := hs ws[i] (List.getElem_mem hi)
    have hw : ws[i]? = some ws[i] := List.getElem?_eq_getElem hi
    have tk : ws.take (i + 1) = ws.take i ++ [ws[i]] := by rw [List.take_succ, hw]; rfl
    rcases k2 _ kp with ⟨y, q1, q2, q3⟩ | ⟨q1, q2⟩
    · refine ⟨ws[i], δ1, true, _, by rw [hn _ _ kp, hw], k1, q2, ?_⟩
      rw [if_pos rfl]
      refine ⟨y, _, q3, hD, ?_, ?_, ?_⟩
      · have : acc.length ≤ (ws.take i).length := by rw [ea]; exact List.length_filterMap_le _ _
        rw [List.length_take] at this
        have hs' : sizeLine = 16777216 := sizeLine_eq
        omega
      · rw [tk, List.filterMap_append, ← ea, List.filterMap_cons, q1]
        rfl
      · simp
    · refine ⟨ws[i], δ1, false, _, by rw [hn _ _ kp, hw], k1, q2, ?_⟩
      rw [if_neg (by decide)]
      refine ⟨hD, ?_, rfl⟩
      rw [tk, List.filterMap_append, ← ea, List.filterMap_cons, q1]
      simp) (fun acc S' ⟨_, e⟩ => by rw [hn _ _ (by rw [e]; exact Keep.app _ _), List.getElem?_eq_none (Nat.le_refl _)])
  rw [h1, h4, h3, List.take_length]
theorem xcomp_at {vs : List Nat} {xi : XI} {put : XP} {cond : XT} {elt : XE} {δ : Env} {S S1 : Sto} {n : Nat} {nth : Nth} (h : xi δ S = .ok (n, nth) S1) : xcomp vs xi put cond elt δ S = compG nth put cond elt S1.length (wipeE δ vs) n 0 (S1 ++ [.lst []]) := by
  unfold xcomp
  rw [h]
  rfl
theorem irg1_at {x : XE} {δ : Env} {S S1 : Sto} {j : Int} {n : Nat} (h : x δ S = .ok (.int j) S1) (hb : big j = true) (hn : j.toNat = n) : irg1 x δ S = .ok (n + 1, nrng 0 n) S1 := by
  unfold irg1
  rw [h, bind_ok]
  dsimp only
  rw [hb, hn]
  rfl
theorem sfor_at {x : XI} {put : XP} {body : XS} {δ : Env} {S S1 : Sto} {n : Nat} {nth : Nth} (h : x δ S = .ok (n, nth) S1) : sfor x put body δ S = forG nth put body n 0 δ S1 := by
  unfold sfor
  rw [h]
  rfl
theorem llst_eq {ws : List Va} (S : Sto) (h : ws.length ≤ 16777216) : llst ws S = .ok (.loc S.length) (S ++ [.lst ws]) := by
  unfold llst
  rw [fits_of h]
  rfl
theorem ltup_eq {ws : List Va} (S : Sto) (h : ws.length ≤ 16777216) : ltup ws S = .ok (.tup ws) S := by
  unfold ltup
  rw [fits_of h]
  rfl
theorem oApp_eq {S : Sto} {l : Nat} {xs : List Va} {y : Va} (h : S[l]? = some (.lst xs)) (hz : xs.length < 16777216) : oApp (.loc l) [y] S = .ok .non (S.set l (.lst (xs ++ [y]))) := by
  unfold oApp
  dsimp only
  rw [h]
  dsimp only
  rw [fits_of (Nat.succ_le_of_lt hz)]
  rfl
theorem isL_of {S : Sto} {l : Nat} {xs : List Va} (h : S[l]? = some (.lst xs)) : isL (.loc l) S = true := by
  unfold isL getL
  dsimp only
  rw [h]
  rfl
theorem oMul_r {i j : Int} (S : Sto) (h1 : -(2 ^ 64) < j) (h2 : j < 2 ^ 64) : oMul (.int i) (.int j) S = .ok (.int (i * j)) S := by
  have e : mulOk i j = true := by
    unfold mulOk
    rw [Bool.or_eq_true, Bool.and_eq_true, Bool.and_eq_true]
    exact .inr ⟨decide_eq_true h1, decide_eq_true h2⟩
  show cond (mulOk i j) _ _ = _
  rw [e]
  rfl
theorem oMul_l {i j : Int} (S : Sto) (h1 : -(2 ^ 64) < i) (h2 : i < 2 ^ 64) : oMul (.int i) (.int j) S = .ok (.int (i * j)) S := by
  have e : mulOk i j = true := by
    unfold mulOk
    rw [Bool.or_eq_true, Bool.and_eq_true, Bool.and_eq_true]
    exact .inl ⟨decide_eq_true h1, decide_eq_true h2⟩
  show cond (mulOk i j) _ _ = _
  rw [e]
  rfl
end Rz
namespace Rz
open PySem L2
mutual
def szD : PyData → Nat
  | .none => 4
  | .bool _ => 5
  | .int _ => 250
  | .str x => 10 * x.length + 2
  | .list xs => szL xs + 3
  | .tuple xs => szL xs + 3
  | .dict _ => 0
def szL : List PyData → Nat
  | [] => 0
  | x :: xs => szD x + 2 + szL xs
end
mutual
def okD : PyData → Bool
  | .none => true
  | .bool _ => true
  | .int i => decide (i.natAbs.log2 < 200)
  | .str x => x.cps.toList.all fun c => decide (c < 16 ^ 8)
  | .list xs => okL xs
  | .tuple xs => okL xs
  | .dict _ => false
def okL : List PyData → Bool
  | [] => true
  | x :: xs => okD x && okL xs
end
theorem textFrom_le : ∀ (ts : List Str) (k : Nat) (acc : Str), (textFrom k acc ts).length ≤ acc.length + piled ts
  | [], k, acc => by show acc.length ≤ acc.length + 0; omega
  | t :: r, k, acc => by
    have ih := textFrom_le r (k + 1) (acc ++ (if k > 0 then ", " else "" : String) ++ t)
    have e : (acc ++ (if k > 0 then ", " else "" : String) ++ t).length ≤ acc.length + 2 + t.length := by
      rw [Str.length_append, Str.length_append]
      have : (Str.ofString (if k > 0 then ", " else "")).length ≤ 2 := by split <;> decide
      have h2 : ((if k > 0 then ", " else "" : String) : Str).length ≤ 2 := this
      omega
    have p : piled (t :: r) = t.length + 2 + piled r := by simp [piled]
    show (textFrom (k + 1) (acc ++ (if k > 0 then ", " else "" : String) ++ t) r).length ≤ _
    omega
theorem listText_le (ts : List Str) : (listText ts).length ≤ piled ts + 2 := by
  unfold listText
  rw [Str.length_append]
  have h := textFrom_le ts 0 "["
  have e1 : (Str.ofString "[").length = 1 := by decide
  have e2 : (Str.ofString "]").length = 1 := by decide
  have e1' : ("[" : Str).length = 1 := e1
  have e2' : ("]" : Str).length = 1 := e2
  omega
theorem tupleText_le (ts : List Str) : (tupleText ts).length ≤ piled ts + 3 := by
  unfold tupleText
  rw [Str.length_append, Str.length_append]
  have e1 : ("(" : Str).length = 1 := by decide
  have e2 : ((if ts.length == 1 then ",)" else ")" : String) : Str).length ≤ 2 := by split <;> decide
  by_cases h : ts = []
  · subst h
    have e3 : (Str.join ", " ([] : List Str)).length = 0 := by decide
    simp only [piled] at *
    omega
  · have := join_length_add ts h
    omega
mutual
theorem shown_le : ∀ d : PyData, okD d = true → d.shown.length ≤ szD d ∧ d.showable = true ∧ d.hasDict = false
  | .none, _ => ⟨by decide, by simp [PyData.showable], by simp [PyData.hasDict]⟩
  | .bool b, _ => ⟨by cases b <;> decide, by simp [PyData.showable], by simp [PyData.hasDict]⟩
  | .int i, h => by
    have h' : i.natAbs.log2 < 200 := by simpa [okD] using h
    refine ⟨?_, by simp [PyData.showable]; omega, by simp [PyData.hasDict]⟩
    have := PySem.int_text_length_le (a := i) (by decide : 0 < 200) h'
    simp only [PyData.shown, szD]
    have e : (Str.ofString (toString i)).length ≤ 201 := by rw [PySem.ofString_length]; exact this
    show (Str.ofString (toString i)).length ≤ 250
    omega
  | .str x, h => by
    have h' : ∀ c ∈ x.cps.toList, c < 16 ^ 8 := fun c hc => by
      have q : (x.cps.toList.all fun c => decide (c < 16 ^ 8)) = true := by simpa only [okD] using h
      exact of_decide_eq_true (List.all_eq_true.mp q c hc)
    refine ⟨?_, by simp [PyData.showable], by simp [PyData.hasDict]⟩
    have := StrLaws.reprText_len x h'
    simp only [PyData.shown, szD]
    omega
  | .list xs, h => by
    have h' : okL xs = true := by simpa [okD] using h
    obtain ⟨h1, h2, h3⟩ := shownL_le xs h'
    refine ⟨?_, by simpa [PyData.showable] using h2, by simpa [PyData.hasDict] using h3⟩
    have := listText_le (PyData.shownAll xs)
    simp only [PyData.shown, szD]
    omega
  | .tuple xs, h => by
    have h' : okL xs = true := by simpa [okD] using h
    obtain ⟨h1, h2, h3⟩ := shownL_le xs h'
    refine ⟨?_, by simpa [PyData.showable] using h2, by simpa [PyData.hasDict] using h3⟩
    have := tupleText_le (PyData.shownAll xs)
    simp only [PyData.shown, szD]
    omega
  | .dict _, h => by simp [okD] at h
theorem shownL_le : ∀ ds : List PyData, okL ds = true → piled (PyData.shownAll ds) ≤ szL ds ∧ PyData.showableAll ds = true ∧ PyData.hasDictAll ds = false
  | [], _ => ⟨by simp [PyData.shownAll, piled, szL], by simp [PyData.showableAll], by simp [PyData.hasDictAll]⟩
  | d :: ds, h => by
    have h' : okD d = true ∧ okL ds = true := by simpa [okL] using h
    obtain ⟨a1, a2, a3⟩ := shown_le d h'.1
    obtain ⟨b1, b2, b3⟩ := shownL_le ds h'.2
    refine ⟨?_, by simp [PyData.showableAll, a2, b2], by simp [PyData.hasDictAll, a3, b3]⟩
    have p : piled (PyData.shownAll (d :: ds)) = d.shown.length + 2 + piled (PyData.shownAll ds) := by simp [PyData.shownAll, piled]
    simp only [szL]
    omega
end
theorem allD_ints (S : Sto) (n : Nat) : ∀ ns : List Int, allD (toD S (n + 1)) (ns.map .int) = some (ns.map .int)
  | [] => rfl
  | i :: r => by
    have ih := allD_ints S n r
    show (match toD S (n + 1) (.int i), allD (toD S (n + 1)) (r.map .int) with | some d, some ds => some (d :: ds) | _, _ => none) = _
    rw [ih]
    rfl
theorem toD_list {S : Sto} {l : Nat} {ws : List Va} {ds : List PyData} {n : Nat} (h : getL S l = some ws) (h2 : allD (toD S n) ws = some ds) : toD S (n + 1) (.loc l) = some (.list ds) := by
  show (match getL S l with | some ws => (allD (toD S n) ws).map PyData.list | none => none) = _
  rw [h]
  dsimp only
  rw [h2]
  rfl
theorem depth_ints : ∀ ns : List Int, PyData.depthAll (ns.map .int) = 0
  | [] => rfl
  | i :: r => by
    have := depth_ints r
    simp [PyData.depthAll, PyData.depth, this]
theorem lay_ints : ∀ ns : List Int, PyData.canLayAll0 (ns.map .int) = true
  | [] => by simp [PyData.canLayAll0]
  | i :: r => by
    have := lay_ints r
    simp [PyData.canLayAll0, PyData.canLay0, this]
theorem log2_small {i : Int} (h : i.natAbs < 2 ^ 64) : i.natAbs.log2 < 200 := by
  by_cases e : i.natAbs = 0
  · rw [e]; decide
  · have := (Nat.log2_lt e (k := 64)).mpr h
    omega
theorem cEq_str (x y : Str) (S : Sto) : cEq (.str x) (.str y) S = .ok (decide (x = y)) S := rfl
theorem cEq_int (x y : Int) (S : Sto) : cEq (.int x) (.int y) S = .ok (decide (x = y)) S := rfl
end Rz
namespace Rz
open PySem PySem.Spec PyProof.Rows L2
abbrev XPt := Env → Sto → Rs (Option Int)
def relO (_ : List Addr) (_ : Hp) (a b : Option Int) : Prop := a = b
def tO (g : G) (Wx : WX) (x : XPt) : TO := fun σ H Q => ∃ δ S ρ, Sim g ρ S H ∧ SimE g ρ H δ σ ∧ wpR g Wx σ relO ρ H (x δ S) Q
abbrev SO (X : Cx) (g : G) (Wx : WX) (e : Option Expr) (x : XPt) : Prop := PO X e (tO g Wx x)
@[simp] def xnop : XPt := fun _ S => .ok none S
@[simp] def xpart (x : XE) : XPt := fun δ S => (x δ S).bind fun w S1 => match w with
  | .int i => .ok (some i) S1
  | _ => .bad
def cutA (xs : List Va) (lo hi : Option Int) : List Va := (xs.drop (HT.sIx xs.length 0 lo)).take (HT.sIx xs.length xs.length hi - HT.sIx xs.length 0 lo)
def oCut (w : Va) (lo hi : Option Int) (S : Sto) : Rs Va := match w with
  | .loc l => match getL S l with
    | some ws => llst (cutA ws lo hi) S
    | none => .bad
  | _ => .bad
@[simp] def xslice (x : XE) (p q : XPt) : XE := fun δ S => (x δ S).bind fun w S1 => (p δ S1).bind fun lo S2 => (q δ S2).bind fun hi S3 => oCut w lo hi S3
def oPut (u j w : Va) (δ : Env) (S : Sto) : Out := match u, j with
  | .loc l, .int n => match S[l]? with
    | some (.lst xs) => match ixN xs.length n with
      | some m => .nx δ (S.set l (.lst (xs.set m w)))
      | none => .bad
    | _ => .bad
  | _, _ => .bad
@[simp] def ssub (c i a : XE) : XS := fun δ S => (a δ S).out δ fun w S1 => (c δ S1).out δ fun u S2 => (i δ S2).out δ fun j S3 => oPut u j w δ S3
section
variable {X : Cx} {g : G} {Wx : WX} {k : Nat} {pos : Pos} {a b c e : Expr} {x y z : XE} {ρ : List Addr} {H : Hp}
end
end Rz
namespace Rz
open PySem PySem.Spec PyProof.Rows L2
def compH (nth : Nth) (put : XP) (cond : XT) (elt : XE) (D : Nat) (δ : Env) (kont : Sto → Rs Va) : Nat → Nat → Sto → Rs Va
  | 0, _, _ => .bad
  | n + 1, i, S => match nth S i with
    | none => .bad
    | some none => kont S
    | some (some w) => match put w δ with
      | none => .bad
      | some δ1 => match cond δ1 S with
        | .ok false S1 => compH nth put cond elt D δ kont n (i + 1) S1
        | .ok true S1 => match elt δ1 S1 with
          | .ok y S2 => match S2[D]? with
            | some (.lst acc) => bif fits (acc.length + 1) then compH nth put cond elt D δ kont n (i + 1) (S2.set D (.lst (acc ++ [y]))) else .bad
            | _ => .bad
          | _ => .bad
        | _ => .bad
def comp2G (nth : Nth) (put : XP) (cond : XT) (xi1 : XI) (put1 : XP) (cond1 : XT) (elt : XE) (vs1 : List Nat) (D : Nat) (δ : Env) : Nat → Nat → Sto → Rs Va
  | 0, _, _ => .bad
  | n + 1, i, S => match nth S i with
    | none => .bad
    | some none => .ok (.loc D) S
    | some (some w) => match put w δ with
      | none => .bad
      | some δ1 => match cond δ1 S with
        | .ok false S1 => comp2G nth put cond xi1 put1 cond1 elt vs1 D δ n (i + 1) S1
        | .ok true S1 => match xi1 δ1 S1 with
          | .ok a S2 => compH a.2 put1 cond1 elt D (wipeE δ1 vs1) (fun S3 => comp2G nth put cond xi1 put1 cond1 elt vs1 D δ n (i + 1) S3) a.1 0 S2
          | _ => .bad
        | _ => .bad
@[simp] def xcomp2 (vs vs1 : List Nat) (x : XI) (put : XP) (cond : XT) (xi1 : XI) (put1 : XP) (cond1 : XT) (elt : XE) : XE := fun δ S => (x δ S).bind fun a S1 => comp2G a.2 put cond xi1 put1 cond1 elt vs1 S1.length (wipeE δ vs) a.1 0 (S1 ++ [.lst []])
section
variable {X : Cx} {g : G} {Wx : WX} {k : Nat} {pos : Pos} {a b c : Expr} {es : List Expr} {x y z : XE} {r : XA}
end
end Rz
namespace Rz
open PySem PySem.Spec PyProof.Rows L2
def bools : List Va → Option (List Bool)
  | [] => some []
  | .bl b :: us => match bools us with
    | some bs => some (b :: bs)
    | none => none
  | _ => none
@[simp] def fAll (ws : List Va) (S : Sto) : Rs Va := match ws with
  | [.loc l] => match getL S l with
    | some us => match bools us with
      | some bs => .ok (.bl (bs.all id)) S
      | none => .bad
    | none => .bad
  | _ => .bad
@[simp] def fAny (ws : List Va) (S : Sto) : Rs Va := match ws with
  | [.loc l] => match getL S l with
    | some us => match bools us with
      | some bs => .ok (.bl (bs.any id)) S
      | none => .bad
    | none => .bad
  | _ => .bad
theorem bools_map (bs : List Bool) : bools (bs.map .bl) = some bs := by
  induction bs with
  | nil => rfl
  | cons b bs ih =>
    show (match bools (bs.map .bl) with | some bs => some (b :: bs) | none => none) = _
    rw [ih]
section
variable {X : Cx} {g : G} {Wx : WX} {k : Nat} {pos : Pos} {a b c : Expr} {es : List Expr} {x y z : XE} {r : XA}
def rQuant (K : PySem.W.Frag) (f : List Bool → Bool) : List V → Hp → VK → Prop := fun xs H Q => ∃ p bs, xs = [.ref p] ∧ SqL K H p (bs.map V.bl) ∧ Q (.bl (f bs)) H
end
end Rz
namespace Rz
open PySem PySem.Spec PyProof.Rows L2
section
variable {δ δ1 : Env} {S S1 S2 S3 : Sto} {x y z : XE} {as : XA} {p q : XT} {s t : XS} {a b v w : Va} {ws us : List Va} {o : Out} {i l n m : Nat}
theorem var_at (h : δ[i]? = some (some v)) : xvar i δ S = .ok v S := by
  unfold xvar
  rw [h]
theorem lit_at : xlit v δ S = .ok v S := rfl
theorem bin_at {f : Va → Va → Sto → Rs Va} {r : Rs Va} (h : x δ S = .ok a S1) (h2 : y δ S1 = .ok b S2) (h3 : f a b S2 = r) : xbin f x y δ S = r := by
  unfold xbin
  rw [h, bind_ok, h2, bind_ok]
  exact h3
theorem cmp_at {f : Va → Va → Sto → Rs Bool} {r : Rs Bool} (h : x δ S = .ok a S1) (h2 : y δ S1 = .ok b S2) (h3 : f a b S2 = r) : xbinB f x y δ S = r := by
  unfold xbinB
  rw [h, bind_ok, h2, bind_ok]
  exact h3
theorem nil_at : anil δ S = .ok [] S := rfl
theorem cons_at (h : x δ S = .ok v S1) (h2 : as δ S1 = .ok us S2) : acons x as δ S = .ok (v :: us) S2 := by
  unfold acons
  rw [h, bind_ok, h2, bind_ok]
theorem one_at (h : x δ S = .ok v S1) : acons x anil δ S = .ok [v] S1 := cons_at h rfl
theorem call_at {f : List Va → Sto → Rs Va} {r : Rs Va} (h : as δ S = .ok us S1) (h2 : f us S1 = r) : xcall f as δ S = r := by
  unfold xcall
  rw [h, bind_ok]
  exact h2
theorem fn_at {f : List Va → Sto → Rs Va} {r : Rs Va} (h : as δ S = .ok us S1) (hn : us.length = n) (h2 : f us S1 = r) : ycall n f as δ S = r := by
  unfold ycall
  rw [h, bind_ok, if_pos hn]
  exact h2
theorem boo_at {b : Bool} (h : p δ S = .ok b S1) : xboo p δ S = .ok (.bl b) S1 := by
  unfold xboo
  rw [h, bind_ok]
theorem and_t {r : Rs Bool} (h : p δ S = .ok true S1) (h2 : q δ S1 = r) : xand p q δ S = r := by
  unfold xand
  rw [h, bind_ok]
  exact h2
theorem and_f (h : p δ S = .ok false S1) : xand p q δ S = .ok false S1 := by
  unfold xand
  rw [h, bind_ok]
  rfl
theorem or_f {r : Rs Bool} (h : p δ S = .ok false S1) (h2 : q δ S1 = r) : xor p q δ S = r := by
  unfold xor
  rw [h, bind_ok]
  exact h2
theorem not_at {b : Bool} (h : p δ S = .ok b S1) : xnot p δ S = .ok (!b) S1 := by
  unfold xnot
  rw [h, bind_ok]
theorem tru_bl {b : Bool} (h : x δ S = .ok (.bl b) S1) : xtru x δ S = .ok b S1 := by
  unfold xtru
  rw [h, bind_ok]
  rfl
theorem set_at (h : x δ S = .ok v S1) : sset i x δ S = .nx (δ.set i (some v)) S1 := by
  unfold sset
  rw [h]
  rfl
theorem exp_at (h : x δ S = .ok v S1) : sexp x δ S = .nx δ S1 := by
  unfold sexp
  rw [h]
  rfl
theorem ret_at (h : x δ S = .ok v S1) : sret x δ S = .rt v S1 := by
  unfold sret
  rw [h]
  rfl
theorem seq_at (h : s δ S = .nx δ1 S1) (h2 : t δ1 S1 = o) : sseq s t δ S = o := by
  unfold sseq
  rw [h]
  exact h2
theorem seq_rt (h : s δ S = .rt v S1) : sseq s t δ S = .rt v S1 := by
  unfold sseq
  rw [h]
  rfl
theorem if_t (h : p δ S = .ok true S1) (h2 : s δ S1 = o) : sif p s t δ S = o := by
  unfold sif
  rw [h]
  exact h2
theorem if_f (h : p δ S = .ok false S1) (h2 : t δ S1 = o) : sif p s t δ S = o := by
  unfold sif
  rw [h]
  exact h2
theorem ix_at {j : Int} (h : getL S l = some ws) (h2 : atI ws j = some w) : oIx (.loc l) (.int j) S = .ok w S := by
  unfold oIx
  dsimp only
  rw [h]
  dsimp only
  rw [h2]
theorem ixT_at {j : Int} (h2 : atI ws j = some w) : oIx (.tup ws) (.int j) S = .ok w S := by
  unfold oIx
  dsimp only
  rw [h2]
theorem put_at {j : Int} (h : S[l]? = some (.lst ws)) (h2 : ixN ws.length j = some m) : oPut (.loc l) (.int j) w δ S = .nx δ (S.set l (.lst (ws.set m w))) := by
  unfold oPut
  dsimp only
  rw [h]
  dsimp only
  rw [h2]
theorem sub_at (h : z δ S = .ok w S1) (h1 : x δ S1 = .ok a S2) (h2 : y δ S2 = .ok b S3) (h3 : oPut a b w δ S3 = o) : ssub x y z δ S = o := by
  unfold ssub
  rw [h]
  show ((x δ S1).out δ fun u S2 => (y δ S2).out δ fun j S3 => oPut u j w δ S3) = o
  rw [h1]
  show ((y δ S2).out δ fun j S3 => oPut a j w δ S3) = o
  rw [h2]
  exact h3
theorem lst_at (h : as δ S = .ok us S1) (hz : us.length ≤ 16777216) : xlst as δ S = .ok (.loc S1.length) (S1 ++ [.lst us]) := by
  unfold xlst
  rw [h, bind_ok, llst_eq S1 hz]
theorem tup_at (h : as δ S = .ok us S1) (hz : us.length ≤ 16777216) : xtup as δ S = .ok (.tup us) S1 := by
  unfold xtup
  rw [h, bind_ok, ltup_eq S1 hz]
theorem getL_lst (h : S[l]? = some (.lst ws)) : getL S l = some ws := by
  unfold getL
  rw [h]
theorem mod_at {i j : Int} (h : 0 < j) : oMod (.int i) (.int j) S = .ok (.int (i % j)) S := by
  unfold oMod
  dsimp only
  rw [if_pos h]
theorem div_at {i j : Int} (h : 0 < j) (h2 : j < 1073741824) : oDiv (.int i) (.int j) S = .ok (.int (i / j)) S := by
  unfold oDiv
  dsimp only
  rw [if_pos ⟨h, h2⟩]
theorem add_at {i j : Int} : oAdd (.int i) (.int j) S = .ok (.int (i + j)) S := rfl
theorem len_at (h : getL S l = some ws) : fLen [.loc l] S = .ok (.int ws.length) S := by
  unfold fLen
  dsimp only
  unfold itm
  dsimp only
  rw [h]
theorem lenT_at : fLen [.tup ws] S = .ok (.int ws.length) S := rfl
def KeepB (d : Nat) (S S' : Sto) : Prop := ∀ (j : Nat) (o : Ob), j ≠ d → S[j]? = some o → S'[j]? = some o
theorem KeepB.refl (d : Nat) (S : Sto) : KeepB d S S := fun _ _ _ h => h
theorem KeepB.trans {d : Nat} (h : KeepB d S S1) (h2 : KeepB d S1 S2) : KeepB d S S2 := fun j o n e => h2 j o n (h j o n e)
theorem Keep.but {d : Nat} (h : Keep S S1) : KeepB d S S1 := fun j o _ e => h j o e
theorem KeepB.set (d : Nat) (S : Sto) (u : Ob) : KeepB d S (S.set d u) := fun j o n e => by
  rw [List.getElem?_set_ne (Ne.symm n)]
  exact e
theorem eqv_ints (xs ys : List Int) : xs = ys → PyData.eqvAll (xs.map .int) (ys.map .int) = true := by
  rintro rfl
  induction xs with
  | nil => simp [PyData.eqvAll]
  | cons a r ih => simp [PyData.eqvAll, PyData.eqv, ih]
theorem shaped_ints (ns : List Int) : SeqAt.shaped (.list (ns.map .int)) = true := by
  unfold SeqAt.shaped
  rw [Bool.and_eq_true]
  refine ⟨by simp only [PyData.canLay0]; exact lay_ints ns, decide_eq_true ?_⟩
  simp only [PyData.depth]
  rw [depth_ints]
  omega
theorem cEq_some {ns ms : List Int} (h : getL S l = some (ns.map .int)) (h' : getL S m = some (ms.map .int)) : ∃ b, cEq (.loc l) (.loc m) S = .ok b S ∧ (ns = ms → b = true) := by
  refine ⟨PyData.eqv (.list (ns.map .int)) (.list (ms.map .int)), ?_, fun e => by simp only [PyData.eqv]; exact eqv_ints ns ms e⟩
  unfold cEq
  show deepE (.loc l) (.loc m) S = _
  unfold deepE
  rw [toD_list h (allD_ints S 62 ns), toD_list h' (allD_ints S 62 ms)]
  dsimp only
  rw [shaped_ints, shaped_ints]
  rfl
theorem atI_ints {ns : List Int} {j : Int} (h : 0 ≤ j) (h2 : j < ns.length) : ∃ c, atI (ns.map Va.int) j = some (.int c) := by
  obtain ⟨k, rfl⟩ := Int.eq_ofNat_of_zero_le h
  have hk : k < ns.length := by omega
  exact ⟨ns[k], atI_nat (by simp [hk])⟩
end
end Rz
namespace Rz
open PySem PySem.Spec PyProof.Rows L2
abbrev tps (rs : List (List Int)) : List Va := rs.map fun r => .tup (r.map .int)
abbrev tpd (rs : List (List Int)) : List PyData := rs.map fun r => .tuple (r.map .int)
theorem allD_tps (S : Sto) (n : Nat) : ∀ rs : List (List Int), allD (toD S (n + 2)) (tps rs) = some (tpd rs)
  | [] => rfl
  | r :: rs => by
    have ih := allD_tps S n rs
    show (match (allD (toD S (n + 1)) (r.map .int)).map PyData.tuple, allD (toD S (n + 2)) (tps rs) with | some d, some ds => some (d :: ds) | _, _ => none) = _
    rw [ih, allD_ints S n r]
    rfl
theorem depth_tps : ∀ rs : List (List Int), PyData.depthAll (tpd rs) ≤ 1
  | [] => by simp [PyData.depthAll]
  | r :: rs => by
    have ih := depth_tps rs
    have h := depth_ints r
    show PyData.depthAll (.tuple (r.map .int) :: tpd rs) ≤ 1
    generalize tpd rs = q at *
    simp only [PyData.depthAll, PyData.depth, h]
    omega
end Rz
namespace Rz.Sx
open PySem PySem.Spec PyProof.Rows L2 PySem.W
section
variable {X : Cx} {k : Nat}
theorem map_perm_ex {α γ : Type} (g : α → γ) : ∀ (l : List γ) (cs : List α), l.Perm (cs.map g) → ∃ ds : List α, ds.Perm cs ∧ l = ds.map g := by
  intro l cs p
  generalize e : cs.map g = m at p
  induction p generalizing cs with
  | nil =>
    obtain rfl : cs = [] := by simpa using e
    exact ⟨[], .nil, rfl⟩
  | @cons x l m p ih =>
    cases cs with
    | nil => cases e
    | cons c cs =>
      simp only [List.map_cons, List.cons.injEq] at e
      obtain ⟨ds, q, rfl⟩ := ih cs e.2
      exact ⟨c :: ds, q.cons c, by rw [List.map_cons, e.1]⟩
  | @swap x y l =>
    match cs, e with
    | c :: c' :: cs, e =>
      simp only [List.map_cons, List.cons.injEq] at e
      exact ⟨c' :: c :: cs, .swap _ _ _, by rw [List.map_cons, List.map_cons, e.1, e.2.1, e.2.2]⟩
  | @trans l m n p q ih1 ih2 =>
    obtain ⟨ds, q1, e1⟩ := ih2 cs e
    obtain ⟨ds', q2, e2⟩ := ih1 ds e1.symm
    exact ⟨ds', q2.trans q1, e2⟩
def rSrtSet (K : PySem.W.Frag) (P : Program) (w : World) : List V → Hp → VK → Prop := fun xs H Q => ∃ (β : Type) (a : Addr) (cs : List β) (f : β → Addr) (d : β → PyData), xs = [.ref a] ∧ H a = some (SetN P w a (cs.map fun b => (f b, nk (d b)))) ∧ KList K H cs f d ∧ AllAlike (cs.map d) ∧ Sortable (cs.map d) ∧
  ∀ (p : Addr) (es : List β), H p = none → es.Perm cs → Q (.ref p) (upd H p (.lst ((es.mergeSort (dle d)).map fun b => V.ref (f b))))
end
end Rz.Sx
namespace Rz
open PySem PySem.Spec PyProof.Rows L2 PySem.W
mutual
def dat : Va → PyData
  | .non => .none
  | .bl b => .bool b
  | .int i => .int i
  | .str x => .str x
  | .tup ws => .tuple (dats ws)
  | .ty _ => .none
  | .loc _ => .none
  | .cl _ => .none
def dats : List Va → List PyData
  | [] => []
  | w :: ws => dat w :: dats ws
end
mutual
def pur : Va → Bool
  | .tup ws => purs ws
  | .ty _ => false
  | .loc _ => false
  | .cl _ => false
  | _ => true
def purs : List Va → Bool
  | [] => true
  | w :: ws => pur w && purs ws
end
theorem dats_map : ∀ ws : List Va, dats ws = ws.map dat
  | [] => rfl
  | w :: ws => by rw [dats, dats_map ws]; rfl
theorem purs_mem : ∀ {ws : List Va}, purs ws = true → ∀ w ∈ ws, pur w = true
  | w :: ws, h, v, m => by
    simp only [purs, Bool.and_eq_true] at h
    rcases List.mem_cons.mp m with z | z
    · rw [z]; exact h.1
    · exact purs_mem h.2 v z
mutual
theorem dat_ok {g : G} {ρ : List Addr} {H : Hp} : ∀ (w : Va) (v : V), pur w = true → Rel g ρ H w v → Dp g.K H v (dat w)
  | .non, _, _, r => by cases r; exact .non
  | .bl b, _, _, r => by cases r; exact .bl b
  | .int b, _, _, r => by cases r; exact .int b
  | .str b, _, _, r => by cases r; exact .str b
  | .tup ws, _, h, r => by
    cases r with
    | tup s rl => exact .tup s (dats_ok ws _ (by simpa [pur] using h) rl)
  | .ty _, _, h, _ => by cases h
  | .loc _, _, h, _ => by cases h
  | .cl _, _, h, _ => by cases h
theorem dats_ok {g : G} {ρ : List Addr} {H : Hp} : ∀ (ws : List Va) (vs : List V), purs ws = true → RelL g ρ H ws vs → DpAll g.K H vs (dats ws)
  | [], _, _, r => by cases r; exact .nil
  | w :: ws, _, h, r => by
    simp only [purs, Bool.and_eq_true] at h
    cases r with
    | cons a b => exact .cons (dat_ok w _ h.1 a) (dats_ok ws _ h.2 b)
end
mutual
theorem dat_inj : ∀ (a b : Va), pur a = true → pur b = true → dat a = dat b → a = b
  | .non, b, _, hb, e => by cases b <;> first | rfl | (cases e; done) | (cases hb; done)
  | .bl x, b, _, hb, e => by cases b <;> first | (cases e; rfl; done) | (cases e; done)
  | .int x, b, _, hb, e => by cases b <;> first | (cases e; rfl; done) | (cases e; done)
  | .str x, b, _, hb, e => by cases b <;> first | (cases e; rfl; done) | (cases e; done)
  | .tup ws, b, ha, hb, e => by
    cases b with
    | tup us =>
      simp only [dat, PyData.tuple.injEq] at e
      rw [dats_inj ws us (by simpa [pur] using ha) (by simpa [pur] using hb) e]
    | _ => first | (cases e; done) | (cases hb; done)
  | .ty _, _, h, _, _ => by cases h
  | .loc _, _, h, _, _ => by cases h
  | .cl _, _, h, _, _ => by cases h
theorem dats_inj : ∀ (a b : List Va), purs a = true → purs b = true → dats a = dats b → a = b
  | [], [], _, _, _ => rfl
  | [], _ :: _, _, _, e => by cases e
  | _ :: _, [], _, _, e => by cases e
  | x :: xs, y :: ys, ha, hb, e => by
    simp only [purs, Bool.and_eq_true] at ha hb
    simp only [dats, List.cons.injEq] at e
    rw [dat_inj x y ha.1 hb.1 e.1, dats_inj xs ys ha.2 hb.2 e.2]
end
mutual
theorem eqv_same : ∀ a b : PyData, alike a b = true → PyData.eqv a b = true → a = b
  | .none, b, h, e => by cases b <;> simp_all [alike]
  | .bool x, b, h, e => by cases b <;> simp_all [alike, PyData.eqv]
  | .int x, b, h, e => by cases b <;> simp_all [alike, PyData.eqv]
  | .str x, b, h, e => by cases b <;> simp_all [alike, PyData.eqv]
  | .list xs, b, h, e => by
    cases b with
    | list ys => rw [eqvs_same xs ys (by simpa [alike] using h) (by simpa [PyData.eqv] using e)]
    | _ => simp [alike] at h
  | .tuple xs, b, h, e => by
    cases b with
    | tuple ys => rw [eqvs_same xs ys (by simpa [alike] using h) (by simpa [PyData.eqv] using e)]
    | _ => simp [alike] at h
  | .dict _, b, h, _ => by cases b <;> simp [alike] at h
theorem eqvs_same : ∀ a b : List PyData, alikeAll a b = true → PyData.eqvAll a b = true → a = b
  | [], [], _, _ => rfl
  | [], _ :: _, _, e => by simp [PyData.eqvAll] at e
  | _ :: _, [], _, e => by simp [PyData.eqvAll] at e
  | x :: xs, y :: ys, h, e => by
    obtain ⟨h1, h2⟩ := alike_all_cons h
    rw [eqv_all_cons, Bool.and_eq_true] at e
    rw [eqv_same x y h1 e.1, eqvs_same xs ys h2 e.2]
end
theorem toks_same {a b : PyData} (h : alike a b = true) (e : keyToks a = keyToks b) : a = b := by
  obtain ⟨_, h2⟩ := toks_eqv a b h
  refine eqv_same a b h ?_
  cases q : PyData.eqv a b with
  | true => rfl
  | false =>
    have z := h2 q [] [.inl 0]
    rw [e, lex_irrefl, lex_pre] at z
    rw [show lexLt itemOrd ([] : List (Int ⊕ List Nat)) [.inl 0] = true from rfl] at z
    cases z
mutual
theorem nk_same : ∀ a b : PyData, Sx.numD a = true → Sx.numD b = true → alike a b = true → Sx.nk a = Sx.nk b → a = b
  | .none, b, _, _, h, _ => by cases b <;> simp_all [alike]
  | .bool x, b, _, _, h, e => by
    cases b with
    | bool y => cases x <;> cases y <;> simp_all [Sx.nk]
    | _ => simp [alike] at h
  | .int x, b, _, _, h, e => by cases b <;> simp_all [alike, Sx.nk]
  | .str x, b, n, _, h, e => by simp [Sx.numD] at n
  | .list xs, b, n, _, h, e => by simp [Sx.numD] at n
  | .dict xs, b, n, _, h, e => by simp [Sx.numD] at n
  | .tuple xs, b, n, m, h, e => by
    cases b with
    | tuple ys => rw [nks_same xs ys (by simpa [Sx.numD] using n) (by simpa [Sx.numD] using m) (by simpa [alike] using h) (by simpa [Sx.nk] using e)]
    | _ => simp [alike] at h
theorem nks_same : ∀ a b : List PyData, Sx.numDs a = true → Sx.numDs b = true → alikeAll a b = true → Sx.nks a = Sx.nks b → a = b
  | [], [], _, _, _, _ => rfl
  | [], _ :: _, _, _, _, e => by simp [Sx.nks] at e
  | _ :: _, [], _, _, _, e => by simp [Sx.nks] at e
  | x :: xs, y :: ys, n, m, h, e => by
    obtain ⟨h1, h2⟩ := alike_all_cons h
    simp only [Sx.numDs, Bool.and_eq_true] at n m
    simp only [Sx.nks, List.cons.injEq] at e
    rw [nk_same x y n.1 m.1 h1 e.1, nks_same xs ys n.2 m.2 h2 e.2]
end
def vle (a b : Va) : Bool := Sx.dle dat a b
def vsort (ws : List Va) : List Va := ws.mergeSort vle
def tk (w : Va) : List (Int ⊕ List Nat) := keyToks (dat w)
def nub : List Va → List Va
  | [] => []
  | w :: ws => w :: (nub ws).filter fun u => decide (tk u ≠ tk w)
def alikeV (ws : List Va) : Bool := purs ws && ws.all fun a => ws.all fun b => alike (dat a) (dat b)
def isTp : Va → Bool
  | .tup (_ :: _) => true
  | _ => false
def notTp : Va → Bool
  | .tup _ => false
  | .non => false
  | _ => true
def sortV (ws : List Va) : Bool := alikeV ws && (ws.all isTp || ws.all notTp) && ws.all fun w => decide ((dat w).depth ≤ 100)
def keyV (ws : List Va) : Bool := alikeV ws && ws.all isTp && ws.all (fun w => Sx.numD (dat w) && decide ((dat w).depth ≤ 8)) && decide ((nub ws).length < 64)
theorem alikeV_iff {ws : List Va} : alikeV ws = true ↔ purs ws = true ∧ ∀ a ∈ ws, ∀ b ∈ ws, alike (dat a) (dat b) = true := by
  unfold alikeV
  simp only [Bool.and_eq_true, List.all_eq_true]
theorem tk_inj {ws : List Va} (h : alikeV ws = true) {a b : Va} (ha : a ∈ ws) (hb : b ∈ ws) (e : tk a = tk b) : a = b := by
  obtain ⟨p, q⟩ := alikeV_iff.mp h
  exact dat_inj a b (purs_mem p a ha) (purs_mem p b hb) (toks_same (q a ha b hb) e)
theorem vle_trans (a b c : Va) (h1 : vle a b = true) (h2 : vle b c = true) : vle a c = true := (sortLe_total (listOrd itemOrd) false fun w => keyToks (dat w)).trans a b c h1 h2
theorem vle_total (a b : Va) : (vle a b || vle b a) = true := by
  rw [Bool.or_eq_true]
  exact (sortLe_total (listOrd itemOrd) false fun w => keyToks (dat w)).total a b
theorem vle_anti {a b : Va} (h1 : vle a b = true) (h2 : vle b a = true) : tk a = tk b := by
  have e1 : (!lexLt itemOrd (tk b) (tk a)) = true := h1
  have e2 : (!lexLt itemOrd (tk a) (tk b)) = true := h2
  rw [Bool.not_eq_true'] at e1 e2
  exact lex_total (O := itemOrd) _ _ e2 e1
theorem vsort_perm (ws : List Va) : (vsort ws).Perm ws := List.mergeSort_perm ws vle
theorem vsort_sorted (ws : List Va) : (vsort ws).Pairwise fun a b => vle a b = true := List.pairwise_mergeSort (le := vle) vle_trans vle_total ws
theorem sorted_uniq {l m : List Va} (al : alikeV l = true) (p : l.Perm m) (sl : l.Pairwise fun a b => vle a b = true) (sm : m.Pairwise fun a b => vle a b = true) : l = m := by
  refine p.eq_of_pairwise (le := fun a b => vle a b = true) (fun a b ha hb h1 h2 => ?_) sl sm
  exact tk_inj al ha (p.mem_iff.mpr hb) (vle_anti h1 h2)
theorem alikeV_perm {l m : List Va} (p : l.Perm m) (h : alikeV l = true) : alikeV m = true := by
  obtain ⟨a, b⟩ := alikeV_iff.mp h
  refine alikeV_iff.mpr ⟨?_, fun x hx y hy => b x (p.mem_iff.mpr hx) y (p.mem_iff.mpr hy)⟩
  have : ∀ ws : List Va, (∀ w ∈ ws, pur w = true) → purs ws = true := fun ws => by
    induction ws with
    | nil => intro _; rfl
    | cons w ws ih => intro h; simp only [purs, Bool.and_eq_true]; exact ⟨h w List.mem_cons_self, ih fun u m => h u (List.mem_cons_of_mem _ m)⟩
  exact this m fun w hw => purs_mem a w (p.mem_iff.mpr hw)
theorem vsort_eq {l m : List Va} (al : alikeV l = true) (p : l.Perm m) : vsort l = vsort m :=
  sorted_uniq (alikeV_perm (vsort_perm l).symm al) ((vsort_perm l).trans (p.trans (vsort_perm m).symm)) (vsort_sorted l) (vsort_sorted m)
theorem nub_mem {w : Va} : ∀ {ws : List Va}, w ∈ nub ws → w ∈ ws
  | v :: ws, h => by
    simp only [nub] at h
    rcases List.mem_cons.mp h with z | z
    · rw [z]; exact List.mem_cons_self
    · exact List.mem_cons_of_mem _ (nub_mem (List.mem_filter.mp z).1)
theorem nub_tk {w : Va} : ∀ {ws : List Va}, w ∈ ws → ∃ u ∈ nub ws, tk u = tk w
  | v :: ws, h => by
    simp only [nub]
    rcases List.mem_cons.mp h with z | z
    · exact ⟨v, List.mem_cons_self, by rw [z]⟩
    · obtain ⟨u, hu, e⟩ := nub_tk z
      by_cases c : tk u = tk v
      · exact ⟨v, List.mem_cons_self, c.symm.trans e⟩
      · exact ⟨u, List.mem_cons_of_mem _ (List.mem_filter.mpr ⟨hu, decide_eq_true c⟩), e⟩
theorem nub_nd : ∀ ws : List Va, ((nub ws).map tk).Nodup
  | [] => List.nodup_nil
  | v :: ws => by
    simp only [nub, List.map_cons]
    refine List.nodup_cons.mpr ⟨fun h => ?_, ((nub_nd ws).sublist (List.Sublist.map _ List.filter_sublist))⟩
    obtain ⟨u, hu, e⟩ := List.mem_map.mp h
    have := (List.mem_filter.mp hu).2
    simp [e] at this
theorem nd_of_map {α β : Type} {f : α → β} {l : List α} (h : (l.map f).Nodup) : l.Nodup := List.Pairwise.of_map f (fun _ _ hne e => hne (congrArg f e)) h
theorem nub_perm {ws cs : List Va} (al : alikeV ws = true) (h1 : ∀ c ∈ cs, c ∈ ws) (h2 : cs.Nodup) (h3 : ∀ w ∈ ws, ∃ c ∈ cs, tk c = tk w) : cs.Perm (nub ws) := by
  refine (List.perm_ext_iff_of_nodup h2 (nd_of_map (nub_nd ws))).mpr fun x => ⟨fun hx => ?_, fun hx => ?_⟩
  · obtain ⟨u, hu, e⟩ := nub_tk (h1 x hx)
    rwa [tk_inj al (h1 x hx) (nub_mem hu) e.symm]
  · obtain ⟨c, hc, e⟩ := h3 x (nub_mem hx)
    rwa [← tk_inj al (h1 c hc) (nub_mem hx) e]
end Rz
namespace Rz
open PySem PySem.Spec PyProof.Rows L2 PySem.W
section
variable {g : G} {Wx : WX} {ρ : List Addr} {H : Hp} {σ : L2.St} {S : Sto}
theorem RelL.fst {ws : List Va} {vs : List V} (r : RelL g ρ H ws vs) : (ws.zip vs).map Prod.fst = ws := List.map_fst_zip (Nat.le_of_eq r.length)
theorem RelL.snd {ws : List Va} {vs : List V} (r : RelL g ρ H ws vs) : (ws.zip vs).map Prod.snd = vs := List.map_snd_zip (Nat.le_of_eq r.length.symm)
@[simp] def itL (w : Va) (S : Sto) : Option (List Va) := match w with
  | .loc l => getL S l
  | _ => none
def fSrt (ws : List Va) (S : Sto) : Rs Va := match ws with
  | [w] => match itL w S with
    | some us => bif sortV us then llst (vsort us) S else .bad
    | none => .bad
  | _ => .bad
def adr : V → Addr
  | .ref a => a
  | _ => 0
def fLenSet (ws : List Va) (S : Sto) : Rs Va := match ws with
  | [w] => match itL w S with
    | some us => bif keyV us then .ok (.int (nub us).length) S else .bad
    | none => .bad
  | _ => .bad
def fSrtSet (ws : List Va) (S : Sto) : Rs Va := match ws with
  | [w] => match itL w S with
    | some us => bif keyV us then llst (vsort (nub us)) S else .bad
    | none => .bad
  | _ => .bad
theorem nd_len {α : Type} : ∀ (L M : List α), L.Nodup → (∀ x ∈ L, x ∈ M) → L.length ≤ M.length
  | [], _, _, _ => Nat.zero_le _
  | x :: L, M, nd, h => by
    obtain ⟨s, t, rfl⟩ := List.append_of_mem (h x List.mem_cons_self)
    have nd' := List.nodup_cons.mp nd
    have ih := nd_len L (s ++ t) nd'.2 fun y hy => by
      have := h y (List.mem_cons_of_mem _ hy)
      rw [List.mem_append, List.mem_cons] at this
      rw [List.mem_append]
      rcases this with z | z | z
      · exact .inl z
      · exact absurd (z ▸ hy) nd'.1
      · exact .inr z
    rw [List.length_append] at ih
    rw [List.length_append, List.length_cons, List.length_cons]
    omega
end
section
variable {X : Cx} {g : G} {Wx : WX} {k : Nat} {pos : Pos} {a b c : Expr} {es : List Expr} {x y z : XE} {r : XA}
end
end Rz
namespace Rz
open PySem PySem.Spec PyProof.Rows L2 PySem.W
section
variable {g : G}
@[simp] def fAbs (ws : List Va) (S : Sto) : Rs Va := match ws with
  | [.int i] => .ok (.int (if i < 0 then -i else i)) S
  | _ => .bad
@[simp] def fMin2 (ws : List Va) (S : Sto) : Rs Va := match ws with
  | [.int i, .int j] => .ok (.int (if j < i then j else i)) S
  | _ => .bad
@[simp] def fMax2 (ws : List Va) (S : Sto) : Rs Va := match ws with
  | [.int i, .int j] => .ok (.int (if j > i then j else i)) S
  | _ => .bad
@[simp] def fTup (ws : List Va) (S : Sto) : Rs Va := match ws with
  | [.tup us] => .ok (.tup us) S
  | [.loc l] => match getL S l with
    | some us => ltup us S
    | none => .bad
  | _ => .bad
def oPop (w : Va) (ws : List Va) (S : Sto) : Rs Va := match w, ws with
  | .loc l, [.int i] => match S[l]? with
    | some (.lst xs) => match ixN xs.length i with
      | some k => bif big i then (match xs[k]? with | some y => .ok y (S.set l (.lst (xs.eraseIdx k))) | none => .bad) else .bad
      | none => .bad
    | _ => .bad
  | _, _ => .bad
def oRvs (w : Va) (ws : List Va) (S : Sto) : Rs Va := match w, ws with
  | .loc l, [] => match S[l]? with
    | some (.lst xs) => .ok .non (S.set l (.lst xs.reverse))
    | _ => .bad
  | _, _ => .bad
def oClr (w : Va) (ws : List Va) (S : Sto) : Rs Va := match w, ws with
  | .loc l, [] => match S[l]? with
    | some (.lst _) => .ok .non (S.set l (.lst []))
    | _ => .bad
  | _, _ => .bad
def cIn (a b : Va) (S : Sto) : Rs Bool := match toD S 64 a, toD S 64 b with
  | some d, some (.list ds) => bif SeqAt.shaped d && SeqAt.shaped (.list ds) then .ok (ds.any fun z => PyData.eqv z d) S else .bad
  | _, _ => .bad
def cNin (a b : Va) (S : Sto) : Rs Bool := (cIn a b S).bind fun t S1 => .ok (!t) S1
end
section
variable {X : Cx} {g : G} {Wx : WX} {k : Nat} {pos : Pos} {a b c : Expr} {es : List Expr} {x y z : XE} {r : XA}
@[simp] def xorT (x y : XE) : XE := fun δ S => (x δ S).bind fun w S1 => (truV w S1).bind fun t S2 => if t then .ok w S2 else y δ S2
@[simp] def xmet0 (f : Va → List Va → Sto → Rs Va) (x : XE) : XE := fun δ S => (x δ S).bind fun w S1 => if isL w S1 then f w [] S1 else .bad
end
end Rz
namespace Rz
open PySem PySem.Spec PyProof.Rows L2
structure ClsT (K : PySem.W.Frag) (g : G) (c : Nat) : Prop where
  cl : Cls K (g.cls c)
  nof : ∀ f ∈ g.fld c, NoAttr K (g.cls c) f
  nd : (g.fld c).Nodup
  few : (g.fld c).length < 1000
section
variable {X : Cx} {g : G} {Wx : WX} {k : Nat} {pos : Pos} {a b c : Expr} {es : List Expr} {x y z : XE} {r : XA}
@[simp] def insAt (c : Nat) (w : Va) (S : Sto) : Option (List Va) := match w with
  | .loc l => match S[l]? with
    | some (.ins c' fs) => if c' = c then some fs else none
    | _ => none
  | _ => none
@[simp] def xfld (c i : Nat) (x : XE) : XE := fun δ S => (x δ S).bind fun w S1 => match insAt c w S1 with
  | some fs => match fs[i]? with
    | some v => .ok v S1
    | none => .bad
  | none => .bad
@[simp] def sfld (c i : Nat) (x e : XE) : XS := fun δ S => (e δ S).out δ fun u S1 => (x δ S1).out δ fun w S2 => match w with
  | .loc l => match insAt c w S2 with
    | some fs => if i = fs.length then .nx δ (S2.set l (.ins c (fs ++ [u]))) else if i < fs.length then .nx δ (S2.set l (.ins c (fs.set i u))) else .bad
    | none => .bad
  | _ => .bad
@[simp] def ynew (c n : Nat) (m : List Va → Sto → Rs Va) (r : XA) : XE := fun δ S => (r δ S).bind fun ws S1 => if ws.length + 1 = n then (m (.loc S1.length :: ws) (S1 ++ [.ins c []])).bind fun v S2 => match v with
    | .non => .ok (.loc S1.length) S2
    | _ => .bad else .bad
end
end Rz
namespace Rz.Nx
open PySem PySem.Spec PySem.Calls PyProof.Rows PySem.W
section
variable {prog : Program} {w : World} {M : Model} {A : Around} {E : Value → Shared → Prop} {s : Shared} {K : Frag} {x C f : Addr} {ox : Obj} {od : Option Obj}
def NotBack (Q : Value → Shared → Prop) (v : Value) (s' : Shared) : Prop := ∃ b, v = .bool b ∧ Q (.bool (!b)) s'
open Builtin in
theorem ne_call {b : Value} {Q : Value → Shared → Prop} (hu : A.in1.units < cLine) (X : K.In s.heap) (I : InstAt s.heap x ox C od) (hm : mroIn K C (.type "object") = some true) (he : findIn K (.ref C) "__eq__" = some (some (.ref f))) (hf : isFn K (.ref f) = true)
    (h : wpAny (model prog w) A.in1 (call (.ref f) [.ref x, b]) (NotBack Q) E s) : wpAny (model prog w) A (call (.builtin "object.__ne__") [.ref x, b]) Q E s := by
  refine wpAny_call (codeAny_call_builtin PySem.F.slot_tuple_iterator_ne.plain PySem.F.cmpEntry_ne (check_slot (i := "object.__ne__") (owner := "object") (n := "__ne__") (by decide +kernel) (by decide +kernel) (I.type.andThen (looks_mroIn X hm)) (PySem.F.cmpArgs_ne _ _) ?_))
  unfold Builtin.«object.__ne__»
  refine wpAny_bind (m := slotArgs "__ne__" 1 _) (wpAny_pure ?_)
  dsimp only
  refine wpAny_bind (m := cRoomFor _ _) (wpAny_cRoomFor hu ?_)
  refine wpAny_bind (m := callSpecialIfBound? (.ref x) (Str.ofString "__eq__") _) (ifBound_K X I he hf (wpAny_mono h (fun r s' hq => ?_) fun _ _ y => y))
  obtain ⟨c, rfl, q⟩ := hq
  dsimp only
  refine wpAny_bind (wpAny_truthy_bool ?_)
  exact wpAny_pure q
end
end Rz.Nx
namespace Rz
open PySem PySem.Spec PyProof.Rows L2
section
variable {X : Cx} {g : G} {Wx : WX} {k : Nat} {pos : Pos} {a b c : Expr} {es : List Expr} {x y z : XE} {r : XA}
@[simp] def yprop (c : Nat) (m : List Va → Sto → Rs Va) (x : XE) : XE := fun δ S => (x δ S).bind fun w S1 => match insAt c w S1 with
  | some _ => match m [w] S1 with
    | .ok v S2 => .ok v S2
    | _ => .bad
  | none => .bad
@[simp] def ymeth (c n : Nat) (m : List Va → Sto → Rs Va) (x : XE) (r : XA) : XE := fun δ S => (x δ S).bind fun w S1 => match insAt c w S1 with
  | some _ => (r δ S1).bind fun ws S2 => if ws.length + 1 = n then m (w :: ws) S2 else .bad
  | none => .bad
structure IsC (K : PySem.W.Frag) (g : G) (c : Nat) : Prop where
  ins : C8.InsC K (g.cls c)
  base : ∀ n, n < 7 → PySem.W.kitOne K (.type (tyName n)) (.ref (g.cls c)) = some false
@[simp] def fIsC (c : Nat) (ws : List Va) (S : Sto) : Rs Va := match ws with
  | [w, .cl d] => if d = c then (match insAt c w S with
    | some _ => .ok (.bl true) S
    | none => match kind w S with
      | some _ => .ok (.bl false) S
      | none => .bad) else .bad
  | _ => .bad
structure EqC (K : PySem.W.Frag) (g : G) (c : Nat) (f : Addr) : Prop where
  eq : PySem.W.findIn K (.ref (g.cls c)) "__eq__" = some (some (.ref f))
  ne : PySem.W.findIn K (.ref (g.cls c)) "__ne__" = some (some (.builtin "object.__ne__"))
  fn : PySem.W.isFn K (.ref f) = true
  mro : PySem.W.mroIn K (g.cls c) (.type "object") = some true
  sub : ∀ n, n < 7 → PySem.W.subIn K (.type (tyName n)) (.ref (g.cls c)) = some false
def cEqO (c : Nat) (m : List Va → Sto → Rs Va) (a b : Va) (S : Sto) : Rs Bool := match insAt c a S with
  | some _ => match (insAt c b S).isSome || (kind b S).isSome with
    | true => match m [a, b] S with
      | .ok (.bl t) S1 => .ok t S1
      | _ => .bad
    | false => .bad
  | none => .bad
def cNeO (c : Nat) (m : List Va → Sto → Rs Va) (a b : Va) (S : Sto) : Rs Bool := match cEqO c m a b S with
  | .ok t S1 => .ok (!t) S1
  | _ => .bad
def rEqO (g : G) (f : Va → Va → Sto → Rs Bool) : R2 := fun x y H Q => ∃ ρ S a b t S1, Sim g ρ S H ∧ Rel g ρ H a x ∧ Rel g ρ H b y ∧ f a b S = .ok t S1 ∧ ∀ ρ' H', Ext g ρ H ρ' H' → Sim g ρ' S1 H' → Q (.bl t) H'
end
end Rz
namespace Rz
open PySem PySem.Spec PyProof.Rows L2
structure CalN (P : Program) (w : World) (K : PySem.W.Frag) (mg : Str → Option Value) (base : Heap) (g : G) (c k n : Nat) (m : List Va → Sto → Rs Va) : Prop where
  ex : ∃ f fd ps, FnG P w K mg base k f fd ps (spM g n m) ∧ Mk K (g.cls c) f ∧ Binds K fd ps []
structure CalM (P : Program) (w : World) (K : PySem.W.Frag) (mg : Str → Option Value) (base : Heap) (g : G) (c : Nat) (nm : Str) (k n : Nat) (m : List Va → Sto → Rs Va) : Prop where
  ex : ∃ f fd ps, FnG P w K mg base k f fd ps (spM g n m) ∧ Meth K (g.cls c) nm f ∧ Binds K fd ps []
structure CalP (P : Program) (w : World) (K : PySem.W.Frag) (mg : Str → Option Value) (base : Heap) (g : G) (c : Nat) (nm : Str) (k : Nat) (m : List Va → Sto → Rs Va) : Prop where
  ex : ∃ p f fd ps, FnG P w K mg base k f fd ps (spM g 1 m) ∧ PropOf K (g.cls c) nm p f ∧ Binds K fd ps []
structure CalQ (P : Program) (w : World) (K : PySem.W.Frag) (mg : Str → Option Value) (base : Heap) (g : G) (c k : Nat) (m : List Va → Sto → Rs Va) : Prop where
  ex : ∃ f fd ps, FnG P w K mg base k f fd ps (spM g 2 m) ∧ EqC K g c f ∧ Binds K fd ps []
structure DefT (K : PySem.W.Frag) (nm qual : Str) (st : Stmt) (ps : List Str) (f : Addr) (fd : FuncData) : Prop where
  F : Fun K nm qual st f fd
  b : Binds K fd ps []
section
variable {X : Cx} {g : G} {Wx : WX} {k : Nat} {pos : Pos} {a b c : Expr} {es : List Expr} {x y z : XE} {r : XA}
end
end Rz
namespace Rz
open PySem PySem.Spec PyProof.Rows L2
end Rz
namespace Rz
open PySem PySem.Spec PyProof.Rows L2
section
variable {δ δ1 : Env} {S S1 S2 S3 : Sto} {x y z : XE} {as : XA} {v w : Va} {ws us fs : List Va} {i j l n c : Nat} {m : List Va → Sto → Rs Va}
theorem insAt_eq (h : S[i]? = some (.ins c fs)) : insAt c (.loc i) S = some fs := by
  show (match S[i]? with | some (.ins c' fs) => if c' = c then some fs else none | _ => none) = some fs
  rw [h]
  exact if_pos rfl
theorem fld_at (h : x δ S = .ok (.loc i) S1) (h1 : S1[i]? = some (.ins c fs)) (h2 : fs[j]? = some v) : xfld c j x δ S = .ok v S1 := by
  unfold xfld
  rw [h, bind_ok, insAt_eq h1]
  dsimp only
  rw [h2]
theorem sfld_at (he : y δ S = .ok v S1) (h : x δ S1 = .ok (.loc i) S2) (h1 : S2[i]? = some (.ins c fs)) (hj : j = fs.length) : sfld c j x y δ S = .nx δ (S2.set i (.ins c (fs ++ [v]))) := by
  unfold sfld
  rw [he]
  show ((x δ S1).out δ _) = _
  rw [h]
  show (match insAt c (.loc i) S2 with | some fs => _ | none => _) = _
  rw [insAt_eq h1]
  exact if_pos hj
theorem new_at (h : as δ S = .ok ws S1) (hn : ws.length + 1 = n) (h2 : m (.loc S1.length :: ws) (S1 ++ [.ins c []]) = .ok .non S2) : ynew c n m as δ S = .ok (.loc S1.length) S2 := by
  unfold ynew
  rw [h, bind_ok, if_pos hn, h2]
  rfl
theorem met_at {f : Va → List Va → Sto → Rs Va} {r : Rs Va} (h : x δ S = .ok (.loc i) S1) (h1 : S1[i]? = some (.lst us)) (h3 : as δ S1 = .ok ws S2) (h2 : f (.loc i) ws S2 = r) : xmetL f x as δ S = r := by
  unfold xmetL
  rw [h, bind_ok, isL_of h1, if_pos rfl, h3, bind_ok]
  exact h2
theorem andV_t {r : Rs Va} (h : x δ S = .ok (.bl true) S1) (h2 : y δ S1 = r) : xandV x y δ S = r := by
  unfold xandV
  rw [h, bind_ok]
  exact h2
theorem ite_t {p : XT} {r : Rs Va} (h : p δ S = .ok true S1) (h2 : x δ S1 = r) : xite p x y δ S = r := by
  unfold xite
  rw [h, bind_ok, if_pos rfl]
  exact h2
theorem ite_f {p : XT} {r : Rs Va} (h : p δ S = .ok false S1) (h2 : y δ S1 = r) : xite p x y δ S = r := by
  unfold xite
  rw [h, bind_ok, if_neg (by decide)]
  exact h2
theorem asg_at {p : XP} (h : x δ S = .ok v S1) (h2 : p v δ = some δ1) : sasg p x δ S = .nx δ1 S1 := by
  unfold sasg
  rw [h]
  show (match p v δ with | some δ' => _ | none => _) = _
  rw [h2]
theorem srt_at (h : getL S l = some ws) (h2 : sortV ws = true) (hz : ws.length ≤ 16777216) : fSrt [.loc l] S = .ok (.loc S.length) (S ++ [.lst (vsort ws)]) := by
  unfold fSrt
  dsimp only [itL]
  rw [h]
  dsimp only
  rw [h2, cond_true, llst_eq]
  rw [(vsort_perm ws).length_eq]
  exact hz
theorem lenset_at (h : getL S l = some ws) (h2 : keyV ws = true) : fLenSet [.loc l] S = .ok (.int (nub ws).length) S := by
  unfold fLenSet
  dsimp only [itL]
  rw [h]
  dsimp only
  rw [h2]
  rfl
theorem srtset_at (h : getL S l = some ws) (h2 : keyV ws = true) (hz : (nub ws).length ≤ 16777216) : fSrtSet [.loc l] S = .ok (.loc S.length) (S ++ [.lst (vsort (nub ws))]) := by
  unfold fSrtSet
  dsimp only [itL]
  rw [h]
  dsimp only
  rw [h2, cond_true, llst_eq]
  rw [(vsort_perm _).length_eq]
  exact hz
theorem list_at (h : getL S l = some ws) (hz : ws.length ≤ 16777216) : fList [.loc l] S = .ok (.loc S.length) (S ++ [.lst ws]) := by
  unfold fList
  dsimp only [itm]
  rw [h]
  exact llst_eq S hz
theorem cat_at {xs ys : List Va} (h : S[i]? = some (.lst xs)) (h2 : S[j]? = some (.lst ys)) (hz : (xs ++ ys).length ≤ 16777216) : oAdd (.loc i) (.loc j) S = .ok (.loc S.length) (S ++ [.lst (xs ++ ys)]) := by
  unfold oAdd
  dsimp only
  rw [h, h2]
  exact llst_eq S hz
theorem isq_loc (h : x δ S = .ok (.loc l) S1) (h2 : getL S1 l = some ws) : isq x δ S = .ok (ws.length + 1, nloc l) S1 := by
  unfold isq
  rw [h]
  dsimp only [Rs.bind]
  rw [h2]
theorem isq_tup (h : x δ S = .ok (.tup ws) S1) : isq x δ S = .ok (ws.length + 1, nseq ws) S1 := by
  unfold isq
  rw [h]
  rfl
theorem isiL (h : S[l]? = some (.lst ws)) : fIsi [.loc l, .ty 5] S = .ok (.bl true) S := by
  unfold fIsi
  dsimp only [kind]
  rw [h]
  rfl
theorem isiT : fIsi [.tup ws, .ty 4] S = .ok (.bl true) S := rfl
end
theorem nloc_at {S : Sto} {l : Nat} {ws : List Va} (h : getL S l = some ws) (i : Nat) : nloc l S i = some ws[i]? := by
  unfold nloc
  rw [h]
  rfl
theorem compH_pure {nth : Nth} {put : XP} {cond : XT} {elt : XE} {δ : Env} {kont : Sto → Rs Va} {ws : List Va} (f : Va → Option Va) (S0 : Sto) (hn : ∀ S' i, Keep S0 S' → nth S' i = some ws[i]?)
    (hs : ∀ w, w ∈ ws → ∃ δ1, put w δ = some δ1 ∧ ∀ S', Keep S0 S' → (∃ y, f w = some y ∧ cond δ1 S' = .ok true S' ∧ elt δ1 S' = .ok y S') ∨ (f w = none ∧ cond δ1 S' = .ok false S')) :
    ∀ (m i : Nat) (acc : List Va), i + m = ws.length → acc.length + m ≤ 16777216 → compH nth put cond elt S0.length δ kont (m + 1) i (S0 ++ [.lst acc]) = kont (S0 ++ [.lst (acc ++ (ws.drop i).filterMap f)])
  | 0, i, acc, e, hz => by
    have e' : i = ws.length := by omega
    subst e'
    unfold compH
    rw [hn _ _ (Keep.app _ _), List.getElem?_eq_none (Nat.le_refl _), List.drop_length]
    simp
  | m + 1, i, acc, e, hz => by
    have hi : i < ws.length := by omega
    have kp : Keep S0 (S0 ++ [.lst acc]) := Keep.app _ _
    obtain ⟨δ1, k1, k2⟩ := hs ws[i] (List.getElem_mem hi)
    have dr : ws.drop i = ws[i] :: ws.drop (i + 1) := List.drop_eq_getElem_cons hi
    unfold compH
    rw [hn _ _ kp, List.getElem?_eq_getElem hi]
    dsimp only
    rw [k1]
    dsimp only
    rcases k2 _ kp with ⟨y, q1, q2, q3⟩ | ⟨q1, q2⟩
    · rw [q2]
      dsimp only
      rw [q3]
      dsimp only
      rw [get_new]
      dsimp only
      rw [fits_of (by omega), cond_true]
      have st : (S0 ++ [Ob.lst acc]).set S0.length (.lst (acc ++ [y])) = S0 ++ [.lst (acc ++ [y])] := by simp
      rw [st, compH_pure f S0 hn hs m (i + 1) (acc ++ [y]) (by omega) (by rw [List.length_append]; simp; omega), dr, List.filterMap_cons, q1]
      simp
    · rw [q2]
      dsimp only
      rw [compH_pure f S0 hn hs m (i + 1) acc (by omega) (by omega), dr, List.filterMap_cons, q1]
theorem comp2_pure {nth : Nth} {put put1 : XP} {xi1 : XI} {cond1 : XT} {elt : XE} {vs1 : List Nat} {δ : Env} {ws : List Va} (us : Va → List Va) (f : Va → Va → Option Va) (S0 : Sto) (hn : ∀ S' i, Keep S0 S' → nth S' i = some ws[i]?)
    (hs : ∀ w, w ∈ ws → (us w).length ≤ 64 ∧ ∃ δ1 nth1, put w δ = some δ1 ∧ (∀ S', Keep S0 S' → xi1 δ1 S' = .ok ((us w).length + 1, nth1) S') ∧ (∀ S' i, Keep S0 S' → nth1 S' i = some (us w)[i]?) ∧
      ∀ u, u ∈ us w → ∃ δ2, put1 u (wipeE δ1 vs1) = some δ2 ∧ ∀ S', Keep S0 S' → (∃ y, f w u = some y ∧ cond1 δ2 S' = .ok true S' ∧ elt δ2 S' = .ok y S') ∨ (f w u = none ∧ cond1 δ2 S' = .ok false S')) :
    ∀ (m i : Nat) (acc : List Va), i + m = ws.length → acc.length + 64 * m ≤ 16777216 → comp2G nth put xyes xi1 put1 cond1 elt vs1 S0.length δ (m + 1) i (S0 ++ [.lst acc]) = .ok (.loc S0.length) (S0 ++ [.lst (acc ++ (ws.drop i).flatMap fun w => (us w).filterMap (f w))])
  | 0, i, acc, e, hz => by
    have e' : i = ws.length := by omega
    subst e'
    unfold comp2G
    rw [hn _ _ (Keep.app _ _), List.getElem?_eq_none (Nat.le_refl _), List.drop_length]
    simp
  | m + 1, i, acc, e, hz => by
    have hi : i < ws.length := by omega
    have kp : Keep S0 (S0 ++ [.lst acc]) := Keep.app _ _
    obtain ⟨hu, δ1, nth1, k1, k2, k3, k4⟩ := hs ws[i] (List.getElem_mem hi)
    have dr : ws.drop i = ws[i] :: ws.drop (i + 1) := List.drop_eq_getElem_cons hi
    unfold comp2G
    rw [hn _ _ kp, List.getElem?_eq_getElem hi]
    dsimp only
    rw [k1]
    dsimp only
    show (match xi1 δ1 (S0 ++ [.lst acc]) with | .ok a S2 => compH a.2 put1 cond1 elt S0.length (wipeE δ1 vs1) (fun S3 => comp2G nth put xyes xi1 put1 cond1 elt vs1 S0.length δ (m + 1) (i + 1) S3) a.1 0 S2 | _ => .bad) = _
    rw [k2 _ kp]
    dsimp only
    have lf : ((us ws[i]).filterMap (f ws[i])).length ≤ (us ws[i]).length := List.length_filterMap_le _ _
    rw [compH_pure (f ws[i]) S0 k3 k4 (us ws[i]).length 0 acc (by omega) (by omega), List.drop_zero, comp2_pure us f S0 hn hs m (i + 1) _ (by omega) (by rw [List.length_append]; omega), dr, List.flatMap_cons, List.append_assoc]
theorem comp_list {vs : List Nat} {x : XE} {put : XP} {cond : XT} {elt : XE} {δ : Env} {S S0 : Sto} {l : Nat} {ws : List Va} (f : Va → Option Va) (hx : x δ S = .ok (.loc l) S0) (hl : getL S0 l = some ws) (hz : ws.length ≤ 16777216)
    (hs : ∀ w, w ∈ ws → ∃ δ1, put w (wipeE δ vs) = some δ1 ∧ ∀ S', Keep S0 S' → (∃ y, f w = some y ∧ cond δ1 S' = .ok true S' ∧ elt δ1 S' = .ok y S') ∨ (f w = none ∧ cond δ1 S' = .ok false S')) :
    xcomp vs (isq x) put cond elt δ S = .ok (.loc S0.length) (S0 ++ [.lst (ws.filterMap f)]) := by
  rw [xcomp_at (isq_loc hx hl)]
  exact compG_pure f S0 hz (fun S' i kp => nloc_at (kp.getL hl) i) hs
theorem comp2_list {vs vs1 : List Nat} {x : XE} {xi1 : XI} {put put1 : XP} {cond1 : XT} {elt : XE} {δ : Env} {S S0 : Sto} {l : Nat} {ws : List Va} (us : Va → List Va) (f : Va → Va → Option Va) (hx : x δ S = .ok (.loc l) S0) (hl : getL S0 l = some ws) (hz : ws.length ≤ 200000)
    (hs : ∀ w, w ∈ ws → (us w).length ≤ 64 ∧ ∃ δ1 nth1, put w (wipeE δ vs) = some δ1 ∧ (∀ S', Keep S0 S' → xi1 δ1 S' = .ok ((us w).length + 1, nth1) S') ∧ (∀ S' i, Keep S0 S' → nth1 S' i = some (us w)[i]?) ∧
      ∀ u, u ∈ us w → ∃ δ2, put1 u (wipeE δ1 vs1) = some δ2 ∧ ∀ S', Keep S0 S' → (∃ y, f w u = some y ∧ cond1 δ2 S' = .ok true S' ∧ elt δ2 S' = .ok y S') ∨ (f w u = none ∧ cond1 δ2 S' = .ok false S')) :
    xcomp2 vs vs1 (isq x) put xyes xi1 put1 cond1 elt δ S = .ok (.loc S0.length) (S0 ++ [.lst (ws.flatMap fun w => (us w).filterMap (f w))]) := by
  unfold xcomp2
  rw [isq_loc hx hl, bind_ok]
  exact comp2_pure us f S0 (fun S' i kp => nloc_at (kp.getL hl) i) hs ws.length 0 [] (by omega) (by show 0 + 64 * ws.length ≤ _; omega)
theorem all_list {v : Nat} {x : XE} {elt : XE} {δ : Env} {S S0 : Sto} {l : Nat} {ws : List Va} (hx : x δ S = .ok (.loc l) S0) (hl : getL S0 l = some ws) (hz : ws.length ≤ 16777216)
    (he : ∀ w, w ∈ ws → ∀ S', Keep S0 S' → elt ((wipeE δ [v]).set v (some w)) S' = .ok (.bl true) S') :
    ∃ S', xcall fAll (acons (xcomp [v] (isq x) (pname v) xyes elt) anil) δ S = .ok (.bl true) S' ∧ Keep S0 S' := by
  have cm := comp_list (vs := [v]) (put := pname v) (cond := xyes) (elt := elt) (fun _ => some (Va.bl true)) hx hl hz (fun w hw => ⟨_, rfl, fun S' kp => .inl ⟨.bl true, rfl, rfl, he w hw S' kp⟩⟩)
  have e : ws.filterMap (fun _ => some (Va.bl true)) = (ws.map fun _ => true).map Va.bl := by
    rw [List.map_map]
    clear cm he hl hz
    induction ws with
    | nil => rfl
    | cons a r ih => simp
  rw [e] at cm
  refine ⟨S0 ++ [Ob.lst ((ws.map fun _ => true).map Va.bl)], call_at (one_at cm) ?_, Keep.app _ _⟩
  unfold fAll
  dsimp only
  rw [getL_new]
  dsimp only
  rw [bools_map]
  dsimp only
  have : ((ws.map fun _ => true).all id) = true := by simp
  rw [this]
mutual
theorem toD_pur (S : Sto) : ∀ (w : Va) (n : Nat), pur w = true → (dat w).depth < n → toD S n w = some (dat w)
  | .non, n + 1, _, _ => rfl
  | .bl _, n + 1, _, _ => rfl
  | .int _, n + 1, _, _ => rfl
  | .str _, n + 1, _, _ => rfl
  | .tup ws, n + 1, h, d => by
    have := allD_pur S ws n (by simpa [pur] using h) (by simp only [dat, PyData.depth] at d; omega)
    show (allD (toD S n) ws).map PyData.tuple = _
    rw [this]
    rfl
theorem allD_pur (S : Sto) : ∀ (ws : List Va) (n : Nat), purs ws = true → PyData.depthAll (dats ws) < n → allD (toD S n) ws = some (dats ws)
  | [], _, _, _ => rfl
  | w :: ws, n, h, d => by
    simp only [purs, Bool.and_eq_true] at h
    simp only [dats, PyData.depthAll] at d
    have h1 := toD_pur S w n h.1 (by omega)
    have h2 := allD_pur S ws n h.2 (by omega)
    show (match toD S n w, allD (toD S n) ws with | some d, some ds => some (d :: ds) | _, _ => none) = _
    rw [h1, h2]
    rfl
end
end Rz
namespace Rz
open PySem PySem.Spec PyProof.Rows L2
theorem fold_max : ∀ (ns : List Int) (n : Int), n ≤ ns.foldl max n ∧ (∀ y ∈ ns, y ≤ ns.foldl max n) ∧ (ns.foldl max n = n ∨ ns.foldl max n ∈ ns)
  | [], n => ⟨Int.le_refl _, (fun y h => nomatch h), .inl rfl⟩
  | a :: ns, n => by
    obtain ⟨h1, h2, h3⟩ := fold_max ns (max n a)
    have e : (a :: ns).foldl max n = ns.foldl max (max n a) := rfl
    rw [e]
    refine ⟨by omega, fun y hy => ?_, ?_⟩
    · rcases List.mem_cons.mp hy with z | z
      · rw [z]; omega
      · exact h2 y z
    · rcases h3 with z | z
      · rw [z]
        rcases Int.le_total n a with c | c
        · rw [Int.max_eq_right c]; exact .inr List.mem_cons_self
        · rw [Int.max_eq_left c]; exact .inl rfl
      · exact .inr (List.mem_cons_of_mem _ z)
def rMax1 (K : PySem.W.Frag) : List V → Hp → VK → Prop := fun vs H Q => ∃ (a : Addr) (n : Int) (ns : List Int), vs = [V.ref a] ∧ (SqL K H a ((n :: ns).map V.int) ∨ SqT K H a ((n :: ns).map V.int)) ∧ Q (.int (ns.foldl max n)) H
section
variable {X : Cx} {g : G} {Wx : WX} {k : Nat} {pos : Pos} {a b c : Expr} {es : List Expr} {x y z : XE} {r : XA}
def intsV : List Va → Option (List Int)
  | [] => some []
  | .int i :: ws => (intsV ws).map (i :: ·)
  | _ => none
theorem intsV_map (ns : List Int) : intsV (ns.map .int) = some ns := by
  induction ns with
  | nil => rfl
  | cons n ns ih => simp [intsV, ih]
def fMax1 (ws : List Va) (S : Sto) : Rs Va := match ws with
  | [w] => match itm w S with
    | some us => match intsV us with
      | some (n :: ns) => .ok (.int (ns.foldl max n)) S
      | _ => .bad
    | none => .bad
  | _ => .bad
end
end Rz
namespace Rz
open PySem PySem.Spec PyProof.Rows L2 PySem.W
mutual
theorem nkV_dat : ∀ (w : Va) (k : NestedKey), nkV w = some k → Sx.numD (dat w) = true ∧ k = Sx.nk (dat w) ∧ pur w = true
  | .non, k, h => by cases h; exact ⟨rfl, rfl, rfl⟩
  | .bl b, k, h => by cases h; exact ⟨rfl, rfl, rfl⟩
  | .int i, k, h => by cases h; exact ⟨rfl, rfl, rfl⟩
  | .str x, k, h => by simp [nkV] at h
  | .ty x, k, h => by simp [nkV] at h
  | .loc x, k, h => by simp [nkV] at h
  | .cl x, k, h => by simp [nkV] at h
  | .tup ws, k, h => by
    simp only [nkV] at h
    obtain ⟨ks, e, rfl⟩ := Option.map_eq_some_iff.mp h
    obtain ⟨h1, h2, h3⟩ := nksV_dat ws ks e
    exact ⟨by simpa [dat, Sx.numD] using h1, by simp [dat, Sx.nk, h2], by simpa [pur] using h3⟩
theorem nksV_dat : ∀ (ws : List Va) (ks : List NestedKey), nkV.nksV ws = some ks → Sx.numDs (dats ws) = true ∧ ks = Sx.nks (dats ws) ∧ purs ws = true
  | [], ks, h => by
    simp only [nkV.nksV] at h
    cases h
    exact ⟨rfl, rfl, rfl⟩
  | w :: ws, ks, h => by
    simp only [nkV.nksV] at h
    cases e1 : nkV w with
    | none => rw [e1] at h; cases h
    | some k =>
      cases e2 : nkV.nksV ws with
      | none => rw [e1, e2] at h; cases h
      | some ls =>
        rw [e1, e2] at h
        cases h
        obtain ⟨a1, a2, a3⟩ := nkV_dat w k e1
        obtain ⟨b1, b2, b3⟩ := nksV_dat ws ls e2
        exact ⟨by simp [dats, Sx.numDs, a1, b1], by simp [dats, Sx.nks, a2, b2], by simp [purs, a3, b3]⟩
end
theorem paired_mem {α β : Type} {R : α → β → Prop} : ∀ {xs : List α} {ys : List β}, Paired R xs ys → ∀ y ∈ ys, ∃ x ∈ xs, R x y
  | _, _, .nil, y, h => nomatch h
  | _, _, .cons a b, y, h => by
    rcases List.mem_cons.mp h with z | z
    · exact ⟨_, List.mem_cons_self, z ▸ a⟩
    · obtain ⟨x, m, r⟩ := paired_mem b y z
      exact ⟨x, List.mem_cons_of_mem _ m, r⟩
section
variable {X : Cx} {g : G} {pins : List (Addr × Obj)} {σ : L2.St} {H : Hp} {s : Shared} {ρ : List Addr}
theorem dict_at (I : Inv X pins σ H s) {a : Addr} {L : List (NestedKey × Addr × V)} (h : Rd H a (dN X.prog X.w a L)) (ks : ∀ r ∈ L, (nestedKind X.prog X.w).is s.heap r.1 r.2.1) :
    (a == sysModules) = false ∧ L.length ≤ sizeLine ∧ ∃ xs : List (NestedKey × Addr × Value), Paired (fun (p : NestedKey × Addr × V) (q : NestedKey × Addr × Value) => p.1 = q.1 ∧ p.2.1 = q.2.1 ∧ RelV p.2.2 q.2.2) L xs ∧ s.heap.DictOfH (nestedKind X.prog X.w) a xs := by
  obtain ⟨⟨h1, h2, h3, xs, hp, o, es, ep, h4, h5, h6, h7, h8⟩, _, _⟩ := h.ok I.hok
  refine ⟨h1, h2, xs, hp, o, es, ep, h4, h5, h6, h7, fun x hx => ?_, h8⟩
  obtain ⟨r, hr, e1, e2, _⟩ := paired_mem hp x hx
  rw [← e1, ← e2]
  exact ks r hr
end
def valN (L : List (NestedKey × Addr × V)) (k : NestedKey) : Option V := (L.find? fun x => decide (x.1 = k)).map (·.2.2)
end Rz
namespace Rz
open PySem PySem.Spec PyProof.Rows L2 PySem.W
def KOk (K : PySem.W.Frag) (H : Hp) (k : NestedKey) (b : Addr) : Prop := ∃ d, Dp K H (.ref b) d ∧ Sx.numD d = true ∧ k = Sx.nk d ∧ k.depth ≤ 8
section
variable {X : Cx} {g : G} {pins : List (Addr × Obj)} {σ : L2.St} {H : Hp} {s : Shared} {ρ : List Addr}
theorem KOk.at (I : Inv X pins σ H s) {k : NestedKey} {b : Addr} (h : KOk X.K H k b) : (nestedKind X.prog X.w).is s.heap k b := by
  obtain ⟨d, dp, n, e, dd⟩ := h
  obtain ⟨as, rd⟩ := Dp.reads I d (.ref b) (.ref b) dp rfl
  refine ⟨?_, dd⟩
  rw [e]
  exact Sx.key_of _ _ _ rd n
theorem KOk.of {w : Va} {b : Addr} {k : NestedKey} (r : Rel g ρ H w (.ref b)) (e : nkV w = some k) (d : k.depth ≤ 8) : KOk g.K H k b := by
  obtain ⟨h1, h2, h3⟩ := nkV_dat w k e
  exact ⟨dat w, dat_ok w _ h3 r, h1, h2, d⟩
structure DAt (K : PySem.W.Frag) (P : Program) (w : World) (H : Hp) (a : Addr) (L : List (NestedKey × Addr × V)) : Prop where
  at_ : Rd H a (dN P w a L)
  ks : ∀ r ∈ L, KOk K H r.1 r.2.1
theorem DAt.get (I : Inv X pins σ H s) {a : Addr} {L : List (NestedKey × Addr × V)} (h : DAt X.K X.prog X.w H a L) : (a == sysModules) = false ∧ L.length ≤ sizeLine ∧ ∃ xs : List (NestedKey × Addr × Value), Paired (fun (p : NestedKey × Addr × V) (q : NestedKey × Addr × Value) => p.1 = q.1 ∧ p.2.1 = q.2.1 ∧ RelV p.2.2 q.2.2) L xs ∧ s.heap.DictOfH (nestedKind X.prog X.w) a xs :=
  dict_at I h.at_ fun r hr => (h.ks r hr).at I
def rDGet (K : PySem.W.Frag) (P : Program) (w : World) : R2 := fun x y H Q => ∃ a L b k v, x = .ref a ∧ y = .ref b ∧ DAt K P w H a L ∧ KOk K H k b ∧ valN L k = some v ∧ Q v H
def rDIn (K : PySem.W.Frag) (P : Program) (w : World) : R2 := fun x y H Q => ∃ a L b k, y = .ref a ∧ x = .ref b ∧ DAt K P w H a L ∧ KOk K H k b ∧ Q (.bl (valN L k).isSome) H
def rDNin (K : PySem.W.Frag) (P : Program) (w : World) : R2 := fun x y H Q => ∃ a L b k, y = .ref a ∧ x = .ref b ∧ DAt K P w H a L ∧ KOk K H k b ∧ Q (.bl (!(valN L k).isSome)) H
end
section
variable {g : G}
@[simp] def dctAt (w : Va) (S : Sto) : Option (List (Va × Va)) := match w with
  | .loc l => match S[l]? with
    | some (.dct kvs) => some kvs
    | some (.frd kvs) => some kvs
    | _ => none
  | _ => none
@[simp] def dctW (w : Va) (S : Sto) : Option (List (Va × Va)) := match w with
  | .loc l => match S[l]? with
    | some (.dct kvs) => some kvs
    | _ => none
  | _ => none
@[simp] def keyT (w : Va) : Option NestedKey := match w with
  | .tup ws => match nkV (.tup ws) with
    | some k => if k.depth ≤ 8 then some k else none
    | none => none
  | _ => none
def valD (kvs : List (Va × Va)) (k : NestedKey) : Option Va := (kvs.find? fun p => decide (nkV p.1 = some k)).map (·.2)
end
end Rz
namespace Rz
open PySem PySem.Spec PyProof.Rows L2 PySem.W
@[simp] def oDix (a b : Va) (S : Sto) : Rs Va := match dctAt a S, keyT b with
  | some kvs, some k => match valD kvs k with
    | some w => .ok w S
    | none => .bad
  | _, _ => .bad
@[simp] def cDin (a b : Va) (S : Sto) : Rs Bool := match dctAt b S, keyT a with
  | some kvs, some k => .ok (valD kvs k).isSome S
  | _, _ => .bad
@[simp] def cDnin (a b : Va) (S : Sto) : Rs Bool := match dctAt b S, keyT a with
  | some kvs, some k => .ok (!(valD kvs k).isSome) S
  | _, _ => .bad
section
variable {g : G}
end
section
variable {X : Cx} {g : G} {Wx : WX} {k : Nat} {pos : Pos} {a b c : Expr} {es : List Expr} {x y z : XE} {r : XA}
def tDNewN (P : Program) (w : World) : TE := fun _ H Q => ∀ p, H p = none → Q (.ref p) (upd H p (dN P w p []))
@[simp] def xdict0 : XE := fun _ S => .ok (.loc S.length) (S ++ [.dct []])
end
end Rz
namespace Rz
open PySem PySem.Spec PyProof.Rows L2 PySem.W
def putN (k : NestedKey) (v : V) (x : NestedKey × Addr × V) : NestedKey × Addr × V := if x.1 = k then (x.1, x.2.1, v) else x
def storN (L : List (NestedKey × Addr × V)) (k : NestedKey) (b : Addr) (v : V) : List (NestedKey × Addr × V) := if (valN L k).isSome then L.map (putN k v) else L ++ [(k, b, v)]
def putD (k : NestedKey) (w : Va) (p : Va × Va) : Va × Va := if nkV p.1 = some k then (p.1, w) else p
def stD (kvs : List (Va × Va)) (kw : Va) (k : NestedKey) (w : Va) : List (Va × Va) := if (valD kvs k).isSome then kvs.map (putD k w) else kvs ++ [(kw, w)]
abbrev PR : NestedKey × Addr × V → NestedKey × Addr × Value → Prop := fun p q => p.1 = q.1 ∧ p.2.1 = q.2.1 ∧ RelV p.2.2 q.2.2
def rSetN (K : PySem.W.Frag) (P : Program) (w : World) : V → V → V → Hp → (Hp → Prop) → Prop := fun o i v H Q => ∃ p L b k, o = .ref p ∧ i = .ref b ∧ H p = some (dN P w p L) ∧ DAt K P w H p L ∧ KOk K H k b ∧ L.length < sizeLine ∧ (∀ r ∈ L, r.1.depth ≤ 8) ∧ k.depth ≤ 8 ∧ Q (upd H p (dN P w p (storN L k b v)))
section
variable {g : G}
end
end Rz
namespace Rz
open PySem PySem.Spec PyProof.Rows L2 PySem.W
def oDput (u j w : Va) (δ : Env) (S : Sto) : Out := match u with
  | .loc l => match dctW (.loc l) S, keyT j with
    | some kvs, some k => bif decide (k.depth ≤ 8) && fits (kvs.length + 1) then .nx δ (S.set l (.dct (stD kvs j k w))) else .bad
    | _, _ => .bad
  | _ => .bad
@[simp] def sdsub (c i a : XE) : XS := fun δ S => (a δ S).out δ fun w S1 => (c δ S1).out δ fun u S2 => (i δ S2).out δ fun j S3 => oDput u j w δ S3
section
variable {X : Cx} {g : G} {Wx : WX} {k : Nat} {pos : Pos} {a b e : Expr} {es : List Expr} {x y z : XE} {r : XA}
end
end Rz
namespace Rz
open PySem PySem.Spec PyProof.Rows L2
theorem fold_min : ∀ (ns : List Int) (n : Int), ns.foldl min n ≤ n ∧ (∀ y ∈ ns, ns.foldl min n ≤ y) ∧ (ns.foldl min n = n ∨ ns.foldl min n ∈ ns)
  | [], n => ⟨Int.le_refl _, (fun y h => nomatch h), .inl rfl⟩
  | a :: ns, n => by
    obtain ⟨h1, h2, h3⟩ := fold_min ns (min n a)
    have e : (a :: ns).foldl min n = ns.foldl min (min n a) := rfl
    rw [e]
    refine ⟨by omega, fun y hy => ?_, ?_⟩
    · rcases List.mem_cons.mp hy with z | z
      · rw [z]; omega
      · exact h2 y z
    · rcases h3 with z | z
      · rw [z]
        rcases Int.le_total n a with c | c
        · rw [Int.min_eq_left c]; exact .inl rfl
        · rw [Int.min_eq_right c]; exact .inr List.mem_cons_self
      · exact .inr (List.mem_cons_of_mem _ z)
def rMin1 (K : PySem.W.Frag) : List V → Hp → VK → Prop := fun vs H Q => ∃ (a : Addr) (n : Int) (ns : List Int), vs = [V.ref a] ∧ (SqL K H a ((n :: ns).map V.int) ∨ SqT K H a ((n :: ns).map V.int)) ∧ Q (.int (ns.foldl min n)) H
section
variable {X : Cx} {g : G} {Wx : WX} {k : Nat} {pos : Pos} {a b c : Expr} {es : List Expr} {x y z : XE} {r : XA}
def fMin1 (ws : List Va) (S : Sto) : Rs Va := match ws with
  | [w] => match itm w S with
    | some us => match intsV us with
      | some (n :: ns) => .ok (.int (ns.foldl min n)) S
      | _ => .bad
    | none => .bad
  | _ => .bad
@[simp] def xdictI0 : XE := fun _ S => .ok (.loc S.length) (S ++ [.dci []])
def valI (kvs : List (Int × Va)) (k : Int) : Option Va := (kvs.find? fun p => decide (p.1 = k)).map (·.2)
def putI (k : Int) (w : Va) (p : Int × Va) : Int × Va := if p.1 = k then (p.1, w) else p
def stI (kvs : List (Int × Va)) (k : Int) (w : Va) : List (Int × Va) := if (kvs.any fun p => decide (p.1 = k)) = true then kvs.map (putI k w) else kvs ++ [(k, w)]
@[simp] def dciAt (w : Va) (S : Sto) : Option (List (Int × Va)) := match w with
  | .loc l => match S[l]? with
    | some (.dci kvs) => some kvs
    | _ => none
  | _ => none
@[simp] def oIix (a b : Va) (S : Sto) : Rs Va := match dciAt a S, b with
  | some kvs, .int k => match valI kvs k with
    | some w => .ok w S
    | none => .bad
  | _, _ => .bad
def oIput (u j w : Va) (δ : Env) (S : Sto) : Out := match u with
  | .loc l => match dciAt (.loc l) S, j with
    | some kvs, .int k => bif fits (kvs.length + 1) then .nx δ (S.set l (.dci (stI kvs k w))) else .bad
    | _, _ => .bad
  | _ => .bad
@[simp] def sisub (c i a : XE) : XS := fun δ S => (a δ S).out δ fun w S1 => (c δ S1).out δ fun u S2 => (i δ S2).out δ fun j S3 => oIput u j w δ S3
def sortZ (ks : List Int) : List Int := ks.mergeSort fun a b => decide (a ≤ b)
def fSrtI (ws : List Va) (S : Sto) : Rs Va := match ws with
  | [w] => match dciAt w S with
    | some kvs => bif decide (kvs.length < 64) then .ok (.loc S.length) (S ++ [.lst ((sortZ (kvs.map Prod.fst)).map .int)]) else .bad
    | none => .bad
  | _ => .bad
def rSrtI : List V → Hp → VK → Prop := fun xs H Q => ∃ (a : Addr) (kvs : List (L2.Key × V)) (ks : List Int), xs = [V.ref a] ∧ Rd H a (HO.dK kvs) ∧ List.map (fun x => x.fst) kvs = List.map Sum.inl ks ∧ ks.length < 64 ∧ ∀ (ys : List Int) (p : Addr), ys.Perm ks → List.Pairwise (fun x1 x2 => x1 ≤ x2) ys → H p = none → Q (V.ref p) (upd H p (HO.lst (List.map V.int ys)))
end
end Rz
namespace Rz
open PySem PySem.Spec PyProof.Rows L2
def cInT (a b : Va) (S : Sto) : Rs Bool := match toD S 64 a, toD S 64 b with
  | some d, some (.tuple ds) => bif d.layable0 && (PyData.tuple ds).layable0 && ds.all (fun y => SeqAt.noMix y d) then .ok (ds.any fun z => PyData.eqv z d) S else .bad
  | _, _ => .bad
def rInT (K : PySem.W.Frag) : R2 := fun x y H Q => ∃ d ds, Dp K H x d ∧ Dp K H y (.tuple ds) ∧ d.layable0 = true ∧ (PyData.tuple ds).layable0 = true ∧ (∀ y ∈ ds, SeqAt.noMix y d = true) ∧ Q (.bl (ds.any fun z => z.eqv d)) H
section
variable {X : Cx} {g : G} {Wx : WX} {k : Nat} {pos : Pos} {a b c : Expr} {x y z : XE}
end
end Rz
namespace Rz
open PySem PySem.Spec PyProof.Rows L2
section
variable {X : Cx} {pins : List (Addr × Obj)} {σ : L2.St} {H : Hp} {s : Shared}
end
def wKeep (K : PySem.W.Frag) (c : Value) (i : Nat) (ts : Addr → TS) (D : Ends) : WX := fun cls d σ H =>
  PySem.W.exmOne K cls c = some true ∧ d = none ∧
    ∀ z, H z = none → ts z { nx := fun σ2 H2 => H2 z = none → D.nx (σ2.set i none) (upd H2 z (exH cls z)), rt := fun _ _ => False } (σ.set i (some (.ref z))) H
section
variable {X : Cx} {x n : Str} {c : Value} {i : Nat} {body suite : List Stmt} {st : Stmt} {p1 p2 p3 : Pos} {tb : WX → TS} {ts : Addr → TS}
end
end Rz
namespace Rz
open PySem PySem.Spec PyProof.Rows L2
def onceZ (ns : List Int) : List Int := firstMet (fun i => ns.getD i 0) ns.length
section
variable {X : Cx} {g : G} {Wx : WX} {k : Nat} {pos p p2 q : Pos} {a : Expr} {x : XE} {r : XA} {ta : TE}
def fOnce (ws : List Va) (S : Sto) : Rs Va := match ws with
  | [w] => match itL w S with
    | some us => match intsV us with
      | some ns => bif decide (ns.length ≤ 4000) then .ok (.int ((onceZ ns).length : Nat)) S else .bad
      | none => .bad
    | none => .bad
  | _ => .bad
end
end Rz
namespace Rz
open PySem PySem.Spec PyProof.Rows L2
def allOf (n : Nat) (lo hi : Option Int) : Bool := decide (HT.sIx n 0 lo = 0 ∧ HT.sIx n n hi = n)
def oCutT (w : Va) (lo hi : Option Int) (S : Sto) : Rs Va := match w with
  | .tup ws => bif allOf ws.length lo hi then .bad else ltup (cutA ws lo hi) S
  | _ => .bad
@[simp] def xsliceT (x : XE) (p q : XPt) : XE := fun δ S => (x δ S).bind fun w S1 => (p δ S1).bind fun lo S2 => (q δ S2).bind fun hi S3 => oCutT w lo hi S3
section
variable {X : Cx} {g : G} {Wx : WX} {k : Nat} {pos : Pos} {a : Expr} {x : XE}
end
end Rz
namespace Rz
open PySem PySem.Spec PyProof.Rows L2
structure ExTb (K : PySem.W.Frag) (g : G) (tbl : Nat → Nat → Option Bool) : Prop where
  cl : ∀ c d b, tbl c d = some b → ExcC K (g.cls c) ∧ PySem.W.kitOne K (.ref (g.cls c)) (.ref (g.cls d)) = some b
def rIsX (K : PySem.W.Frag) : List V → Hp → VK → Prop := fun xs H Q => ∃ (a D : Addr) (c : V) (cv : Value) (b : Bool), xs = [.ref a, c] ∧ H a = some (exH (.ref D) a) ∧ ExcC K D ∧ (∀ u, RelV c u → u = cv) ∧ PySem.W.kitOne K (.ref D) cv = some b ∧ Q (.bl b) H
def fIsX (tbl : Nat → Nat → Option Bool) (ws : List Va) (S : Sto) : Rs Va := match ws with
  | [.loc l, .cl d] => match S[l]? with
    | some (.exo c []) => match tbl c d with
      | some b => .ok (.bl b) S
      | none => .bad
    | _ => .bad
  | _ => .bad
section
variable {X : Cx} {g : G} {Wx : WX} {k : Nat} {pos : Pos} {a b c : Expr} {r : XA}
end
def stry (exm : Nat → Bool) (k i : Nat) (body : XS) : XS := fun δ S => match body δ S with
  | .ex c [] δ' S' => if exm c = true ∧ i < δ'.length then .nx (((δ'.set i (some (.loc S'.length))).set k (some (.loc S'.length))).set i none) (S' ++ [.exo c []]) else .bad
  | .ex _ (_ :: _) _ _ => .bad
  | o => o
section
variable {X : Cx} {g : G} {Wx : WX} {kk : Nat} {B : List Stmt} {x n m : Str} {i k c0 : Nat} {p1 p2 p3 p4 p5 p6 : Pos} {body : XS} {exm : Nat → Bool}
end
end Rz
namespace Rz
open PySem PySem.Spec PyProof.Rows L2
def rCntB (K : PySem.W.Frag) : V → List V → Hp → VK → Prop := fun x xs H Q => ∃ (p : Addr) (bs : List Bool) (k : Bool), x = .ref p ∧ xs = [.bl k] ∧ SqL K H p (bs.map V.bl) ∧ Q (.int (bs.count k : Nat)) H
section
variable {g : G}
def oCnt (w : Va) (ws : List Va) (S : Sto) : Rs Va := match w, ws with
  | .loc l, [.bl k] => match getL S l with
    | some us => match bools us with
      | some bs => .ok (.int (bs.count k : Nat)) S
      | none => .bad
    | none => .bad
  | _, _ => .bad
def oIdx (w : Va) (ws : List Va) (S : Sto) : Rs Va := match w, ws with
  | .loc l, [.bl k] => match getL S l with
    | some us => match bools us with
      | some bs => if k ∈ bs then .ok (.int (bs.idxOf k : Nat)) S else .bad
      | none => .bad
    | none => .bad
  | _, _ => .bad
end
section
variable {X : Cx} {g : G} {Wx : WX} {k : Nat} {pos : Pos} {a b : Expr} {x : XE} {r : XA}
end
end Rz
namespace Rz
open PySem PySem.Spec PyProof.Rows L2
def SMod (base : Heap) : Prop := ∃ o, base.get? sysModules = some o
mutual
inductive Dx (K : PySem.W.Frag) (H : Hp) : V → PyData → Prop
  | non : Dx K H .non .none
  | bl (b : Bool) : Dx K H (.bl b) (.bool b)
  | int (i : Int) : Dx K H (.int i) (.int i)
  | str (y : Str) : Dx K H (.str y) (.str y)
  | lst {p : Addr} {vs : List V} {es : List PyData} (at1 : H p = some (.lst vs)) (all : DxAll K H vs es) : Dx K H (.ref p) (.list es)
  | tup {p : Addr} {vs : List V} {es : List PyData} (at1 : SqT K H p vs) (all : DxAll K H vs es) : Dx K H (.ref p) (.tuple es)
  | dk {p : Addr} (at1 : H p = some (.dK [])) : Dx K H (.ref p) (.dict [])
inductive DxAll (K : PySem.W.Frag) (H : Hp) : List V → List PyData → Prop
  | nil : DxAll K H [] []
  | cons {v : V} {vs : List V} {e : PyData} {es : List PyData} (one : Dx K H v e) (rest : DxAll K H vs es) : DxAll K H (v :: vs) (e :: es)
end
section
variable {X : Cx} {pins : List (Addr × Obj)} {σ : L2.St} {H : Hp} {s : Shared}
theorem not_mod (I : Inv X pins σ H s) (M : SMod X.base) {p : Addr} (e : H p ≠ none) : sysModules ≠ p := fun z => by
  obtain ⟨o, h1⟩ := M
  exact e (z ▸ (I.bs _ _ h1).2)
mutual
theorem Dx.reads (I : Inv X pins σ H s) (M : SMod X.base) : ∀ (e : PyData) (v : V) (u : Value), Dx X.K H v e → RelV v u → ∃ as, Reads s.heap u e as ∧ sysModules ∉ as
  | .none, _, _, h, r => by cases h; cases r; exact ⟨_, .none, by simp⟩
  | .bool b, _, _, h, r => by cases h; cases r; exact ⟨_, .bool b, by simp⟩
  | .int i, _, _, h, r => by cases h; obtain ⟨t, rfl⟩ := r; exact ⟨_, .int i t, by simp⟩
  | .str y, _, _, h, r => by cases h; obtain ⟨t, rfl⟩ := r; exact ⟨_, .str y t, by simp⟩
  | .list es, _, _, h, r => by
    cases h with
    | lst at1 all =>
      cases r
      obtain ⟨its, vals, ⟨o, n, y1, y2, _, y3⟩, _⟩ := I.list (.of at1)
      obtain ⟨as, q1, q2⟩ := DxAll.reads I M es _ its all vals
      exact ⟨_, .list y1 y2 y3 q1, fun m => by
        rcases List.mem_cons.mp m with z | z
        · exact not_mod I M (by rw [at1]; simp) z
        · exact q2 z⟩
  | .tuple es, _, _, h, r => by
    cases h with
    | tup at1 all =>
      cases r
      obtain ⟨its, vals, ⟨o, y1, y2, n, y3⟩, _⟩ := I.tuple at1
      obtain ⟨as, q1, q2⟩ := DxAll.reads I M es _ its all vals
      exact ⟨_, .tuple y1 y2 y3 q1, q2⟩
  | .dict kvs, _, _, h, r => by
    cases h with
    | dk at1 =>
      cases r
      obtain ⟨_, y0, vs, kv, o, es, ep, y1, y2, y3, _, y4, _⟩ := dk_rd I.hok (.inl at1)
      cases kv
      have e0 : es.toList = [] := by
        cases q : es.toList with
        | nil => rfl
        | cons a l => rw [q] at y4; cases y4
      exact ⟨_, .dict (as := []) (bs := []) y1 y2.1 y3 (by rw [e0]; exact .nil) (by rw [e0]; exact .nil), fun m => by
        have e9 := List.mem_singleton.mp (show sysModules ∈ [_] from m)
        rw [← e9] at y0
        simp at y0⟩
theorem DxAll.reads (I : Inv X pins σ H s) (M : SMod X.base) : ∀ (es : List PyData) (vs : List V) (us : List Value), DxAll X.K H vs es → Vals vs us → ∃ as, ReadsAll s.heap us es as ∧ sysModules ∉ as
  | [], _, _, h, r => by cases h; cases r; exact ⟨_, .nil, by simp⟩
  | e :: es, _, _, h, r => by
    cases h with
    | cons h1 h2 =>
      cases r with
      | cons r1 r2 =>
        obtain ⟨as, q1, z1⟩ := Dx.reads I M e _ _ h1 r1
        obtain ⟨bs, q2, z2⟩ := DxAll.reads I M es _ _ h2 r2
        exact ⟨_, .cons q1 q2, fun m => (List.mem_append.mp m).elim z1 z2⟩
end
end
def rReprX (K : PySem.W.Frag) : List V → Hp → VK → Prop := fun xs H Q => ∃ v e, xs = [v] ∧ Dx K H v e ∧ e.showable = true ∧ e.depth ≤ 100 ∧ e.shown.length ≤ sizeLine ∧ Q (.str e.shown) H
section
variable {X : Cx} {g : G} {Wx : WX} {k : Nat} {pos : Pos} {a : Expr} {r : XA}
def toX (S : Sto) : Nat → Va → Option PyData
  | 0, _ => none
  | n + 1, w => match w with
    | .non => some .none
    | .bl b => some (.bool b)
    | .int i => some (.int i)
    | .str y => some (.str y)
    | .tup ws => (allD (toX S n) ws).map .tuple
    | .loc l => match S[l]? with
      | some (.lst ws) => (allD (toX S n) ws).map .list
      | some (.dci []) => some (.dict [])
      | _ => none
    | _ => none
def fReprX (ws : List Va) (S : Sto) : Rs Va := match ws with
  | [w] => match toX S 64 w with
    | some d => bif d.showable && decide (d.depth ≤ 100) && decide (d.shown.length ≤ sizeLine) then .ok (.str d.shown) S else .bad
    | none => .bad
  | _ => .bad
end
mutual
def szX : PyData → Nat
  | .none => 4
  | .bool _ => 5
  | .int _ => 250
  | .str x => 10 * x.length + 2
  | .list xs => szXL xs + 3
  | .tuple xs => szXL xs + 3
  | .dict _ => 2
def szXL : List PyData → Nat
  | [] => 0
  | x :: xs => szX x + 2 + szXL xs
end
mutual
def okX : PyData → Bool
  | .none => true
  | .bool _ => true
  | .int i => decide (i.natAbs.log2 < 200)
  | .str x => x.cps.toList.all fun c => decide (c < 16 ^ 8)
  | .list xs => okXL xs
  | .tuple xs => okXL xs
  | .dict kvs => kvs.isEmpty
def okXL : List PyData → Bool
  | [] => true
  | x :: xs => okX x && okXL xs
end
mutual
theorem shownX_le : ∀ d : PyData, okX d = true → d.shown.length ≤ szX d ∧ d.showable = true
  | .none, _ => ⟨by decide, by simp [PyData.showable]⟩
  | .bool b, _ => ⟨by cases b <;> decide, by simp [PyData.showable]⟩
  | .int i, h => by
    have h' : i.natAbs.log2 < 200 := by simpa [okX] using h
    refine ⟨?_, by simp [PyData.showable]; omega⟩
    have := PySem.int_text_length_le (a := i) (by decide : 0 < 200) h'
    simp only [PyData.shown, szX]
    have e : (Str.ofString (toString i)).length ≤ 201 := by rw [PySem.ofString_length]; exact this
    show (Str.ofString (toString i)).length ≤ 250
    omega
  | .str x, h => by
    have h' : ∀ c ∈ x.cps.toList, c < 16 ^ 8 := fun c hc => by
      have q : (x.cps.toList.all fun c => decide (c < 16 ^ 8)) = true := by simpa only [okX] using h
      exact of_decide_eq_true (List.all_eq_true.mp q c hc)
    refine ⟨?_, by simp [PyData.showable]⟩
    have := StrLaws.reprText_len x h'
    simp only [PyData.shown, szX]
    omega
  | .list xs, h => by
    have h' : okXL xs = true := by simpa [okX] using h
    obtain ⟨h1, h2⟩ := shownXL_le xs h'
    refine ⟨?_, by simpa [PyData.showable] using h2⟩
    have := listText_le (PyData.shownAll xs)
    simp only [PyData.shown, szX]
    omega
  | .tuple xs, h => by
    have h' : okXL xs = true := by simpa [okX] using h
    obtain ⟨h1, h2⟩ := shownXL_le xs h'
    refine ⟨?_, by simpa [PyData.showable] using h2⟩
    have := tupleText_le (PyData.shownAll xs)
    simp only [PyData.shown, szX]
    omega
  | .dict [], _ => ⟨by simp only [PyData.shown, PyData.shownKv, szX]; decide, by simp [PyData.showable, PyData.showableKv]⟩
  | .dict (_ :: _), h => by simp [okX] at h
theorem shownXL_le : ∀ ds : List PyData, okXL ds = true → piled (PyData.shownAll ds) ≤ szXL ds ∧ PyData.showableAll ds = true
  | [], _ => ⟨by simp [PyData.shownAll, piled, szXL], by simp [PyData.showableAll]⟩
  | d :: ds, h => by
    have h' : okX d = true ∧ okXL ds = true := by simpa [okXL] using h
    obtain ⟨a1, a2⟩ := shownX_le d h'.1
    obtain ⟨b1, b2⟩ := shownXL_le ds h'.2
    refine ⟨?_, by simp [PyData.showableAll, a2, b2]⟩
    have p : piled (PyData.shownAll (d :: ds)) = d.shown.length + 2 + piled (PyData.shownAll ds) := by simp [PyData.shownAll, piled]
    simp only [szXL]
    omega
end
def subTb (R A : List Nat) (c d : Nat) : Option Bool := if c ∈ R ∧ d ∈ A then some (decide (c = d)) else none
def exmTb (R : List Nat) (c : Nat) : Bool := decide (c ∈ R)
end Rz
namespace Rz
open PySem PySem.Spec PyProof.Rows L2 PySem.W
section
variable {g : G} {ρ ρ' : List Addr} {H H' : Hp}
theorem Rel.tup' (t : ∀ a vs, SqT g.K H a vs → SqT g.K H' a vs) {w : Va} {v : V} (h : Rel g ρ H w v) : Rel g ρ H' w v :=
  Rel.rec (motive_1 := fun w v _ => Rel g ρ H' w v) (motive_2 := fun ws vs _ => RelL g ρ H' ws vs) .non (fun b => .bl b) (fun i => .int i) (fun x => .str x) (fun n => .ty n)
    (fun s _ ih => .tup (t _ _ s) ih) (fun s => .loc s) (fun c => .cl c) .nil (fun _ _ a b => .cons a b) h
theorem RelL.tup' (t : ∀ a vs, SqT g.K H a vs → SqT g.K H' a vs) : ∀ {ws : List Va} {vs : List V}, RelL g ρ H ws vs → RelL g ρ H' ws vs
  | _, _, .nil => .nil
  | _, _, .cons a b => .cons (a.tup' t) (RelL.tup' t b)
theorem SimE.tup' (t : ∀ a vs, SqT g.K H a vs → SqT g.K H' a vs) {δ : Env} {σ : L2.St} (h : SimE g ρ H δ σ) : SimE g ρ H' δ σ := ⟨h.1, fun i w q => let ⟨v, h1, h2⟩ := h.2 i w q; ⟨v, h1, h2.tup' t⟩⟩
theorem At.tup' {a : Addr} (t : ∀ a vs, SqT g.K H a vs → SqT g.K H' a vs) (k : ∀ u, H a = some u → H' a = some u) {o : Ob} (h : At g ρ H a o) : At g ρ H' a o := by
  cases o with
  | lst ws => obtain ⟨vs, q, r⟩ := h; exact ⟨vs, k _ q, r.tup' t⟩
  | frl ws =>
    rcases h with ⟨o, vs, q, r⟩ | ⟨vs, q, r⟩
    · exact .inl ⟨o, vs, k _ q, r.tup' t⟩
    · exact .inr ⟨vs, q, r.tup' t⟩
  | dct kvs => obtain ⟨L, q, r1, r2, z⟩ := h; exact ⟨L, k _ q, r1.tup' t, r2.tup' t, z⟩
  | frd kvs => obtain ⟨o, L, q, r1, r2, z⟩ := h; exact ⟨o, L, k _ q, r1.tup' t, r2.tup' t, z⟩
  | dci kvs => obtain ⟨L, q, z, r⟩ := h; exact ⟨L, k _ q, z, r.tup' t⟩
  | dcs kvs => obtain ⟨L, q, z, r⟩ := h; exact ⟨L, k _ q, z, r.tup' t⟩
  | sst ws => obtain ⟨L, us, q, r, z⟩ := h; exact ⟨L, us, k _ q, r.tup' t, z⟩
  | ins c fs => obtain ⟨dx, fs', q, z, r⟩ := h; exact ⟨dx, fs', k _ q, z, r.tup' t⟩
  | exo c fs => exact ⟨h.1, k _ h.2⟩
end
def unlS (l : Nat) (S : Sto) : Option Sto := match S[l]? with
  | some (.frd kvs) => some (S.set l (.dct kvs))
  | _ => none
def xlock (x e : XE) : XE := fun δ S => match x δ S with
  | .ok (.loc l) _ => match S[l]? with
    | some (.dct kvs) => match e δ (S.set l (.frd kvs)) with
      | .ok w S' => match unlS l S' with
        | some S2 => .ok w S2
        | none => .bad
      | _ => .bad
    | some (.frd _) => e δ S
    | _ => .bad
  | _ => .bad
def slock (x : XE) (s : XS) : XS := fun δ S => match x δ S with
  | .ok (.loc l) _ => match S[l]? with
    | some (.dct kvs) => match s δ (S.set l (.frd kvs)) with
      | .nx δ' S' => match unlS l S' with
        | some S2 => .nx δ' S2
        | none => .bad
      | .rt w S' => match unlS l S' with
        | some S2 => .rt w S2
        | none => .bad
      | _ => .bad
    | some (.frd _) => s δ S
    | _ => .bad
  | _ => .bad
section
variable {X : Cx} {g : G} {Wx : WX} {k : Nat} {pos : Pos}
end
end Rz
namespace Rz
open PySem PySem.Spec PyProof.Rows L2 PySem.W
section
variable {X : Cx} {pins : List (Addr × Obj)} {σ : L2.St} {H : Hp} {s : Shared} {d : Addr} {o : Obj} {L : List (NestedKey × Addr × V)}
end
def Itn (P : Program) (w : World) (d : Addr) (o : Obj) (L : List (NestedKey × Addr × V)) : It :=
  ⟨fun i H => H d = some (.frz o (dN P w d L)) ∧ i < L.length, fun i H x H' => H' = H ∧ ∃ r, L[i]? = some r ∧ x = .ref r.2.1, fun i H => H d = some (.frz o (dN P w d L)) ∧ L.length ≤ i⟩
def Itp (P : Program) (w : World) (d : Addr) (o : Obj) (L : List (NestedKey × Addr × V)) : It :=
  ⟨fun i H => H d = some (.frz o (dN P w d L)) ∧ i < L.length, fun i H x H' => ∃ T r, L[i]? = some r ∧ x = .ref T ∧ H T = none ∧ H' = upd H T (.tup [.ref r.2.1, r.2.2]), fun i H => H d = some (.frz o (dN P w d L)) ∧ L.length ≤ i⟩
section
variable {P : Program} {w : World} {K : PySem.W.Frag} {tg : Expr} {d : Addr} {o : Obj} {es : Array DictEntry} {ep : Nat} {L : List (NestedKey × Addr × V)}
end
def iKeysN (P : Program) (w : World) (td : TE) : TI := fun σ H R => td σ H fun x H1 => ∃ d o L, x = .ref d ∧ H1 d = some (.frz o (dN P w d L)) ∧ R (Itn P w d o L) H1
def iItemsN (P : Program) (w : World) (td : TE) : TI := fun σ H R => td σ H fun x H1 => ∃ d o L, x = .ref d ∧ H1 d = some (.frz o (dN P w d L)) ∧ R (Itp P w d o L) H1
section
variable {X : Cx} {tg e : Expr} {td : TE} {apos cpos : Pos}
end
@[simp] def ikeys (x : XE) : XI := fun δ S => (x δ S).bind fun w S1 => match w with
  | .loc l => match S1[l]? with
    | some (.frd kvs) => .ok (kvs.length + 1, nseq (kvs.map Prod.fst)) S1
    | _ => .bad
  | _ => .bad
@[simp] def iitems (x : XE) : XI := fun δ S => (x δ S).bind fun w S1 => match w with
  | .loc l => match S1[l]? with
    | some (.frd kvs) => .ok (kvs.length + 1, nseq (kvs.map fun p => .tup [p.1, p.2])) S1
    | _ => .bad
  | _ => .bad
section
variable {g : G}
end
section
variable {X : Cx} {g : G} {Wx : WX} {k : Nat} {tg e : Expr} {x : XE} {apos cpos : Pos}
end
end Rz
namespace Rz
open PySem PySem.Spec PyProof.Rows L2 PySem.W
section
variable {X : Cx} {pins : List (Addr × Obj)} {σ : L2.St} {H : Hp} {s : Shared} {d : Addr} {L : List (NestedKey × Addr × V)}
end
def rLenN (P : Program) (w : World) : List V → Hp → VK → Prop := fun xs H Q => ∃ a L, xs = [V.ref a] ∧ Rd H a (dN P w a L) ∧ Q (.int L.length) H
def rTruN (P : Program) (w : World) : V → Hp → (Bool → Hp → Prop) → Prop := fun x H Q => ∃ a L, x = .ref a ∧ Rd H a (dN P w a L) ∧ Q (!L.isEmpty) H
def rIsN (P : Program) (w : World) (K : PySem.W.Frag) : List V → Hp → VK → Prop := fun xs H Q => ∃ a L n b, xs = [V.ref a, .ty n] ∧ Rd H a (dN P w a L) ∧ PySem.W.kitOne K (.type "dict") (.type n) = some b ∧ Q (.bl b) H
def fLenD (ws : List Va) (S : Sto) : Rs Va := match ws with
  | [w] => match dctAt w S with
    | some kvs => .ok (.int kvs.length) S
    | none => .bad
  | _ => .bad
def truD (w : Va) (S : Sto) : Rs Bool := match dctAt w S with
  | some kvs => .ok (!kvs.isEmpty) S
  | none => .bad
def xtruD (x : XE) : XT := fun δ S => (x δ S).bind truD
def fIsD (ws : List Va) (S : Sto) : Rs Va := match ws with
  | [w, .ty n] => match dctAt w S with
    | some _ => if n < 7 then .ok (.bl (isK 6 n)) S else .bad
    | none => .bad
  | _ => .bad
section
variable {g : G}
end
section
variable {X : Cx} {g : G} {Wx : WX} {k : Nat} {pos : Pos} {a b : Expr} {x : XE} {r : XA}
end
end Rz
namespace Rz
open PySem PySem.Spec PyProof.Rows L2 PySem.W
def DSet (X : Cx) (rp : Addr → V → V → Hp → (Hp → Prop) → Prop) : Prop := ∀ (pins : List (Addr × Obj)) (s : Shared) (σ : L2.St) (H : Hp) (D : Addr) (y z : V) (u r : Value) (Q : Hp → Prop) (E : Value → Shared → Prop),
  Inv X pins σ H s → RelV y u → RelV z r → rp D y z H Q → wpAny (model X.prog X.w) X.A (dictSet D u r) (fun _ s' => ∃ H', Inv X pins σ H' s' ∧ Q H') E s
def DNew (P : Program) (w : World) (ob : Addr → HO) : Prop := ∀ (H : Hp) (h : Heap), sysModules < h.objs.size → ObjOk P w H (h.push { cls := .type "dict", data := .dict #[] }) h.objs.size (ob h.objs.size)
def Turns (ob : Addr → HO) (rp : Addr → V → V → Hp → (Hp → Prop) → Prop) (tg : TG) (tt : TT) (tk tv : TE) (vs : List Nat) (σ : L2.St) (J : It) (D : Addr) (H0 : Hp) (Q : VK) : Prop :=
  ∃ W : Nat → Nat → Hp → Prop, (∃ m, W 0 m (upd H0 D (ob D))) ∧ ∀ i m H, W i m H → (J.stop i H ∧ Q (.ref D) H) ∨ (J.go i H ∧ ∃ Nx : Hp → Prop, (∀ H', Nx H' → ∃ m', m' < m ∧ W (i + 1) m' H') ∧
    ∀ x H', J.yld i H x H' → tg x (wipe σ vs) H' fun σ2 H2 => wipe σ2 vs = wipe σ vs ∧ tt σ2 H2 fun b H3 => if b = true then tk σ2 H3 fun y H4 => tv σ2 H4 fun z H5 => rp D y z H5 Nx else Nx H3)
def tDcG (ob : Addr → HO) (rp : Addr → V → V → Hp → (Hp → Prop) → Prop) (wi : TI) (tg : TG) (tt : TT) (tk tv : TE) (vs : List Nat) : TE := fun σ H Q => wi σ H fun J H1 => ∀ D, H1 D = none → Turns ob rp tg tt tk tv vs σ J D H1 Q
section
variable {X : Cx}
end
section
variable {X : Cx}
def rDset (K : PySem.W.Frag) (P : Program) (w : World) : Addr → V → V → Hp → (Hp → Prop) → Prop := fun D y z H Q => ∃ L b k, y = .ref b ∧ H D = some (dN P w D L) ∧ DAt K P w H D L ∧ KOk K H k b ∧ L.length < sizeLine ∧ (∀ r ∈ L, r.1.depth ≤ 8) ∧ k.depth ≤ 8 ∧ Q (upd H D (dN P w D (storN L k b z)))
end
def dcG (nth : Nth) (put : XP) (cond : XT) (kx vx : XE) (D : Nat) (δ : Env) : Nat → Nat → Sto → Rs Va
  | 0, _, _ => .bad
  | n + 1, i, S => match nth S i with
    | none => .bad
    | some none => .ok (.loc D) S
    | some (some w) => match put w δ with
      | none => .bad
      | some δ1 => match cond δ1 S with
        | .ok false S1 => dcG nth put cond kx vx D δ n (i + 1) S1
        | .ok true S1 => match kx δ1 S1 with
          | .ok y S2 => match vx δ1 S2 with
            | .ok z S3 => match S3[D]?, keyT y with
              | some (.dct kvs), some k => bif fits (kvs.length + 1) then dcG nth put cond kx vx D δ n (i + 1) (S3.set D (.dct (stD kvs y k z))) else .bad
              | _, _ => .bad
            | _ => .bad
          | _ => .bad
        | _ => .bad
@[simp] def xdcomp (vs : List Nat) (x : XI) (put : XP) (cond : XT) (kx vx : XE) : XE := fun δ S => (x δ S).bind fun a S1 => dcG a.2 put cond kx vx S1.length (wipeE δ vs) a.1 0 (S1 ++ [.dct []])
section
variable {X : Cx} {g : G} {Wx : WX} {k : Nat} {pos : Pos}
end
end Rz
namespace Rz
open PySem PySem.Spec PyProof.Rows L2 PySem.W
section
variable {X : Cx} {k : Nat} {pins : List (Addr × Obj)} {σ : L2.St} {H : Hp} {s : Shared} {d : Addr} {L : List (NestedKey × Addr × V)}
def rSrtD (K : PySem.W.Frag) (P : Program) (w : World) : List V → Hp → VK → Prop := fun xs H Q => ∃ (β : Type) (a : Addr) (L : List (NestedKey × Addr × V)) (bs : List β) (f : β → V) (d : β → PyData), xs = [.ref a] ∧ Rd H a (dN P w a L) ∧ L.map (fun r => V.ref r.2.1) = bs.map f ∧ Sx.DList K H bs f d ∧ ∀ p, H p = none → Q (.ref p) (upd H p (.lst ((bs.mergeSort (Sx.dle d)).map f)))
def rListD (P : Program) (w : World) : List V → Hp → VK → Prop := fun xs H Q => ∃ (a : Addr) (L : List (NestedKey × Addr × V)), xs = [.ref a] ∧ Rd H a (dN P w a L) ∧ ∀ p, H p = none → Q (.ref p) (upd H p (.lst (L.map fun r => V.ref r.2.1)))
end
def fSrtD (ws : List Va) (S : Sto) : Rs Va := match ws with
  | [w] => match dctAt w S with
    | some kvs => bif sortV (kvs.map Prod.fst) then llst (vsort (kvs.map Prod.fst)) S else .bad
    | none => .bad
  | _ => .bad
def fListD (ws : List Va) (S : Sto) : Rs Va := match ws with
  | [w] => match dctAt w S with
    | some kvs => llst (kvs.map Prod.fst) S
    | none => .bad
  | _ => .bad
section
variable {g : G}
end
section
variable {X : Cx} {g : G} {Wx : WX} {k : Nat} {pos : Pos} {a : Expr} {r : XA}
end
end Rz
namespace Rz
open PySem PySem.Spec PyProof.Rows L2 PySem.W
section
variable {prog : Program} {w : World} {A : Around} {E : Value → Shared → Prop} {s : Shared}
abbrev EN := NestedKey × Addr × Value
inductive HitsN (prog : Program) (w : World) (A : Around) (s : Shared) (xb : List EN) : List EN → Bool → Prop
  | nil : HitsN prog w A s xb [] true
  | miss {x : EN} {r : List EN} (h : atKey xb x.1 = none) : HitsN prog w A s xb (x :: r) false
  | hit {x : EN} {r : List EN} {p : Addr × Value} {e b : Bool} (h : atKey xb x.1 = some p) (q : SeqAt.EqP prog w A s x.2.2 p.2 e) (rest : HitsN prog w A s xb r b) : HitsN prog w A s xb (x :: r) (e && b)
end
abbrev VN := NestedKey × Addr × V
inductive EqL (K : PySem.W.Frag) (H : Hp) (Lb : List VN) : List VN → Bool → Prop
  | nil : EqL K H Lb [] true
  | miss {x : VN} {r : List VN} (h : valN Lb x.1 = none) : EqL K H Lb (x :: r) false
  | hit {x : VN} {r : List VN} {y : V} {d e : PyData} {b : Bool} (h : valN Lb x.1 = some y) (dx : Dp K H x.2.2 d) (dy : Dp K H y e) (sx : SeqAt.shaped d = true) (sy : SeqAt.shaped e = true) (rest : EqL K H Lb r b) : EqL K H Lb (x :: r) (PyData.eqv d e && b)
section
variable {X : Cx} {k : Nat} {pins : List (Addr × Obj)} {σ : L2.St} {H : Hp} {s : Shared}
def rEqN (K : PySem.W.Frag) (P : Program) (w : World) : R2 := fun x y H Q => ∃ a b La Lb r, x = .ref a ∧ y = .ref b ∧ DAt K P w H a La ∧ DAt K P w H b Lb ∧ (La.length = Lb.length → EqL K H Lb La r) ∧ Q (.bl (La.length == Lb.length && r)) H
end
def eqK (S : Sto) (kb : List (Va × Va)) : List (Va × Va) → Option Bool
  | [] => some true
  | p :: r => match nkV p.1 with
    | none => none
    | some k => match valD kb k with
      | none => some false
      | some y => match toD S 64 p.2, toD S 64 y, eqK S kb r with
        | some d, some e, some b => bif SeqAt.shaped d && SeqAt.shaped e then some (PyData.eqv d e && b) else none
        | _, _, _ => none
def cEqD (a b : Va) (S : Sto) : Rs Bool := match dctAt a S, dctAt b S with
  | some ka, some kb => if ka.length = kb.length then (match eqK S kb ka with | some r => .ok r S | none => .bad) else .ok false S
  | _, _ => .bad
section
variable {g : G}
end
section
variable {X : Cx} {g : G} {Wx : WX} {k : Nat} {pos : Pos} {a b : Expr} {x y : XE}
end
end Rz
namespace Rz
open PySem PySem.Spec PyProof.Rows L2 PySem.W
def rIsXT (K : PySem.W.Frag) : List V → Hp → VK → Prop := fun xs H Q => ∃ (a D tp : Addr) (cs : List Addr) (b : Bool), xs = [.ref a, .ref tp] ∧ H a = some (exH (.ref D) a) ∧ ExcC K D ∧ SqT K H tp (cs.map V.ref) ∧ PySem.W.kitAny K (.ref D) (cs.map Value.ref) = some b ∧ Q (.bl b) H
def anyX (tbl : Nat → Nat → Option Bool) (c : Nat) : List Va → Option Bool
  | [] => some false
  | .cl d :: r => match tbl c d, anyX tbl c r with
    | some b, some t => some (b || t)
    | _, _ => none
  | _ :: _ => none
def fIsXT (tbl : Nat → Nat → Option Bool) (ws : List Va) (S : Sto) : Rs Va := match ws with
  | [.loc l, .tup (y :: cs)] => match S[l]? with
    | some (.exo c []) => match anyX tbl c (y :: cs) with
      | some b => .ok (.bl b) S
      | none => .bad
    | _ => .bad
  | _ => .bad
section
variable {g : G}
end
section
variable {X : Cx} {g : G} {Wx : WX} {k : Nat} {pos : Pos} {a b : Expr} {r : XA} {tbl : Nat → Nat → Option Bool}
end
end Rz
namespace Rz
open PySem PySem.Spec PyProof.Rows L2 PySem.W
section
variable {X : Cx} {g : G} {Wx : WX} {k : Nat} {pos : Pos}
end
end Rz
namespace Rz
open PySem PySem.Spec PyProof.Rows L2 PySem.W
def cLtT (a b : Va) (S : Sto) : Rs Bool := match a, b with
  | .tup xs, .tup ys => match intsV xs, intsV ys with
    | some ns, some ms => .ok (HT.lexLt ns ms) S
    | _, _ => .bad
  | _, _ => .bad
section
variable {g : G}
end
section
variable {X : Cx} {g : G} {Wx : WX} {k : Nat} {pos : Pos} {a b : Expr} {x y : XE}
end
end Rz
namespace Rz
open PySem PySem.Spec PyProof.Rows L2 PySem.W
abbrev Xp := Nat → List Va → Sto → Prop
@[irreducible] def wr {α : Type} (r : Rs α) (Q : α → Sto → Prop) (E : Xp) : Prop := match r with
  | .ok a S => Q a S
  | .ex c fs S => E c fs S
  | .bad => False
structure Ke where
  rt : Va → Sto → Prop
  bk : Env → Sto → Prop
  ct : Env → Sto → Prop
  ex : Env → Xp
@[irreducible] def wo (o : Out) (N : Env → Sto → Prop) (K : Ke) : Prop := match o with
  | .nx δ S => N δ S
  | .rt w S => K.rt w S
  | .bk δ S => K.bk δ S
  | .ct δ S => K.ct δ S
  | .ex c fs δ S => K.ex δ c fs S
  | .bad => False
def noE : Xp := fun _ _ _ => False
def fnK (Q : Va → Sto → Prop) (E : Xp) : Ke := ⟨Q, fun _ _ => False, fun _ _ => False, fun _ => E⟩
def FnGo (n : Nat) (m : List Va → Sto → Rs Va) (us : List Va) (S : Sto) (Q : Va → Sto → Prop) (E : Xp) : Prop := us.length = n ∧ wr (m us S) Q E
def TupGo (us : List Va) (S : Sto) (Q : Va → Sto → Prop) : Prop := us.length ≤ 16777216 ∧ Q (.tup us) S
def LstGo (us : List Va) (S : Sto) (Q : Va → Sto → Prop) : Prop := us.length ≤ 16777216 ∧ ∀ l T, l = S.length → T.length = S.length + 1 → Keep S T → T[l]? = some (.lst us) → Q (.loc l) T
def ParGo (is : List Nat) (us : List Va) (δ : Env) (S : Sto) (N : Env → Sto → Prop) : Prop := us.length = is.length ∧ N ((is.zip us).foldl (fun d p => d.set p.1 (some p.2)) δ) S
def AsgGo (put : XP) (w : Va) (δ : Env) (S : Sto) (N : Env → Sto → Prop) : Prop := ∃ δ1, put w δ = some δ1 ∧ N δ1 S
def BlGo (w : Va) (A B : Prop) : Prop := ∃ t, w = .bl t ∧ bif t then A else B
def MetGo (f : Va → List Va → Sto → Rs Va) (w : Va) (S : Sto) (P : Prop) : Prop := ∃ l ws, w = .loc l ∧ S[l]? = some (.lst ws) ∧ P
def FldGo (c i : Nat) (w : Va) (S : Sto) (Q : Va → Sto → Prop) : Prop := ∃ l fs v, w = .loc l ∧ S[l]? = some (.ins c fs) ∧ fs[i]? = some v ∧ Q v S
def NewGo (c n : Nat) (m : List Va → Sto → Rs Va) (us : List Va) (S : Sto) (Q : Va → Sto → Prop) (E : Xp) : Prop := us.length + 1 = n ∧ wr (m (.loc S.length :: us) (S ++ [.ins c []])) (fun v U => v = .non ∧ Q (.loc S.length) U) E
def PropGo (c : Nat) (m : List Va → Sto → Rs Va) (w : Va) (S : Sto) (Q : Va → Sto → Prop) : Prop := ∃ l fs, w = .loc l ∧ S[l]? = some (.ins c fs) ∧ wr (m [w] S) Q noE
def IsqGo (w : Va) (S : Sto) (Q : Nat × Nth → Sto → Prop) : Prop := (∃ ws, w = .tup ws ∧ Q (ws.length + 1, nseq ws) S) ∨ ∃ l ws, w = .loc l ∧ S[l]? = some (.lst ws) ∧ Q (ws.length + 1, nloc l) S
def RngGo (w : Va) (S : Sto) (Q : Nat × Nth → Sto → Prop) : Prop := ∃ n : Nat, w = .int n ∧ n ≤ 100000 ∧ Q (n + 1, nrng 0 n) S
def noK : Ke := ⟨fun _ _ => False, fun _ _ => False, fun _ _ => False, fun _ => noE⟩
def Ke.lp (K : Ke) (N C : Env → Sto → Prop) : Ke := ⟨K.rt, N, C, K.ex⟩
section
variable {α β : Type} {r : Rs α} {Q : α → Sto → Prop} {QV : Va → Sto → Prop} {QB : Bool → Sto → Prop} {QA : List Va → Sto → Prop} {E : Xp} {o : Out} {N : Env → Sto → Prop} {K : Ke}
variable {δ δ1 : Env} {S S1 : Sto} {x y z : XE} {as : XA} {p q : XT} {s t : XS} {a b v w : Va} {ws us : List Va} {i l n m : Nat}
theorem wr.mono {Q' : α → Sto → Prop} (h : wr r Q E) (k : ∀ a S, Q a S → Q' a S) : wr r Q' E := by
  cases r with
  | ok a S => with_unfolding_all exact k a S h
  | ex c fs S => with_unfolding_all exact h
  | bad => with_unfolding_all exact h
theorem wr.mono2 {Q' : α → Sto → Prop} {E' : Xp} (h : wr r Q E) (k : ∀ a S, Q a S → Q' a S) (k2 : ∀ c fs S, E c fs S → E' c fs S) : wr r Q' E' := by
  cases r with
  | ok a S => with_unfolding_all exact k a S h
  | ex c fs S => with_unfolding_all exact k2 c fs S h
  | bad => with_unfolding_all exact h
theorem wr.use {Q' : α → Sto → Prop} (h : wr r Q noE) (k : ∀ a S, Q a S → Q' a S) : wr r Q' E := h.mono2 k fun _ _ _ z => (z : False).elim
theorem wr_of {a : α} (h : r = .ok a S) (k : Q a S) : wr r Q E := by rw [h]; with_unfolding_all exact k
theorem wr_bind {f : α → Sto → Rs β} {Q : β → Sto → Prop} (h : wr r (fun a S => wr (f a S) Q E) E) : wr (r.bind f) Q E := by
  cases r with
  | ok a S => with_unfolding_all exact h
  | ex c fs S => with_unfolding_all exact h
  | bad => with_unfolding_all exact h
theorem wo_out {f : α → Sto → Out} (h : wr r (fun a S => wo (f a S) N K) (K.ex δ)) : wo (r.out δ f) N K := by
  cases r with
  | ok a S => with_unfolding_all exact h
  | ex c fs S => with_unfolding_all exact h
  | bad => with_unfolding_all exact h
theorem ok_of {a : α} {P : Sto → Prop} (h : wr r (fun v T => v = a ∧ P T) noE) : ∃ T, r = .ok a T ∧ P T := by
  cases r with
  | ok b S =>
    unfold wr at h
    dsimp only at h
    exact ⟨S, by rw [h.1], h.2⟩
  | ex c fs S => with_unfolding_all exact h.elim
  | bad => with_unfolding_all exact h.elim
theorem ok_ex {P : α → Sto → Prop} (h : wr r P noE) : ∃ a T, r = .ok a T ∧ P a T := by
  cases r with
  | ok b S =>
    unfold wr at h
    dsimp only at h
    exact ⟨b, S, rfl, h⟩
  | ex c fs S => with_unfolding_all exact h.elim
  | bad => with_unfolding_all exact h.elim
theorem wo.mono {N' : Env → Sto → Prop} (h : wo o N K) (k : ∀ δ S, N δ S → N' δ S) : wo o N' K := by
  cases o with
  | nx δ S => with_unfolding_all exact k δ S h
  | _ => with_unfolding_all exact h
theorem wo.use {N' : Env → Sto → Prop} (h : wo o N noK) (k : ∀ δ S, N δ S → N' δ S) : wo o N' K := by
  cases o with
  | nx δ S => with_unfolding_all exact k δ S h
  | _ => with_unfolding_all exact h.elim
theorem wo_of (h : o = .nx δ S) (k : N δ S) : wo o N K := by rw [h]; with_unfolding_all exact k
theorem wr_lit (h : QV w S) : wr (xlit w δ S) QV E := by with_unfolding_all exact h
theorem wr_var (h : δ[i]? = some (some w)) (k : QV w S) : wr (xvar i δ S) QV E := by
  unfold xvar
  rw [h]
  with_unfolding_all exact k
theorem wr_bin {f : Va → Va → Sto → Rs Va} (h : wr (x δ S) (fun a S1 => wr (y δ S1) (fun b S2 => wr (f a b S2) QV E) E) E) : wr (xbin f x y δ S) QV E := wr_bind (h.mono fun _ _ h => wr_bind h)
theorem wr_binB {f : Va → Va → Sto → Rs Bool} (h : wr (x δ S) (fun a S1 => wr (y δ S1) (fun b S2 => wr (f a b S2) QB E) E) E) : wr (xbinB f x y δ S) QB E := wr_bind (h.mono fun _ _ h => wr_bind h)
theorem wr_un {f : Va → Sto → Rs Va} (h : wr (x δ S) (fun a S1 => wr (f a S1) QV E) E) : wr (xun f x δ S) QV E := wr_bind h
theorem wr_boo (h : wr (p δ S) (fun b S1 => QV (.bl b) S1) E) : wr (xboo p δ S) QV E := wr_bind (h.mono fun _ _ h => by with_unfolding_all exact h)
theorem wr_not (h : wr (p δ S) (fun b S1 => QB (!b) S1) E) : wr (xnot p δ S) QB E := wr_bind (h.mono fun _ _ h => by with_unfolding_all exact h)
theorem wr_and (h : wr (p δ S) (fun b S1 => bif b then wr (q δ S1) QB E else QB false S1) E) : wr (xand p q δ S) QB E := wr_bind (h.mono fun b S h => by cases b <;> with_unfolding_all exact h)
theorem wr_or (h : wr (p δ S) (fun b S1 => bif b then QB true S1 else wr (q δ S1) QB E) E) : wr (xor p q δ S) QB E := wr_bind (h.mono fun b S h => by cases b <;> with_unfolding_all exact h)
theorem wr_ite (h : wr (p δ S) (fun b S1 => bif b then wr (x δ S1) QV E else wr (y δ S1) QV E) E) : wr (xite p x y δ S) QV E := wr_bind (h.mono fun b S h => by cases b <;> with_unfolding_all exact h)
theorem wr_nil (h : QA [] S) : wr (anil δ S) QA E := by with_unfolding_all exact h
theorem wr_cons (h : wr (x δ S) (fun a S1 => wr (as δ S1) (fun us S2 => QA (a :: us) S2) E) E) : wr (acons x as δ S) QA E := by with_unfolding_all exact wr_bind (h.mono fun _ _ h => wr_bind h)
theorem wr_call {f : List Va → Sto → Rs Va} (h : wr (as δ S) (fun us S1 => wr (f us S1) QV E) E) : wr (xcall f as δ S) QV E := wr_bind h
theorem wr_fn {f : List Va → Sto → Rs Va} (h : wr (as δ S) (fun us S1 => FnGo n f us S1 QV E) E) : wr (ycall n f as δ S) QV E := wr_bind (h.mono fun us S h => by rw [if_pos h.1]; with_unfolding_all exact h.2)
theorem wr_tup (h : wr (as δ S) (fun us S1 => TupGo us S1 QV) E) : wr (xtup as δ S) QV E := wr_bind (h.mono fun us S h => by rw [ltup_eq S h.1]; with_unfolding_all exact h.2)
theorem wr_lst (h : wr (as δ S) (fun us S1 => LstGo us S1 QV) E) : wr (xlst as δ S) QV E :=
  wr_bind (h.mono fun us S h => by rw [llst_eq S h.1]; with_unfolding_all exact h.2 _ _ rfl (by simp) (Keep.app _ _) (get_new _ _ _))
theorem wr_llst (h0 : us.length ≤ 16777216) (h : ∀ l T, l = S.length → T.length = S.length + 1 → Keep S T → T[l]? = some (.lst us) → QV (.loc l) T) : wr (llst us S) QV E := by
  rw [llst_eq S h0]; with_unfolding_all exact h _ _ rfl (by simp) (Keep.app _ _) (get_new _ _ _)
theorem wr_isN (h : wr (x δ S) (fun w S1 => QB (match w with | .non => true | _ => false) S1) E) : wr (xisN x δ S) QB E := wr_bind (h.mono fun w S h => by cases w <;> with_unfolding_all exact h)
theorem wr_tru (h : wr (x δ S) (fun w S1 => wr (truV w S1) QB E) E) : wr (xtru x δ S) QB E := wr_bind h
theorem wr_yes (h : QB true S) : wr (xyes δ S) QB E := by with_unfolding_all exact h
theorem wr_andV (h : wr (x δ S) (fun w S1 => BlGo w (wr (y δ S1) QV E) (QV (.bl false) S1)) E) : wr (xandV x y δ S) QV E := wr_bind (h.mono fun w S ⟨t, e, h⟩ => by
  subst e
  cases t <;> with_unfolding_all exact h)
theorem wr_orV (h : wr (x δ S) (fun w S1 => BlGo w (QV (.bl true) S1) (wr (y δ S1) QV E)) E) : wr (xorV x y δ S) QV E := wr_bind (h.mono fun w S ⟨t, e, h⟩ => by
  subst e
  cases t <;> with_unfolding_all exact h)
theorem wr_notV (h : wr (x δ S) (fun w S1 => BlGo w (QV (.bl false) S1) (QV (.bl true) S1)) E) : wr (xnotV x δ S) QV E := wr_bind (h.mono fun w S ⟨t, e, h⟩ => by
  subst e
  cases t <;> with_unfolding_all exact h)
theorem wr_orT (h : wr (x δ S) (fun w S1 => wr (truV w S1) (fun t S2 => bif t then QV w S2 else wr (y δ S2) QV E) E) E) : wr (xorT x y δ S) QV E := wr_bind (h.mono fun w S h => wr_bind (h.mono fun t S h => by cases t <;> with_unfolding_all exact h))
theorem wr_chain {f f' : Va → Va → Sto → Rs Bool} (h : wr (x δ S) (fun u S1 => wr (y δ S1) (fun v S2 => wr (f u v S2) (fun t S3 => bif t then wr (z δ S3) (fun w S4 => wr (f' v w S4) QB E) E else QB false S3) E) E) E) : wr (xchain f f' x y z δ S) QB E :=
  wr_bind (h.mono fun _ _ h => wr_bind (h.mono fun _ _ h => wr_bind (h.mono fun t S h => by cases t with
    | false => with_unfolding_all exact h
    | true => exact wr_bind h)))
theorem wr_addI {i j : Int} (h : QV (.int (i + j)) S) : wr (oAdd (.int i) (.int j) S) QV E := by with_unfolding_all exact h
theorem wr_addL {l m : Nat} (h1 : S[l]? = some (.lst ws)) (h2 : S[m]? = some (.lst us)) (h0 : (ws ++ us).length ≤ 16777216) (h : ∀ d T, d = S.length → T.length = S.length + 1 → Keep S T → T[d]? = some (.lst (ws ++ us)) → QV (.loc d) T) : wr (oAdd (.loc l) (.loc m) S) QV E := by
  unfold oAdd
  dsimp only
  rw [h1, h2]
  exact wr_llst h0 h
theorem wr_subI {i j : Int} (h : QV (.int (i - j)) S) : wr (oSub (.int i) (.int j) S) QV E := by with_unfolding_all exact h
theorem wr_mulR {i j : Int} (h1 : -(2 ^ 64) < j) (h2 : j < 2 ^ 64) (h : QV (.int (i * j)) S) : wr (oMul (.int i) (.int j) S) QV E := wr_of (oMul_r S h1 h2) h
theorem wr_mulL {i j : Int} (h1 : -(2 ^ 64) < i) (h2 : i < 2 ^ 64) (h : QV (.int (i * j)) S) : wr (oMul (.int i) (.int j) S) QV E := wr_of (oMul_l S h1 h2) h
theorem wr_divI {i j : Int} (h1 : 0 < j) (h2 : j < 1073741824) (h : QV (.int (i / j)) S) : wr (oDiv (.int i) (.int j) S) QV E := wr_of (div_at h1 h2) h
theorem wr_modI {i j : Int} (h1 : 0 < j) (h : QV (.int (i % j)) S) : wr (oMod (.int i) (.int j) S) QV E := wr_of (mod_at h1) h
theorem wr_neg {i : Int} (h : QV (.int (-i)) S) : wr (oNeg (.int i) S) QV E := by with_unfolding_all exact h
theorem wr_lt {i j : Int} (h : QB (decide (i < j)) S) : wr (cLt (.int i) (.int j) S) QB E := by with_unfolding_all exact h
theorem wr_le {i j : Int} (h : QB (decide (i ≤ j)) S) : wr (cLe (.int i) (.int j) S) QB E := by with_unfolding_all exact h
theorem wr_gt {i j : Int} (h : QB (decide (j < i)) S) : wr (cGt (.int i) (.int j) S) QB E := by with_unfolding_all exact h
theorem wr_ge {i j : Int} (h : QB (decide (j ≤ i)) S) : wr (cGe (.int i) (.int j) S) QB E := by with_unfolding_all exact h
theorem wr_eqS {t : Bool} (e : scE a b = some t) (h : QB t S) : wr (cEq a b S) QB E := by
  unfold cEq
  rw [e]
  with_unfolding_all exact h
theorem wr_ne (h : wr (cEq a b S) (fun t S1 => QB (!t) S1) E) : wr (cNe a b S) QB E := wr_bind (h.mono fun _ _ h => by with_unfolding_all exact h)
theorem wr_isB {i j : Bool} (h : QB (decide (i = j)) S) : wr (cIs (.bl i) (.bl j) S) QB E := by with_unfolding_all exact h
theorem wr_isnB {i j : Bool} (h : QB (!decide (i = j)) S) : wr (cIsn (.bl i) (.bl j) S) QB E := by with_unfolding_all exact h
theorem wr_ixT {j : Int} (h2 : atI ws j = some w) (h : QV w S) : wr (oIx (.tup ws) (.int j) S) QV E := wr_of (ixT_at h2) h
theorem wr_ixL {j : Int} (h1 : S[l]? = some (.lst ws)) (h2 : atI ws j = some w) (h : QV w S) : wr (oIx (.loc l) (.int j) S) QV E := wr_of (ix_at (getL_lst h1) h2) h
theorem wr_trB {t : Bool} (h : QB t S) : wr (truV (.bl t) S) QB E := by with_unfolding_all exact h
theorem wr_trL (h1 : S[l]? = some (.lst ws)) (h : QB (!ws.isEmpty) S) : wr (truV (.loc l) S) QB E := by
  unfold truV
  dsimp only
  rw [getL_lst h1]
  with_unfolding_all exact h
theorem wr_lenL (h1 : S[l]? = some (.lst ws)) (h : QV (.int ws.length) S) : wr (fLen [.loc l] S) QV E := wr_of (len_at (getL_lst h1)) h
theorem wr_lenT (h : QV (.int ws.length) S) : wr (fLen [.tup ws] S) QV E := wr_of lenT_at h
theorem wr_intI {i : Int} (h : QV (.int i) S) : wr (fInt [.int i] S) QV E := by with_unfolding_all exact h
theorem wr_tupL (h1 : S[l]? = some (.lst ws)) (h0 : ws.length ≤ 16777216) (h : QV (.tup ws) S) : wr (fTup [.loc l] S) QV E := by
  unfold fTup
  dsimp only
  rw [getL_lst h1]
  exact wr_of (ltup_eq S h0) h
theorem wr_lsL (h1 : S[l]? = some (.lst ws)) (h0 : ws.length ≤ 16777216) (h : ∀ d T, d = S.length → T.length = S.length + 1 → Keep S T → T[d]? = some (.lst ws) → QV (.loc d) T) : wr (fList [.loc l] S) QV E := by
  unfold fList itm
  dsimp only
  rw [getL_lst h1]
  exact wr_llst h0 h
theorem wr_abs {i : Int} (h : QV (.int (if i < 0 then -i else i)) S) : wr (fAbs [.int i] S) QV E := by with_unfolding_all exact h
theorem wr_min2 {i j : Int} (h : QV (.int (if j < i then j else i)) S) : wr (fMin2 [.int i, .int j] S) QV E := by with_unfolding_all exact h
theorem wr_allL {bs : List Bool} (h1 : S[l]? = some (.lst (bs.map .bl))) (h : QV (.bl (bs.all id)) S) : wr (fAll [.loc l] S) QV E := by
  have e : bools (bs.map Va.bl) = some bs := by
    clear h h1
    induction bs with
    | nil => rfl
    | cons a r ih =>
      rw [List.map_cons]
      unfold bools
      rw [ih]
  unfold fAll
  dsimp only
  rw [getL_lst h1]
  dsimp only
  rw [e]
  with_unfolding_all exact h
theorem lt_of {o : Ob} (h : S[l]? = some o) : l < S.length := (List.getElem?_eq_some_iff.mp h).1
theorem wr_met {f : Va → List Va → Sto → Rs Va} (h : wr (x δ S) (fun w S1 => MetGo f w S1 (wr (as δ S1) (fun us S2 => wr (f w us S2) QV E) E)) E) : wr (xmetL f x as δ S) QV E := by
  refine wr_bind (h.mono fun w S ⟨l, ws, e1, e2, h⟩ => ?_)
  subst e1
  rw [if_pos (isL_of e2)]
  exact wr_bind h
theorem wr_met0 {f : Va → List Va → Sto → Rs Va} (h : wr (x δ S) (fun w S1 => MetGo f w S1 (wr (f w [] S1) QV E)) E) : wr (xmet0 f x δ S) QV E := by
  refine wr_bind (h.mono fun w S ⟨l, ws, e1, e2, h⟩ => ?_)
  subst e1
  rw [if_pos (isL_of e2)]
  with_unfolding_all exact h
theorem wr_app (h1 : S[l]? = some (.lst ws)) (h0 : ws.length < 16777216) (h : ∀ T, T.length = S.length → KeepB l S T → T[l]? = some (.lst (ws ++ [w])) → QV .non T) : wr (oApp (.loc l) [w] S) QV E := by
  rw [oApp_eq h1 h0]
  with_unfolding_all exact h _ (by simp) (KeepB.set _ _ _) (List.getElem?_set_self (lt_of h1))
theorem wr_pop {k : Nat} {j : Int} (h1 : S[l]? = some (.lst ws)) (hk : ixN ws.length j = some k) (hb : big j = true) (hy : ws[k]? = some w) (h : ∀ T, T.length = S.length → KeepB l S T → T[l]? = some (.lst (ws.eraseIdx k)) → QV w T) : wr (oPop (.loc l) [.int j] S) QV E := by
  have e : oPop (.loc l) [.int j] S = .ok w (S.set l (.lst (ws.eraseIdx k))) := by
    unfold oPop
    dsimp only
    rw [h1]
    dsimp only
    rw [hb, hk]
    dsimp only
    rw [hy]
    simp
  rw [e]
  with_unfolding_all exact h _ (by simp) (KeepB.set _ _ _) (List.getElem?_set_self (lt_of h1))
theorem wo_nx (h : N δ S) : wo (snext δ S) N K := by with_unfolding_all exact h
theorem wo_seq (h : wo (s δ S) (fun δ1 S1 => wo (t δ1 S1) N K) K) : wo (sseq s t δ S) N K := by
  unfold sseq
  cases e : s δ S with
  | nx δ1 S1 => rw [e] at h; with_unfolding_all exact h
  | _ => rw [e] at h; with_unfolding_all exact h
theorem wo_set (h : wr (x δ S) (fun w S1 => N (δ.set i (some w)) S1) (K.ex δ)) : wo (sset i x δ S) N K := wo_out (h.mono fun _ _ h => by with_unfolding_all exact h)
theorem wo_exp (h : wr (x δ S) (fun _ S1 => N δ S1) (K.ex δ)) : wo (sexp x δ S) N K := wo_out (h.mono fun _ _ h => by with_unfolding_all exact h)
theorem wo_ret (h : wr (x δ S) (fun w S1 => K.rt w S1) (K.ex δ)) : wo (sret x δ S) N K := wo_out (h.mono fun _ _ h => by with_unfolding_all exact h)
theorem wo_retN (h : K.rt .non S) : wo (sretN δ S) N K := by with_unfolding_all exact h
theorem wo_if (h : wr (p δ S) (fun b S1 => bif b then wo (s δ S1) N K else wo (t δ S1) N K) (K.ex δ)) : wo (sif p s t δ S) N K := wo_out (h.mono fun b S h => by cases b <;> with_unfolding_all exact h)
theorem wo_raise {c : Nat} (h : K.ex δ c [] S) : wo (sraise c δ S) N K := by with_unfolding_all exact h
theorem wo_asg {put : XP} (h : wr (x δ S) (fun w S1 => AsgGo put w δ S1 N) (K.ex δ)) : wo (sasg put x δ S) N K := wo_out (h.mono fun w S ⟨δ1, e, h⟩ => by rw [e]; with_unfolding_all exact h)
theorem wo_par {is : List Nat} (h : wr (as δ S) (fun us S1 => ParGo is us δ S1 N) (K.ex δ)) : wo (spar is as δ S) N K := wo_out (h.mono fun us S h => by rw [if_pos h.1]; with_unfolding_all exact h.2)
theorem wo_sub (h : wr (z δ S) (fun w S1 => wr (x δ S1) (fun u S2 => wr (y δ S2) (fun j S3 => wo (oPut u j w δ S3) N K) (K.ex δ)) (K.ex δ)) (K.ex δ)) : wo (ssub x y z δ S) N K := wo_out (h.mono fun _ _ h => wo_out (h.mono fun _ _ h => wo_out h))
theorem wo_put {j : Int} {k : Nat} (h1 : S[l]? = some (.lst ws)) (h2 : ixN ws.length j = some k) (h : ∀ T, T.length = S.length → KeepB l S T → T[l]? = some (.lst (ws.set k w)) → N δ T) : wo (oPut (.loc l) (.int j) w δ S) N K := by
  rw [put_at h1 h2]
  with_unfolding_all exact h _ (by simp) (KeepB.set _ _ _) (List.getElem?_set_self (lt_of h1))
theorem fn_wo {k : Nat} {b : XS} (e : ws.map some ++ List.replicate (k - ws.length) none = δ) (h : wo (b δ S) (fun _ S1 => QV .non S1) (fnK QV E)) : wr (mkFn k b ws S) QV E := by
  unfold mkFn
  rw [e]
  cases q : b δ S with
  | nx δ1 S1 => rw [q] at h; with_unfolding_all exact h
  | rt w S1 => rw [q] at h; with_unfolding_all exact h
  | ex c fs δ1 S1 => rw [q] at h; with_unfolding_all exact h
  | _ => rw [q] at h; with_unfolding_all exact h.elim
theorem wo_for {xi : XI} {put : XP} {body : XS} (h : wr (xi δ S) (fun a S1 => wo (forG a.2 put body a.1 0 δ S1) N K) (K.ex δ)) : wo (sfor xi put body δ S) N K := wo_out h
theorem wr_isq {Q : Nat × Nth → Sto → Prop} (h : wr (x δ S) (fun w S1 => IsqGo w S1 Q) E) : wr (isq x δ S) Q E := wr_bind (h.mono fun w S h => by
  rcases h with ⟨ws, e, h⟩ | ⟨l, ws, e, e2, h⟩
  · subst e; with_unfolding_all exact h
  · subst e
    dsimp only
    rw [getL_lst e2]
    with_unfolding_all exact h)
theorem wr_irg1 {Q : Nat × Nth → Sto → Prop} (h : wr (x δ S) (fun w S1 => RngGo w S1 Q) E) : wr (irg1 x δ S) Q E := wr_bind (h.mono fun w S ⟨n, e, hn, h⟩ => by
  subst e
  have hb : big (n : Int) = true := by unfold big; simp; omega
  dsimp only
  rw [hb]
  with_unfolding_all exact h)
theorem wo_lp {nth : Nth} {put : XP} {body : XS} {ws : List Va} (I : Nat → Env → Sto → Prop) (hn : ∀ i δ S, I i δ S → nth S i = some ws[i]?) (hs : ∀ i w δ S, ws[i]? = some w → I i δ S → ∃ δ1, put w δ = some δ1 ∧ wo (body δ1 S) (I (i + 1)) (K.lp N (I (i + 1))))
    (hq : ∀ δ S, I ws.length δ S → N δ S) : ∀ m i δ S, i + m = ws.length → I i δ S → wo (forG nth put body (m + 1) i δ S) N K
  | 0, i, δ, S, e, h => by
    unfold forG
    rw [hn i δ S h, List.getElem?_eq_none (by omega)]
    rw [show i = ws.length by omega] at h
    with_unfolding_all exact hq δ S h
  | m + 1, i, δ, S, e, h => by
    unfold forG
    have hi : i < ws.length := by omega
    have hw := List.getElem?_eq_getElem hi
    rw [hn i δ S h, hw]
    obtain ⟨δ1, e1, hb⟩ := hs i _ δ S hw h
    dsimp only
    rw [e1]
    dsimp only
    cases q : body δ1 S with
    | nx δ2 S2 => rw [q] at hb; with_unfolding_all exact wo_lp I hn hs hq m (i + 1) δ2 S2 (by omega) hb
    | ct δ2 S2 => rw [q] at hb; with_unfolding_all exact wo_lp I hn hs hq m (i + 1) δ2 S2 (by omega) hb
    | _ => rw [q] at hb; with_unfolding_all exact hb
theorem wo_loc {put : XP} {body : XS} (I : Nat → Env → Sto → Prop) (h0 : I 0 δ S) (hn : ∀ i δ S, I i δ S → S[l]? = some (.lst ws)) (hs : ∀ i w δ S, ws[i]? = some w → I i δ S → ∃ δ1, put w δ = some δ1 ∧ wo (body δ1 S) (I (i + 1)) (K.lp N (I (i + 1))))
    (hq : ∀ δ S, I ws.length δ S → N δ S) : wo (forG (nloc l) put body (ws.length + 1) 0 δ S) N K :=
  wo_lp I (fun i δ S h => by unfold nloc; rw [getL_lst (hn i δ S h)]; rfl) hs hq ws.length 0 δ S (by omega) h0
theorem wo_tup {put : XP} {body : XS} (I : Nat → Env → Sto → Prop) (h0 : I 0 δ S) (hs : ∀ i w δ S, ws[i]? = some w → I i δ S → ∃ δ1, put w δ = some δ1 ∧ wo (body δ1 S) (I (i + 1)) (K.lp N (I (i + 1))))
    (hq : ∀ δ S, I ws.length δ S → N δ S) : wo (forG (nseq ws) put body (ws.length + 1) 0 δ S) N K :=
  wo_lp I (fun i δ S h => rfl) hs hq ws.length 0 δ S (by omega) h0
theorem wo_rng {put : XP} {body : XS} {lo : Int} (I : Nat → Env → Sto → Prop) (h0 : I 0 δ S) (hs : ∀ i δ S, i < n → I i δ S → ∃ δ1, put (.int (lo + i)) δ = some δ1 ∧ wo (body δ1 S) (I (i + 1)) (K.lp N (I (i + 1))))
    (hq : ∀ δ S, I n δ S → N δ S) : wo (forG (nrng lo n) put body (n + 1) 0 δ S) N K := by
  have e : ((List.range n).map fun i : Nat => Va.int (lo + i)).length = n := by simp
  refine wo_lp (ws := (List.range n).map fun i : Nat => Va.int (lo + i)) I (fun i δ S h => ?_) (fun i w δ S hw h => ?_) (fun δ S h => hq δ S (by rw [e] at h; with_unfolding_all exact h)) n 0 δ S (by rw [e]; omega) h0
  · unfold nrng
    by_cases c : i < n
    · rw [if_pos c]; simp [c]
    · rw [if_neg c]; simp [c]
  · by_cases c : i < n
    · simp [c] at hw
      subst hw
      with_unfolding_all exact hs i δ S c h
    · simp [c] at hw
theorem wr_comp {vs : List Nat} {xi : XI} {put : XP} {cond : XT} {elt : XE} (h : wr (xi δ S) (fun a S1 => ∀ D T, D = S1.length → T.length = S1.length + 1 → Keep S1 T → T[D]? = some (.lst []) → wr (compG a.2 put cond elt D (wipeE δ vs) a.1 0 T) QV E) E) : wr (xcomp vs xi put cond elt δ S) QV E :=
  wr_bind (h.mono fun a S h => h _ _ rfl (by simp) (Keep.app _ _) (get_new _ _ _))
theorem wr_cG {nth : Nth} {put : XP} {cond : XT} {elt : XE} {D : Nat} {ws : List Va} (hz : ws.length ≤ 16777215) (I : Nat → List Va → Sto → Prop) (hn : ∀ i acc S, I i acc S → nth S i = some ws[i]?)
    (hs : ∀ i w acc S, ws[i]? = some w → I i acc S → S[D]? = some (.lst acc) → ∃ δ1, put w δ = some δ1 ∧ wr (cond δ1 S) (fun b S1 => bif b then wr (elt δ1 S1) (fun v S2 => S2[D]? = some (.lst acc) ∧ ∀ T, T.length = S2.length → KeepB D S2 T → T[D]? = some (.lst (acc ++ [v])) → I (i + 1) (acc ++ [v]) T) noE else S1[D]? = some (.lst acc) ∧ I (i + 1) acc S1) noE)
    (hq : ∀ acc S, I ws.length acc S → S[D]? = some (.lst acc) → QV (.loc D) S) : ∀ m i acc S, i + m = ws.length → acc.length ≤ i → I i acc S → S[D]? = some (.lst acc) → wr (compG nth put cond elt D δ (m + 1) i S) QV E
  | 0, i, acc, S, e, ha, h, hD => by
    unfold compG
    rw [hn i acc S h, List.getElem?_eq_none (by omega)]
    rw [show i = ws.length by omega] at h
    with_unfolding_all exact hq acc S h hD
  | m + 1, i, acc, S, e, ha, h, hD => by
    unfold compG
    have hi : i < ws.length := by omega
    have hw := List.getElem?_eq_getElem hi
    rw [hn i acc S h, hw]
    obtain ⟨δ1, e1, hb⟩ := hs i _ acc S hw h hD
    dsimp only
    rw [e1]
    dsimp only
    obtain ⟨b, S1, q1, hb⟩ := ok_ex hb
    rw [q1]
    cases b with
    | false =>
      dsimp only
      exact wr_cG hz I hn hs hq m (i + 1) acc S1 (by omega) (by omega) hb.2 hb.1
    | true =>
      obtain ⟨v, S2, q2, hb1, hb2⟩ := ok_ex (show wr (elt δ1 S1) _ noE from hb)
      dsimp only
      rw [q2]
      dsimp only
      rw [hb1]
      dsimp only
      rw [fits_of (by omega)]
      have g := hb2 _ (by simp) (KeepB.set _ _ _) (List.getElem?_set_self (lt_of hb1))
      exact wr_cG hz I hn hs hq m (i + 1) (acc ++ [v]) _ (by omega) (by simp; omega) g (List.getElem?_set_self (lt_of hb1))
theorem wr_cL {put : XP} {cond : XT} {elt : XE} {D : Nat} (hz : ws.length ≤ 16777215) (I : Nat → List Va → Sto → Prop) (h0 : I 0 [] S) (hD : S[D]? = some (.lst [])) (hn : ∀ i acc S, I i acc S → S[l]? = some (.lst ws))
    (hs : ∀ i w acc S, ws[i]? = some w → I i acc S → S[D]? = some (.lst acc) → ∃ δ1, put w δ = some δ1 ∧ wr (cond δ1 S) (fun b S1 => bif b then wr (elt δ1 S1) (fun v S2 => S2[D]? = some (.lst acc) ∧ ∀ T, T.length = S2.length → KeepB D S2 T → T[D]? = some (.lst (acc ++ [v])) → I (i + 1) (acc ++ [v]) T) noE else S1[D]? = some (.lst acc) ∧ I (i + 1) acc S1) noE)
    (hq : ∀ acc S, I ws.length acc S → S[D]? = some (.lst acc) → QV (.loc D) S) : wr (compG (nloc l) put cond elt D δ (ws.length + 1) 0 S) QV E :=
  wr_cG hz I (fun i acc S h => by unfold nloc; rw [getL_lst (hn i acc S h)]; rfl) hs hq ws.length 0 [] S (by omega) (Nat.le_refl _) h0 hD
theorem wr_cR {put : XP} {cond : XT} {elt : XE} {D : Nat} {lo : Int} (hz : n ≤ 16777215) (I : Nat → List Va → Sto → Prop) (h0 : I 0 [] S) (hD : S[D]? = some (.lst []))
    (hs : ∀ i acc S, i < n → I i acc S → S[D]? = some (.lst acc) → ∃ δ1, put (.int (lo + i)) δ = some δ1 ∧ wr (cond δ1 S) (fun b S1 => bif b then wr (elt δ1 S1) (fun v S2 => S2[D]? = some (.lst acc) ∧ ∀ T, T.length = S2.length → KeepB D S2 T → T[D]? = some (.lst (acc ++ [v])) → I (i + 1) (acc ++ [v]) T) noE else S1[D]? = some (.lst acc) ∧ I (i + 1) acc S1) noE)
    (hq : ∀ acc S, I n acc S → S[D]? = some (.lst acc) → QV (.loc D) S) : wr (compG (nrng lo n) put cond elt D δ (n + 1) 0 S) QV E := by
  have e : ((List.range n).map fun i : Nat => Va.int (lo + i)).length = n := by simp
  refine wr_cG (ws := (List.range n).map fun i : Nat => Va.int (lo + i)) (by rw [e]; exact hz) I (fun i acc S h => ?_) (fun i w acc S hw h hD => ?_) (fun acc S h => hq acc S (by rw [e] at h; with_unfolding_all exact h)) n 0 [] S (by rw [e]; omega) (Nat.le_refl _) h0 hD
  · unfold nrng
    by_cases c : i < n
    · rw [if_pos c]; simp [c]
    · rw [if_neg c]; simp [c]
  · by_cases c : i < n
    · simp [c] at hw
      subst hw
      with_unfolding_all exact hs i acc S c h hD
    · simp [c] at hw
theorem fnGo {f : List Va → Sto → Rs Va} (h : us.length = n) (h2 : wr (f us S) QV E) : FnGo n f us S QV E := ⟨h, h2⟩
theorem tupGo (h : us.length ≤ 16777216) (h2 : QV (.tup us) S) : TupGo us S QV := ⟨h, h2⟩
theorem lstGo (h : us.length ≤ 16777216) (h2 : ∀ l T, l = S.length → T.length = S.length + 1 → Keep S T → T[l]? = some (.lst us) → QV (.loc l) T) : LstGo us S QV := ⟨h, h2⟩
theorem parGo {is : List Nat} (h : us.length = is.length) (h2 : N ((is.zip us).foldl (fun d p => d.set p.1 (some p.2)) δ) S) : ParGo is us δ S N := ⟨h, h2⟩
theorem asgGo {put : XP} (h : put w δ = some δ1) (h2 : N δ1 S) : AsgGo put w δ S N := ⟨δ1, h, h2⟩
theorem blGo {t : Bool} {A B : Prop} (h : bif t then A else B) : BlGo (.bl t) A B := ⟨t, rfl, h⟩
theorem metGo {f : Va → List Va → Sto → Rs Va} {P : Prop} (h : S[l]? = some (.lst ws)) (h2 : P) : MetGo f (.loc l) S P := ⟨l, ws, rfl, h, h2⟩
theorem fldGo {c i : Nat} {fs : List Va} (h : S[l]? = some (.ins c fs)) (h2 : fs[i]? = some v) (h3 : QV v S) : FldGo c i (.loc l) S QV := ⟨l, fs, v, rfl, h, h2, h3⟩
theorem newGo' {c : Nat} {f : List Va → Sto → Rs Va} {P : Sto → Prop} (h : us.length + 1 = n) (h2 : ∃ T, f (.loc S.length :: us) (S ++ [.ins c []]) = .ok .non T ∧ P T) (h3 : ∀ T, P T → QV (.loc S.length) T) : NewGo c n f us S QV E := ⟨h, by obtain ⟨T, e, p⟩ := h2; exact wr_of e ⟨rfl, h3 T p⟩⟩
theorem propGo {c : Nat} {fs : List Va} {f : List Va → Sto → Rs Va} (h : S[l]? = some (.ins c fs)) (h2 : wr (f [.loc l] S) QV noE) : PropGo c f (.loc l) S QV := ⟨l, fs, rfl, h, h2⟩
theorem isqT {Q : Nat × Nth → Sto → Prop} (h : Q (ws.length + 1, nseq ws) S) : IsqGo (.tup ws) S Q := .inl ⟨ws, rfl, h⟩
theorem isqL {Q : Nat × Nth → Sto → Prop} (h : S[l]? = some (.lst ws)) (h2 : Q (ws.length + 1, nloc l) S) : IsqGo (.loc l) S Q := .inr ⟨l, ws, rfl, h, h2⟩
theorem rngGo {Q : Nat × Nth → Sto → Prop} {j : Int} (n : Nat) (e : j = n) (h : n ≤ 100000) (h2 : Q (n + 1, nrng 0 n) S) : RngGo (.int j) S Q := ⟨n, by rw [e], h, h2⟩
theorem wr_ex {P : Sto → Prop} {a : α} (h : ∃ T, r = .ok a T ∧ P T) (k : ∀ T, P T → Q a T) : wr r Q E := by
  obtain ⟨T, e, p⟩ := by with_unfolding_all exact h
  rw [e]
  with_unfolding_all exact k T p
theorem wr_fld {c i : Nat} (h : wr (x δ S) (fun w S1 => FldGo c i w S1 QV) E) : wr (xfld c i x δ S) QV E := wr_bind (h.mono fun w S ⟨l, fs, v, e1, e2, e3, h⟩ => by
  subst e1
  rw [show insAt c (.loc l) S = some fs by simp only [insAt]; rw [e2]; simp]
  dsimp only
  rw [e3]
  with_unfolding_all exact h)
theorem wr_new {c : Nat} {f : List Va → Sto → Rs Va} (h : wr (as δ S) (fun us S1 => NewGo c n f us S1 QV E) E) : wr (ynew c n f as δ S) QV E := wr_bind (h.mono fun us S ⟨e, h⟩ => by
  rw [if_pos e]
  exact wr_bind (h.mono fun v U ⟨e, h⟩ => by subst e; with_unfolding_all exact h))
theorem wr_prop {c : Nat} {f : List Va → Sto → Rs Va} (h : wr (x δ S) (fun w S1 => PropGo c f w S1 QV) E) : wr (yprop c f x δ S) QV E := wr_bind (h.mono fun w S ⟨l, fs, e1, e2, h⟩ => by
  subst e1
  rw [show insAt c (.loc l) S = some fs by simp only [insAt]; rw [e2]; simp]
  dsimp only
  obtain ⟨v, T, e, q⟩ := ok_ex h
  rw [e]
  with_unfolding_all exact q)
theorem wr_eqO {c : Nat} {f : List Va → Sto → Rs Va} {fs gs : List Va} {t : Bool} (h1 : S[l]? = some (.ins c fs)) (h2 : S[m]? = some (.ins c gs)) (h : wr (f [.loc l, .loc m] S) (fun v T => ∃ t, v = .bl t ∧ QB t T) noE) : wr (cEqO c f (.loc l) (.loc m) S) QB E := by
  obtain ⟨v, T, e, t, rfl, q⟩ := ok_ex h
  unfold cEqO
  rw [show insAt c (.loc l) S = some fs by simp only [insAt]; rw [h1]; simp]
  dsimp only
  rw [show insAt c (.loc m) S = some gs by simp only [insAt]; rw [h2]; simp]
  show wr (match f [.loc l, .loc m] S with | .ok (.bl t) S1 => Rs.ok t S1 | _ => .bad) QB E
  rw [e]
  with_unfolding_all exact q
theorem wr_neO {c : Nat} {f : List Va → Sto → Rs Va} (h : wr (cEqO c f a b S) (fun t T => QB (!t) T) noE) : wr (cNeO c f a b S) QB E := by
  obtain ⟨t, T, e, q⟩ := ok_ex h
  unfold cNeO
  rw [e]
  with_unfolding_all exact q
theorem wr_isC {c : Nat} {fs : List Va} (h1 : S[l]? = some (.ins c fs)) (h : QV (.bl true) S) : wr (fIsC c [.loc l, .cl c] S) QV E := by
  unfold fIsC
  dsimp only
  rw [if_pos rfl, show insAt c (.loc l) S = some fs by simp only [insAt]; rw [h1]; simp]
  with_unfolding_all exact h
theorem wr_isi {j : Nat} (h1 : kind w S = some m) (h2 : j < 7) (h : QV (.bl (isK m j)) S) : wr (fIsi [w, .ty j] S) QV E := by
  unfold fIsi
  dsimp only
  rw [h1]
  dsimp only
  rw [if_pos h2]
  with_unfolding_all exact h
theorem kindL (h : S[l]? = some (.lst ws)) : kind (.loc l) S = some 5 := by
  unfold kind
  dsimp only
  rw [h]
theorem wr_sl {p q : XPt} (h : wr (x δ S) (fun w S1 => wr (p δ S1) (fun lo S2 => wr (q δ S2) (fun hi S3 => wr (oCut w lo hi S3) QV E) E) E) E) : wr (xslice x p q δ S) QV E := wr_bind (h.mono fun _ _ h => wr_bind (h.mono fun _ _ h => wr_bind h))
theorem wr_nop {QO : Option Int → Sto → Prop} (h : QO none S) : wr (xnop δ S) QO E := by with_unfolding_all exact h
theorem wr_part {QO : Option Int → Sto → Prop} (h : wr (x δ S) (fun w S1 => ∃ i, w = .int i ∧ QO (some i) S1) E) : wr (xpart x δ S) QO E := wr_bind (h.mono fun w S ⟨i, e, h⟩ => by subst e; with_unfolding_all exact h)
theorem cut_le (ws : List Va) (lo hi : Option Int) : (cutA ws lo hi).length ≤ ws.length := by unfold cutA; simp; omega
theorem wr_cut {lo hi : Option Int} (h1 : S[l]? = some (.lst ws)) (h0 : ws.length ≤ 16777216) (h : ∀ d T, d = S.length → T.length = S.length + 1 → Keep S T → T[d]? = some (.lst (cutA ws lo hi)) → QV (.loc d) T) : wr (oCut (.loc l) lo hi S) QV E := by
  unfold oCut
  dsimp only
  rw [getL_lst h1]
  exact wr_llst (Nat.le_trans (cut_le _ _ _) h0) h
theorem wr_rev (h1 : S[l]? = some (.lst ws)) (h0 : ws.length ≤ 16777216) (h : ∀ d T, d = S.length → T.length = S.length + 1 → Keep S T → T[d]? = some (.lst ws.reverse) → QV (.loc d) T) : wr (oRev (.loc l) S) QV E := by
  unfold oRev
  dsimp only
  rw [getL_lst h1]
  exact wr_llst (by rw [List.length_reverse]; exact h0) h
theorem wr_dix {kvs : List (Va × Va)} {k : NestedKey} (h1 : dctAt (.loc l) S = some kvs) (h2 : keyT w = some k) (h3 : valD kvs k = some v) (h : QV v S) : wr (oDix (.loc l) w S) QV E := by
  unfold oDix
  rw [h1, h2]
  dsimp only
  rw [h3]
  with_unfolding_all exact h
theorem wr_dict0 (h : ∀ d T, d = S.length → T.length = S.length + 1 → Keep S T → T[d]? = some (.dct []) → QV (.loc d) T) : wr (xdict0 δ S) QV E := by with_unfolding_all exact h _ _ rfl (by simp) (Keep.app _ _) (get_new _ _ _)
theorem wo_dsub (h : wr (z δ S) (fun w S1 => wr (x δ S1) (fun u S2 => wr (y δ S2) (fun j S3 => wo (oDput u j w δ S3) N K) (K.ex δ)) (K.ex δ)) (K.ex δ)) : wo (sdsub x y z δ S) N K := wo_out (h.mono fun _ _ h => wo_out (h.mono fun _ _ h => wo_out h))
theorem wo_dput {kvs : List (Va × Va)} {k : NestedKey} (h1 : S[l]? = some (.dct kvs)) (h2 : keyT v = some k) (hd : k.depth ≤ 8) (hz : kvs.length < 16777216) (h : ∀ T, T.length = S.length → KeepB l S T → T[l]? = some (.dct (stD kvs v k w)) → N δ T) : wo (oDput (.loc l) v w δ S) N K := by
  have e : dctW (.loc l) S = some kvs := by
    show (match S[l]? with | some (.dct kvs) => some kvs | _ => none) = _
    rw [h1]
  unfold oDput
  dsimp only
  rw [e, h2]
  dsimp only
  rw [decide_eq_true hd, fits_of (by omega)]
  with_unfolding_all exact h _ (by simp) (KeepB.set _ _ _) (List.getElem?_set_self (lt_of h1))
theorem wr_lock {e : XE} {kvs : List (Va × Va)} (hx : x δ S = .ok (.loc l) S1) (h1 : S[l]? = some (.dct kvs)) (h : ∀ T, T.length = S.length → KeepB l S T → T[l]? = some (.frd kvs) → wr (e δ T) (fun w U => U[l]? = some (.frd kvs) ∧ ∀ V, V.length = U.length → KeepB l U V → V[l]? = some (.dct kvs) → QV w V) noE) : wr (xlock x e δ S) QV E := by
  have g := h _ (by simp) (KeepB.set l S (.frd kvs)) (List.getElem?_set_self (lt_of h1))
  obtain ⟨w, U, e1, e2, e3⟩ := ok_ex g
  unfold xlock
  rw [hx]
  dsimp only
  rw [h1]
  dsimp only
  rw [e1]
  dsimp only
  unfold unlS
  rw [e2]
  with_unfolding_all exact e3 _ (by simp) (KeepB.set _ _ _) (List.getElem?_set_self (lt_of e2))
theorem wr_items {Q : Nat × Nth → Sto → Prop} (h : wr (x δ S) (fun w S1 => ∃ l kvs, w = .loc l ∧ S1[l]? = some (.frd kvs) ∧ Q (kvs.length + 1, nseq (kvs.map fun p => .tup [p.1, p.2])) S1) E) : wr (iitems x δ S) Q E := wr_bind (h.mono fun w S ⟨l, kvs, e, e2, h⟩ => by
  subst e
  dsimp only
  rw [e2]
  with_unfolding_all exact h)
theorem wr_keys {Q : Nat × Nth → Sto → Prop} (h : wr (x δ S) (fun w S1 => ∃ l kvs, w = .loc l ∧ S1[l]? = some (.frd kvs) ∧ Q (kvs.length + 1, nseq (kvs.map Prod.fst)) S1) E) : wr (ikeys x δ S) Q E := wr_bind (h.mono fun w S ⟨l, kvs, e, e2, h⟩ => by
  subst e
  dsimp only
  rw [e2]
  with_unfolding_all exact h)
theorem wr_dcomp {vs : List Nat} {xi : XI} {put : XP} {cond : XT} {kx vx : XE} (h : wr (xi δ S) (fun a S1 => ∀ D T, D = S1.length → T.length = S1.length + 1 → Keep S1 T → T[D]? = some (.dct []) → wr (dcG a.2 put cond kx vx D (wipeE δ vs) a.1 0 T) QV E) E) : wr (xdcomp vs xi put cond kx vx δ S) QV E :=
  wr_bind (h.mono fun a S h => h _ _ rfl (by simp) (Keep.app _ _) (get_new _ _ _))
theorem wr_dcG {nth : Nth} {put : XP} {kx vx : XE} {D : Nat} {ws : List Va} (hz : ws.length ≤ 16777215) (I : Nat → List (Va × Va) → Sto → Prop) (hn : ∀ i acc S, I i acc S → nth S i = some ws[i]?)
    (hs : ∀ i w acc S, ws[i]? = some w → I i acc S → S[D]? = some (.dct acc) → ∃ δ1, put w δ = some δ1 ∧ wr (kx δ1 S) (fun y S1 => wr (vx δ1 S1) (fun z S2 => ∃ k, keyT y = some k ∧ S2[D]? = some (.dct acc) ∧ stD acc y k z = acc ++ [(y, z)] ∧ ∀ T, T.length = S2.length → KeepB D S2 T → T[D]? = some (.dct (acc ++ [(y, z)])) → I (i + 1) (acc ++ [(y, z)]) T) noE) noE)
    (hq : ∀ acc S, I ws.length acc S → S[D]? = some (.dct acc) → QV (.loc D) S) : ∀ m i acc S, i + m = ws.length → acc.length ≤ i → I i acc S → S[D]? = some (.dct acc) → wr (dcG nth put xyes kx vx D δ (m + 1) i S) QV E
  | 0, i, acc, S, e, ha, h, hD => by
    unfold dcG
    rw [hn i acc S h, List.getElem?_eq_none (by omega)]
    rw [show i = ws.length by omega] at h
    with_unfolding_all exact hq acc S h hD
  | m + 1, i, acc, S, e, ha, h, hD => by
    unfold dcG
    have hi : i < ws.length := by omega
    have hw := List.getElem?_eq_getElem hi
    rw [hn i acc S h, hw]
    obtain ⟨δ1, e1, hb⟩ := hs i _ acc S hw h hD
    dsimp only
    rw [e1]
    obtain ⟨y, S1, q1, hb⟩ := ok_ex hb
    obtain ⟨z, S2, q2, k, g1, g2, g3, g4⟩ := ok_ex hb
    show wr (match kx δ1 S with | .ok y S2 => (match vx δ1 S2 with | .ok z S3 => (match S3[D]?, keyT y with | some (.dct kvs), some k => bif fits (kvs.length + 1) then dcG nth put xyes kx vx D δ (m + 1) (i + 1) (S3.set D (.dct (stD kvs y k z))) else .bad | _, _ => .bad) | _ => .bad) | _ => .bad) QV E
    rw [q1]
    dsimp only
    rw [q2]
    dsimp only
    rw [g2, g1]
    dsimp only
    rw [fits_of (by omega), g3]
    have g := g4 _ (by simp) (KeepB.set _ _ _) (List.getElem?_set_self (lt_of g2))
    exact wr_dcG hz I hn hs hq m (i + 1) _ _ (by omega) (by simp; omega) g (List.getElem?_set_self (lt_of g2))
def TryE (exm : Nat → Bool) (k i : Nat) (N : Env → Sto → Prop) (δ' : Env) : Xp := fun c fs S' => fs = [] ∧ exm c = true ∧ i < δ'.length ∧ ∀ l T, l = S'.length → T.length = S'.length + 1 → Keep S' T → T[l]? = some (.exo c []) → N (((δ'.set i (some (.loc l))).set k (some (.loc l))).set i none) T
theorem wo_try {exm : Nat → Bool} {k i : Nat} (h : wo (s δ S) N ⟨K.rt, K.bk, K.ct, TryE exm k i N⟩) : wo (stry exm k i s δ S) N K := by
  unfold stry
  cases e : s δ S with
  | ex c fs δ' S' =>
    rw [e] at h
    obtain ⟨h1, h2, h3, h4⟩ : TryE exm k i N δ' c fs S' := by with_unfolding_all exact h
    subst h1
    dsimp only
    rw [if_pos ⟨h2, h3⟩]
    with_unfolding_all exact h4 _ _ rfl (by simp) (Keep.app _ _) (get_new _ _ _)
  | nx δ1 S1 => rw [e] at h; with_unfolding_all exact h
  | rt w S1 => rw [e] at h; with_unfolding_all exact h
  | bk δ1 S1 => rw [e] at h; with_unfolding_all exact h
  | ct δ1 S1 => rw [e] at h; with_unfolding_all exact h
  | bad => rw [e] at h; with_unfolding_all exact h
theorem wr_isX {tbl : Nat → Nat → Option Bool} {c d : Nat} {t : Bool} (h1 : S[l]? = some (.exo c [])) (h2 : tbl c d = some t) (h : QV (.bl t) S) : wr (fIsX tbl [.loc l, .cl d] S) QV E := by
  unfold fIsX
  dsimp only
  rw [h1]
  dsimp only
  rw [h2]
  with_unfolding_all exact h
theorem wr_isXT {tbl : Nat → Nat → Option Bool} {c : Nat} {t : Bool} {cs : List Va} (h1 : S[l]? = some (.exo c [])) (h2 : anyX tbl c (v :: cs) = some t) (h : QV (.bl t) S) : wr (fIsXT tbl [.loc l, .tup (v :: cs)] S) QV E := by
  unfold fIsXT
  dsimp only
  rw [h1]
  dsimp only
  rw [h2]
  with_unfolding_all exact h
theorem bif_t {A B : Prop} (h : A) : bif true then A else B := by with_unfolding_all exact h
theorem bif_f {A B : Prop} (h : B) : bif false then A else B := by with_unfolding_all exact h
theorem bif_ct {A B : Prop} {t : Bool} (e : t = true) (h : A) : bif t then A else B := by rw [e]; with_unfolding_all exact h
theorem bif_cf {A B : Prop} {t : Bool} (e : t = false) (h : B) : bif t then A else B := by rw [e]; with_unfolding_all exact h
theorem bif_n {A B : Prop} {t : Bool} (h : bif t then B else A) : bif !t then A else B := by cases t <;> with_unfolding_all exact h
theorem bif_d {A B c : Prop} [Decidable c] (h1 : c → A) (h2 : ¬ c → B) : bif decide c then A else B := by
  by_cases h : c
  · rw [decide_eq_true h]; exact h1 h
  · rw [decide_eq_false h]; exact h2 h
theorem bif_dt {A B c : Prop} [Decidable c] (hc : c) (h : A) : bif decide c then A else B := by rw [decide_eq_true hc]; with_unfolding_all exact h
theorem bif_df {A B c : Prop} [Decidable c] (hc : ¬ c) (h : B) : bif decide c then A else B := by rw [decide_eq_false hc]; with_unfolding_all exact h
theorem Keep.at' {S T : Sto} {l : Nat} {o : Ob} (k : Keep S T) (h : S[l]? = some o) : T[l]? = some o := k _ _ h
theorem Keep.kb {S U V : Sto} {D : Nat} (k : Keep S U) (h : S.length ≤ D) (k2 : KeepB D U V) : Keep S V := fun j o e => k2 j o (by have := lt_of e; omega) (k _ _ e)
theorem KeepB.at' {S T : Sto} {l d : Nat} {o : Ob} (k : KeepB d S T) (n : l ≠ d) (h : S[l]? = some o) : T[l]? = some o := k _ _ n h
end
end Rz
namespace Rz
open PySem PySem.Spec PyProof.Rows L2 PySem.W
section
variable {prog : Program} {w : World} {A : Around} {E : Value → Shared → Prop}
end
def gLst (K : PySem.W.Frag) (n : Nat) (t : TGs) : TG := fun v σ H Q => ∃ a xs, v = .ref a ∧ SqL K H a xs ∧ xs.length = n ∧ t xs σ H Q
section
variable {X : Cx} {g : G} {Wx : WX} {k : Nat} {pos : Pos} {x : XE}
@[simp] def sunl (n : Nat) (q : XPs) (x : XE) : XS := fun δ S => (x δ S).out δ fun w S1 => match w with
  | .loc l => match getL S1 l with
    | some ws => if ws.length = n then (match q ws δ with
      | some δ' => .nx δ' S1
      | none => .bad) else .bad
    | none => .bad
  | _ => .bad
end
def UnlGo (n : Nat) (q : XPs) (w : Va) (δ : Env) (S : Sto) (N : Env → Sto → Prop) : Prop := ∃ l ws δ', w = .loc l ∧ S[l]? = some (.lst ws) ∧ ws.length = n ∧ q ws δ = some δ' ∧ N δ' S
theorem unlGo {n l : Nat} {q : XPs} {ws : List Va} {δ δ' : Env} {S : Sto} {N : Env → Sto → Prop} (h1 : S[l]? = some (.lst ws)) (h2 : ws.length = n) (h3 : q ws δ = some δ') (h4 : N δ' S) : UnlGo n q (.loc l) δ S N := ⟨l, ws, δ', rfl, h1, h2, h3, h4⟩
theorem wo_unl {n : Nat} {q : XPs} {x : XE} {δ : Env} {S : Sto} {N : Env → Sto → Prop} {K : Ke} (h : wr (x δ S) (fun w S1 => UnlGo n q w δ S1 N) (K.ex δ)) : wo (sunl n q x δ S) N K := wo_out (h.mono fun w S1 ⟨l, ws, δ', e1, e2, e3, e4, h⟩ => by
  subst e1
  dsimp only
  rw [getL_lst e2]
  dsimp only
  rw [if_pos e3, e4]
  exact wo_of rfl h)
end Rz
namespace Rz
open PySem PySem.Spec PyProof.Rows L2 PySem.W
def MethGo (c n : Nat) (m : List Va → Sto → Rs Va) (as : XA) (δ : Env) (w : Va) (S : Sto) (Q : Va → Sto → Prop) (E : Xp) : Prop := ∃ l fs, w = .loc l ∧ S[l]? = some (.ins c fs) ∧ wr (as δ S) (fun us S2 => FnGo n m (w :: us) S2 Q E) E
theorem methGo {c n l : Nat} {m : List Va → Sto → Rs Va} {as : XA} {δ : Env} {S : Sto} {Q : Va → Sto → Prop} {E : Xp} {fs : List Va} (h1 : S[l]? = some (.ins c fs)) (h2 : wr (as δ S) (fun us S2 => FnGo n m (.loc l :: us) S2 Q E) E) : MethGo c n m as δ (.loc l) S Q E := ⟨l, fs, rfl, h1, h2⟩
theorem wr_me {c n : Nat} {m : List Va → Sto → Rs Va} {x : XE} {as : XA} {δ : Env} {S : Sto} {QV : Va → Sto → Prop} {E : Xp} (h : wr (x δ S) (fun w S1 => MethGo c n m as δ w S1 QV E) E) : wr (ymeth c n m x as δ S) QV E := wr_bind (h.mono fun w S1 ⟨l, fs, e1, e2, h⟩ => by
  subst e1
  rw [show insAt c (.loc l) S1 = some fs by simp only [insAt]; rw [e2]; simp]
  dsimp only
  exact wr_bind (h.mono fun us S2 h => by rw [if_pos (show us.length + 1 = n from h.1)]; exact h.2))
end Rz
namespace Rz
open PySem PySem.Spec PyProof.Rows L2 PySem.W
abbrev Pr4 := Addr × NestedKey × Addr × V
def storAll (L : List (NestedKey × Addr × V)) (ps : List (NestedKey × Addr × V)) : List (NestedKey × Addr × V) := ps.foldl (fun acc p => storN acc p.1 p.2.1 p.2.2) L
def rDictP (K : PySem.W.Frag) (P : Program) (w : World) : List V → Hp → VK → Prop := fun xs H Q => ∃ (p : Addr) (L : List Pr4), xs = [.ref p] ∧ SqL K H p (L.map fun r => V.ref r.1) ∧ (∀ r ∈ L, SqT K H r.1 [.ref r.2.2.1, r.2.2.2]) ∧ (∀ r ∈ L, KOk K H r.2.1 r.2.2.1) ∧ ∀ q, H q = none → Q (.ref q) (upd H q (dN P w q (storAll [] (L.map Prod.snd))))
section
variable {X : Cx} {k : Nat} {pins : List (Addr × Obj)} {σ : L2.St} {H : Hp} {s : Shared}
end
def prV : Va → Option (Va × Va)
  | .tup [k, v] => match keyT k with
    | some _ => some (k, v)
    | none => none
  | _ => none
def stP (acc : List (Va × Va)) (p : Va × Va) : List (Va × Va) := match keyT p.1 with
  | some k => stD acc p.1 k p.2
  | none => acc
def stAll (acc prs : List (Va × Va)) : List (Va × Va) := prs.foldl stP acc
def prsV : List Va → Option (List (Va × Va))
  | [] => some []
  | w :: ws => match prV w, prsV ws with
    | some p, some ps => some (p :: ps)
    | _, _ => none
@[simp] def fDictP (ws : List Va) (S : Sto) : Rs Va := match ws with
  | [.loc l] => match S[l]? with
    | some (.lst us) => match prsV us with
      | some ps => .ok (.loc S.length) (S ++ [.dct (stAll [] ps)])
      | none => .bad
    | _ => .bad
  | _ => .bad
section
variable {g : G}
end
section
variable {X : Cx} {g : G} {Wx : WX} {k : Nat} {pos : Pos} {a : Expr} {r : XA}
end
end Rz
namespace Rz
open PySem PySem.Spec PyProof.Rows L2 PySem.StrLaws
mutual
inductive Dy (K : PySem.W.Frag) (P : Program) (W : World) (H : Hp) : V → PyData → Prop
  | non : Dy K P W H .non .none
  | bl (b : Bool) : Dy K P W H (.bl b) (.bool b)
  | int (i : Int) : Dy K P W H (.int i) (.int i)
  | str (y : Str) : Dy K P W H (.str y) (.str y)
  | lst {p : Addr} {vs : List V} {es : List PyData} (at1 : H p = some (.lst vs)) (all : DyAll K P W H vs es) : Dy K P W H (.ref p) (.list es)
  | tup {p : Addr} {vs : List V} {es : List PyData} (at1 : SqT K H p vs) (all : DyAll K P W H vs es) : Dy K P W H (.ref p) (.tuple es)
  | dk {p : Addr} (at1 : H p = some (.dK [])) : Dy K P W H (.ref p) (.dict [])
  | dn {p : Addr} {L : List (NestedKey × Addr × V)} {kvs : List (PyData × PyData)} (at1 : Rd H p (dN P W p L)) (all : DyKv K P W H L kvs) : Dy K P W H (.ref p) (.dict kvs)
  | ds {p : Addr} {L : List (Key × V)} {kvs : List (PyData × PyData)} (at1 : H p = some (.dK L)) (all : DyKs K P W H L kvs) : Dy K P W H (.ref p) (.dict kvs)
inductive DyAll (K : PySem.W.Frag) (P : Program) (W : World) (H : Hp) : List V → List PyData → Prop
  | nil : DyAll K P W H [] []
  | cons {v : V} {vs : List V} {e : PyData} {es : List PyData} (one : Dy K P W H v e) (rest : DyAll K P W H vs es) : DyAll K P W H (v :: vs) (e :: es)
inductive DyKv (K : PySem.W.Frag) (P : Program) (W : World) (H : Hp) : List (NestedKey × Addr × V) → List (PyData × PyData) → Prop
  | nil : DyKv K P W H [] []
  | cons {r : NestedKey × Addr × V} {L : List (NestedKey × Addr × V)} {a b : PyData} {kvs : List (PyData × PyData)} (key : Dy K P W H (.ref r.2.1) a) (one : Dy K P W H r.2.2 b) (rest : DyKv K P W H L kvs) : DyKv K P W H (r :: L) ((a, b) :: kvs)
inductive DyKs (K : PySem.W.Frag) (P : Program) (W : World) (H : Hp) : List (Key × V) → List (PyData × PyData) → Prop
  | nil : DyKs K P W H [] []
  | cons {x : Str} {v : V} {L : List (Key × V)} {b : PyData} {kvs : List (PyData × PyData)} (one : Dy K P W H v b) (rest : DyKs K P W H L kvs) : DyKs K P W H ((Sum.inr x, v) :: L) ((.str x, b) :: kvs)
end
section
variable {X : Cx} {pins : List (Addr × Obj)} {σ : L2.St} {H : Hp} {s : Shared}
mutual
theorem Dy.reads (I : Inv X pins σ H s) (M : SMod X.base) : ∀ (e : PyData) (v : V) (u : Value), Dy X.K X.prog X.w H v e → RelV v u → ∃ as, Reads s.heap u e as ∧ sysModules ∉ as
  | .none, _, _, h, r => by cases h; cases r; exact ⟨_, .none, by simp⟩
  | .bool b, _, _, h, r => by cases h; cases r; exact ⟨_, .bool b, by simp⟩
  | .int i, _, _, h, r => by cases h; obtain ⟨t, rfl⟩ := r; exact ⟨_, .int i t, by simp⟩
  | .str y, _, _, h, r => by cases h; obtain ⟨t, rfl⟩ := r; exact ⟨_, .str y t, by simp⟩
  | .list es, _, _, h, r => by
    cases h with
    | lst at1 all =>
      cases r
      obtain ⟨its, vals, ⟨o, n, y1, y2, _, y3⟩, _⟩ := I.list (.of at1)
      obtain ⟨as, q1, q2⟩ := DyAll.reads I M es _ its all vals
      exact ⟨_, .list y1 y2 y3 q1, fun m => by
        rcases List.mem_cons.mp m with z | z
        · exact not_mod I M (by rw [at1]; simp) z
        · exact q2 z⟩
  | .tuple es, _, _, h, r => by
    cases h with
    | tup at1 all =>
      cases r
      obtain ⟨its, vals, ⟨o, y1, y2, n, y3⟩, _⟩ := I.tuple at1
      obtain ⟨as, q1, q2⟩ := DyAll.reads I M es _ its all vals
      exact ⟨_, .tuple y1 y2 y3 q1, q2⟩
  | .dict kvs, _, _, h, r => by
    cases h with
    | dk at1 =>
      cases r
      obtain ⟨_, y0, vs, kv, o, es, ep, y1, y2, y3, _, y4, _⟩ := dk_rd I.hok (.inl at1)
      cases kv
      have e0 : es.toList = [] := by
        cases q : es.toList with
        | nil => rfl
        | cons a l => rw [q] at y4; cases y4
      exact ⟨_, .dict (as := []) (bs := []) y1 y2.1 y3 (by rw [e0]; exact .nil) (by rw [e0]; exact .nil), fun m => by
        have e9 := List.mem_singleton.mp (show sysModules ∈ [_] from m)
        rw [← e9] at y0
        simp at y0⟩
    | @ds p L _ at1 all =>
      cases r
      obtain ⟨_, y0, vs, kv, o, es, ep, y1, y2, y3, _, y4, _⟩ := dk_rd I.hok (.inl at1)
      obtain ⟨as, bs, q1, q2, z1, z2⟩ := DyKs.reads I M kvs L vs es.toList all kv y4
      exact ⟨_, .dict (as := as) (bs := bs) y1 y2.1 y3 q1 q2, fun m => by
        rcases List.mem_cons.mp m with z | z
        · rw [← z] at y0
          simp at y0
        · exact (List.mem_append.mp z).elim z1 z2⟩
    | @dn p L _ at1 all =>
      cases r
      obtain ⟨⟨y0, y1, _, xs, pr, o, es, ep, ho, hx, hdt, he, _⟩, _, _⟩ := at1.ok I.hok
      obtain ⟨as, bs, q1, q2, z1, z2⟩ := DyKv.reads I M kvs L xs all pr
      exact ⟨_, .dict (as := as) (bs := bs) ho hx.1 hdt (by rw [he, List.map_map]; exact q1) (by rw [he, List.map_map]; exact q2), fun m => by
        rcases List.mem_cons.mp m with z | z
        · rw [← z] at y0
          simp at y0
        · exact (List.mem_append.mp z).elim z1 z2⟩
theorem DyAll.reads (I : Inv X pins σ H s) (M : SMod X.base) : ∀ (es : List PyData) (vs : List V) (us : List Value), DyAll X.K X.prog X.w H vs es → Vals vs us → ∃ as, ReadsAll s.heap us es as ∧ sysModules ∉ as
  | [], _, _, h, r => by cases h; cases r; exact ⟨_, .nil, by simp⟩
  | e :: es, _, _, h, r => by
    cases h with
    | cons h1 h2 =>
      cases r with
      | cons r1 r2 =>
        obtain ⟨as, q1, z1⟩ := Dy.reads I M e _ _ h1 r1
        obtain ⟨bs, q2, z2⟩ := DyAll.reads I M es _ _ h2 r2
        exact ⟨_, .cons q1 q2, fun m => (List.mem_append.mp m).elim z1 z2⟩
theorem DyKv.reads (I : Inv X pins σ H s) (M : SMod X.base) : ∀ (kvs : List (PyData × PyData)) (L : List (NestedKey × Addr × V)) (xs : List (NestedKey × Addr × Value)), DyKv X.K X.prog X.w H L kvs → Paired PR L xs → ∃ as bs, ReadsAll s.heap (xs.map fun x => Value.ref x.2.1) (kvs.map (·.1)) as ∧ ReadsAll s.heap (xs.map fun x => x.2.2) (kvs.map (·.2)) bs ∧ sysModules ∉ as ∧ sysModules ∉ bs
  | [], _, _, h, r => by cases h; cases r; exact ⟨_, _, .nil, .nil, by simp, by simp⟩
  | (a, b) :: kvs, _, _, h, r => by
    cases h with
    | cons h1 h2 h3 =>
      cases r with
      | cons r1 r2 =>
        obtain ⟨as, q1, z1⟩ := Dy.reads I M a _ _ h1 (congrArg Value.ref r1.2.1.symm)
        obtain ⟨bs, q2, z2⟩ := Dy.reads I M b _ _ h2 r1.2.2
        obtain ⟨cs, ds, q3, q4, z3, z4⟩ := DyKv.reads I M kvs _ _ h3 r2
        exact ⟨_, _, .cons q1 q3, .cons q2 q4, fun m => (List.mem_append.mp m).elim z1 z3, fun m => (List.mem_append.mp m).elim z2 z4⟩
theorem DyKs.reads (I : Inv X pins σ H s) (M : SMod X.base) : ∀ (kvs : List (PyData × PyData)) (L : List (Key × V)) (vs : List (Key × Value)) (es : List DictEntry), DyKs X.K X.prog X.w H L kvs → KV L vs → Pairs (mixKind X.prog X.w) es vs → ∃ as bs, ReadsAll s.heap (es.map (·.key)) (kvs.map (·.1)) as ∧ ReadsAll s.heap (es.map (·.val)) (kvs.map (·.2)) bs ∧ sysModules ∉ as ∧ sysModules ∉ bs
  | [], _, _, _, h, r, p => by cases h; cases r; cases p; exact ⟨_, _, .nil, .nil, by simp, by simp⟩
  | (a, b) :: kvs, _, _, _, h, r, p => by
    cases h with
    | @cons x v L _ _ h2 h3 =>
      cases r with
      | @cons _ kv _ vs r1 r2 =>
        cases p with
        | @cons e _ es _ p1 p2 p3 =>
          obtain ⟨bs, q2, z2⟩ := Dy.reads I M b _ _ h2 r1.2
          obtain ⟨cs, ds, q3, q4, z3, z4⟩ := DyKs.reads I M kvs _ _ _ h3 r2 p3
          have k1 : (Sum.inr x : Key) = kv.1 := r1.1
          have p1' : keyIs kv.1 e.key = true := p1
          rw [← k1] at p1'
          rcases keyIs_shape p1' with ⟨_, _, y, _⟩ | ⟨x', t, y, ek⟩
          · exact nomatch y
          · obtain rfl := Sum.inr.inj y
            exact ⟨_, _, .cons (by show Reads s.heap e.key (.str x) []; rw [ek]; exact .str x t) q3, .cons (by show Reads s.heap e.val b bs; rw [p2]; exact q2) q4, fun m => (List.mem_append.mp m).elim (fun z => absurd z (by simp)) z3, fun m => (List.mem_append.mp m).elim z2 z4⟩
end
end
def rReprY (K : PySem.W.Frag) (P : Program) (W : World) : List V → Hp → VK → Prop := fun xs H Q => ∃ v e, xs = [v] ∧ Dy K P W H v e ∧ e.showable = true ∧ e.depth ≤ 100 ∧ e.shown.length ≤ sizeLine ∧ Q (.str e.shown) H
section
variable {X : Cx} {g : G} {Wx : WX} {k : Nat} {pos : Pos} {a : Expr} {r : XA}
def allKv (f : Va → Option PyData) : List (Va × Va) → Option (List (PyData × PyData))
  | [] => some []
  | p :: ps => match f p.1, f p.2, allKv f ps with
    | some a, some b, some ks => some ((a, b) :: ks)
    | _, _, _ => none
def allKs (f : Va → Option PyData) : List (Str × Va) → Option (List (PyData × PyData))
  | [] => some []
  | p :: ps => match f p.2, allKs f ps with
    | some b, some ks => some ((.str p.1, b) :: ks)
    | _, _ => none
def toY (S : Sto) : Nat → Va → Option PyData
  | 0, _ => none
  | n + 1, w => match w with
    | .non => some .none
    | .bl b => some (.bool b)
    | .int i => some (.int i)
    | .str y => some (.str y)
    | .tup ws => (allD (toY S n) ws).map .tuple
    | .loc l => match S[l]? with
      | some (.lst ws) => (allD (toY S n) ws).map .list
      | some (.dci []) => some (.dict [])
      | some (.dct kvs) => (allKv (toY S n) kvs).map .dict
      | some (.frd kvs) => (allKv (toY S n) kvs).map .dict
      | some (.dcs kvs) => (allKs (toY S n) kvs).map .dict
      | _ => none
    | _ => none
def fReprY (ws : List Va) (S : Sto) : Rs Va := match ws with
  | [w] => match toY S 64 w with
    | some d => bif d.showable && decide (d.depth ≤ 100) && decide (d.shown.length ≤ sizeLine) then .ok (.str d.shown) S else .bad
    | none => .bad
  | _ => .bad
end
mutual
def szY : PyData → Nat
  | .none => 4
  | .bool _ => 5
  | .int i => if i.natAbs.log2 < 7 then 8 else 250
  | .str x => 10 * x.length + 2
  | .list xs => szYL xs + 3
  | .tuple xs => szYL xs + 3
  | .dict kvs => szYK kvs + 3
def szYL : List PyData → Nat
  | [] => 0
  | x :: xs => szY x + 2 + szYL xs
def szYK : List (PyData × PyData) → Nat
  | [] => 0
  | (a, b) :: xs => szY a + szY b + 4 + szYK xs
end
mutual
def okY : PyData → Bool
  | .none => true
  | .bool _ => true
  | .int i => decide (i.natAbs.log2 < 200)
  | .str x => x.cps.toList.all fun c => decide (c < 16 ^ 8)
  | .list xs => okYL xs
  | .tuple xs => okYL xs
  | .dict kvs => okYK kvs
def okYL : List PyData → Bool
  | [] => true
  | x :: xs => okY x && okYL xs
def okYK : List (PyData × PyData) → Bool
  | [] => true
  | (a, b) :: xs => okY a && okY b && okYK xs
end
mutual
theorem shownY_le : ∀ d : PyData, okY d = true → d.shown.length ≤ szY d ∧ d.showable = true
  | .none, _ => ⟨by decide, by simp [PyData.showable]⟩
  | .bool b, _ => ⟨by cases b <;> decide, by simp [PyData.showable]⟩
  | .int i, h => by
    have h' : i.natAbs.log2 < 200 := by simpa [okY] using h
    refine ⟨?_, by simp [PyData.showable]; omega⟩
    simp only [PyData.shown, szY]
    show (Str.ofString (toString i)).length ≤ _
    rw [PySem.ofString_length]
    split
    · rename_i c
      have := PySem.int_text_length_le (a := i) (by decide : 0 < 7) c
      omega
    · have := PySem.int_text_length_le (a := i) (by decide : 0 < 200) h'
      omega
  | .str x, h => by
    have h' : ∀ c ∈ x.cps.toList, c < 16 ^ 8 := fun c hc => by
      have q : (x.cps.toList.all fun c => decide (c < 16 ^ 8)) = true := by simpa only [okY] using h
      exact of_decide_eq_true (List.all_eq_true.mp q c hc)
    refine ⟨?_, by simp [PyData.showable]⟩
    have := StrLaws.reprText_len x h'
    simp only [PyData.shown, szY]
    omega
  | .list xs, h => by
    have h' : okYL xs = true := by simpa [okY] using h
    obtain ⟨h1, h2⟩ := shownYL_le xs h'
    refine ⟨?_, by simpa [PyData.showable] using h2⟩
    have := listText_le (PyData.shownAll xs)
    simp only [PyData.shown, szY]
    omega
  | .tuple xs, h => by
    have h' : okYL xs = true := by simpa [okY] using h
    obtain ⟨h1, h2⟩ := shownYL_le xs h'
    refine ⟨?_, by simpa [PyData.showable] using h2⟩
    have := tupleText_le (PyData.shownAll xs)
    simp only [PyData.shown, szY]
    omega
  | .dict kvs, h => by
    have h' : okYK kvs = true := by simpa [okY] using h
    obtain ⟨h1, h2⟩ := shownYK_le kvs h'
    refine ⟨?_, by simpa [PyData.showable] using h2⟩
    have h4 := dictText_len_le (PyData.shownKv kvs)
    have h3 := PyData.shownKv_length kvs
    simp only [PyData.shown, szY]
    omega
theorem shownYL_le : ∀ ds : List PyData, okYL ds = true → piled (PyData.shownAll ds) ≤ szYL ds ∧ PyData.showableAll ds = true
  | [], _ => ⟨by simp [PyData.shownAll, piled, szYL], by simp [PyData.showableAll]⟩
  | d :: ds, h => by
    have h' : okY d = true ∧ okYL ds = true := by simpa [okYL] using h
    obtain ⟨a1, a2⟩ := shownY_le d h'.1
    obtain ⟨b1, b2⟩ := shownYL_le ds h'.2
    refine ⟨?_, by simp [PyData.showableAll, a2, b2]⟩
    have p : piled (PyData.shownAll (d :: ds)) = d.shown.length + 2 + piled (PyData.shownAll ds) := by simp [PyData.shownAll, piled]
    simp only [szYL]
    omega
theorem shownYK_le : ∀ kvs : List (PyData × PyData), okYK kvs = true → ((PyData.shownKv kvs).map (·.length)).sum + 2 * kvs.length ≤ szYK kvs ∧ PyData.showableKv kvs = true
  | [], _ => ⟨by simp [PyData.shownKv, szYK], by simp [PyData.showableKv]⟩
  | (a, b) :: ks, h => by
    have h' : (okY a = true ∧ okY b = true) ∧ okYK ks = true := by simpa [okYK] using h
    obtain ⟨a1, a2⟩ := shownY_le a h'.1.1
    obtain ⟨b1, b2⟩ := shownY_le b h'.1.2
    obtain ⟨c1, c2⟩ := shownYK_le ks h'.2
    refine ⟨?_, by simp [PyData.showableKv, a2, b2, c2]⟩
    have e2 : (a.shown ++ ": " ++ b.shown).length = a.shown.length + 2 + b.shown.length := by
      rw [strLen_append, strLen_append]; rfl
    simp only [PyData.shownKv, szYK, List.map_cons, List.sum_cons, List.length_cons]
    omega
end
theorem fReprY_eq {w : Va} {S : Sto} {d : PyData} (h : toY S 64 w = some d) (h1 : okY d = true) (h2 : szY d ≤ 16777216) (h3 : d.depth ≤ 100) : fReprY [w] S = .ok (.str d.shown) S := by
  obtain ⟨a1, a2⟩ := shownY_le d h1
  have hz : sizeLine = 16777216 := sizeLine_eq
  unfold fReprY
  dsimp only
  rw [h]
  dsimp only
  rw [a2]
  have e : (true && decide (d.depth ≤ 100) && decide (d.shown.length ≤ sizeLine)) = true := by simp; omega
  rw [e]
  rfl
end Rz
namespace Rz
open PySem PySem.Spec PyProof.Rows L2 PySem.W
def tClrD (P : Program) (w : World) (t : TE) : TE := fun σ H Q => t σ H fun x H1 => ∃ p L, x = .ref p ∧ H1 p = some (dN P w p L) ∧ Q .non (upd H1 p (dN P w p []))
section
variable {X : Cx} {g : G} {Wx : WX} {k : Nat} {pos : Pos} {a b e : Expr} {x y z : XE} {r : XA} {t t' : TE}
def tDict1 (K : PySem.W.Frag) (P : Program) (w : World) (tk tv : TE) : TE := fun σ H Q => ∀ p, H p = none → tk σ (upd H p (dN P w p [])) fun x H1 => tv σ H1 fun y H2 => ∃ b k, x = .ref b ∧ H2 p = some (dN P w p []) ∧ KOk K H2 k b ∧ Q (.ref p) (upd H2 p (dN P w p [(k, b, y)]))
def oClrD (w : Va) (S : Sto) : Rs Va := match w with
  | .loc l => match S[l]? with
    | some (.dct _) => .ok .non (S.set l (.dct []))
    | _ => .bad
  | _ => .bad
@[simp] def xclrD (x : XE) : XE := fun δ S => (x δ S).bind oClrD
@[simp] def xdict1 (x y : XE) : XE := fun δ S => (x δ (S ++ [.dct []])).bind fun kw S1 => (y δ S1).bind fun w S2 => match S2[S.length]?, keyT kw with
  | some (.dct []), some _ => .ok (.loc S.length) (S2.set S.length (.dct [(kw, w)]))
  | _, _ => .bad
end
end Rz
namespace Rz
open PySem PySem.Spec PyProof.Rows L2 PySem.W
theorem nx_ex {o : Out} {N : Env → Sto → Prop} (h : wo o N noK) : ∃ δ S, o = .nx δ S ∧ N δ S := by
  unfold wo at h
  cases o with
  | nx δ S => exact ⟨δ, S, rfl, h⟩
  | _ => exact (h : False).elim
section
variable {N : Env → Sto → Prop} {K : Ke} {δ : Env} {S S1 : Sto} {x y : XE} {l : Nat} {us : List Va} {QV : Va → Sto → Prop} {E : Xp}
theorem wo_lock {s : XS} {kvs : List (Va × Va)} (hx : x δ S = .ok (.loc l) S1) (h1 : S[l]? = some (.dct kvs)) (h : ∀ T, T.length = S.length → KeepB l S T → T[l]? = some (.frd kvs) → wo (s δ T) (fun δ' U => U[l]? = some (.frd kvs) ∧ ∀ V, V.length = U.length → KeepB l U V → V[l]? = some (.dct kvs) → N δ' V) noK) : wo (slock x s δ S) N K := by
  have g := h _ (by simp) (KeepB.set l S (.frd kvs)) (List.getElem?_set_self (lt_of h1))
  obtain ⟨δ', U, e1, e2, e3⟩ := nx_ex g
  unfold slock
  rw [hx]
  dsimp only
  rw [h1]
  dsimp only
  rw [e1]
  dsimp only
  unfold unlS
  rw [e2]
  with_unfolding_all exact e3 _ (by simp) (KeepB.set _ _ _) (List.getElem?_set_self (lt_of e2))
theorem wr_dict1 (h : ∀ d T, d = S.length → T.length = S.length + 1 → Keep S T → T[d]? = some (.dct []) → wr (x δ T) (fun kw S1 => wr (y δ S1) (fun w S2 => S2[d]? = some (.dct []) ∧ (∃ k, keyT kw = some k) ∧ ∀ U, U.length = S2.length → KeepB d S2 U → U[d]? = some (.dct [(kw, w)]) → QV (.loc d) U) E) E) : wr (xdict1 x y δ S) QV E :=
  wr_bind ((h _ _ rfl (by simp) (Keep.app S _) (get_new _ _ _)).mono fun kw S1 h => wr_bind (h.mono fun w S2 ⟨a, ⟨k, b⟩, c⟩ => by
    rw [a, b]
    with_unfolding_all exact c _ (by simp) (KeepB.set _ _ _) (List.getElem?_set_self (lt_of a))))
theorem wr_dictP {ps : List (Va × Va)} (h1 : S[l]? = some (.lst us)) (h2 : prsV us = some ps) (h : ∀ d T, d = S.length → T.length = S.length + 1 → Keep S T → T[d]? = some (.dct (stAll [] ps)) → QV (.loc d) T) : wr (fDictP [.loc l] S) QV E := by
  unfold fDictP
  dsimp only
  rw [h1]
  dsimp only
  rw [h2]
  with_unfolding_all exact h _ _ rfl (by simp) (Keep.app S _) (get_new _ _ _)
theorem prsV_of : ∀ {ps : List (Va × Va)}, (∀ p ∈ ps, ∃ k, keyT p.1 = some k) → prsV (ps.map fun p => Va.tup [p.1, p.2]) = some ps
  | [], _ => rfl
  | p :: ps, h => by
    obtain ⟨k, hk⟩ := h p List.mem_cons_self
    show (match prV (.tup [p.1, p.2]), prsV (ps.map fun p => Va.tup [p.1, p.2]) with | some p, some ps => some (p :: ps) | _, _ => none) = _
    rw [prsV_of fun q hq => h q (List.mem_cons_of_mem _ hq)]
    unfold prV
    dsimp only
    rw [hk]
end
end Rz
namespace Rz
open PySem PySem.Spec PyProof.Rows L2 PySem.W LamX
section
variable {X : Cx} {pins : List (Addr × Obj)} {σ : L2.St} {H : Hp} {s : Shared}
end

def lamFin : Out → Rs Va
  | .rt w S => .ok w S
  | _ => .bad
def envW (n kk : Nat) (v : Va) : Env := (List.replicate n none).set kk (some v)
def ylam (exm : Nat → Bool) (n kk : Nat) (sr : XS) (x : XE) : XE := fun δ S => match x δ S with
  | .ok _ S' => lamFin (sr (envW n kk .non) S')
  | .ex c [] S' => bif exm c then lamFin (sr (envW n kk (.loc S'.length)) (S' ++ [.exo c []])) else .bad
  | _ => .bad
abbrev W0 : WX := fun _ _ _ _ => False
section
variable {g : G} {ρ : List Addr} {H H' : Hp} {S : Sto}
end
section
variable {X : Cx} {g : G} {Wx : WX} {K k n kk ii c0 : Nat} {exm : Nat → Bool} {rest : List Stmt} {sr : XS} {xt : XE} {x a ce m nm : Str} {gf c P : Addr} {st : Stmt} {fd : FuncData} {Ng : List Str} {params : Arguments} {body : Expr} {scope : Scope} {j : Nat} {p lpos pos pa pb pc p1 p2 pe q1 p4 p5 p6 q2 q3 : Pos}
end
end Rz
namespace Rz
open PySem PySem.Spec PyProof.Rows L2
section
variable {P : Program} {w : World} {K : PySem.W.Frag} {mg mb : Str → Option Value} {k : Nat} {fa a : Addr} {fd : FuncData} {x : Str} {g : G} {m : List Va → Sto → Rs Va} {s₁ : Shared} {vs : List Value} {ns : List Int} {cs : List (Addr × Addr)}
end
end Rz
namespace Rz
open PySem PySem.Spec PyProof.Rows L2
abbrev Pr3 := Addr × Str × V
def rDictS (K : PySem.W.Frag) : List V → Hp → VK → Prop := fun xs H Q => ∃ (p : Addr) (L : List Pr3), xs = [.ref p] ∧ SqL K H p (L.map fun r => V.ref r.1) ∧ (∀ r ∈ L, SqT K H r.1 [.str r.2.1, r.2.2]) ∧ (L.map fun r => r.2.1).Nodup ∧ ∀ q, H q = none → Q (.ref q) (upd H q (.dK (L.map fun r => (Sum.inr r.2.1, r.2.2))))
section
variable {X : Cx} {k : Nat} {pins : List (Addr × Obj)} {σ : L2.St} {H : Hp} {s : Shared}
abbrev PS3 (h : Heap) : Pr3 → Str × Value × Value → Prop := fun r y => y.1 = r.2.1 ∧ IsTup h r.1 #[y.2.1, y.2.2] ∧ (∃ t, y.2.1 = .str y.1 t) ∧ RelV r.2.2 y.2.2
end
def prS : Va → Option (Str × Va)
  | .tup [.str x, v] => some (x, v)
  | _ => none
def prsS : List Va → Option (List (Str × Va))
  | [] => some []
  | w :: ws => match prS w, prsS ws with
    | some p, some ps => some (p :: ps)
    | _, _ => none
@[simp] def fDictS (ws : List Va) (S : Sto) : Rs Va := match ws with
  | [.loc l] => match S[l]? with
    | some (.lst us) => match prsS us with
      | some ps => bif decide (ps.map Prod.fst).Nodup then .ok (.loc S.length) (S ++ [.dcs ps]) else .bad
      | none => .bad
    | _ => .bad
  | _ => .bad
section
variable {g : G}
end
section
variable {X : Cx} {g : G} {Wx : WX} {k : Nat} {pos : Pos} {a : Expr} {r : XA}
end
end Rz
namespace Rz
open PySem PySem.Spec PyProof.Rows L2
end Rz
namespace Rz
open PySem PySem.Spec PyProof.Rows L2 PySem.W
mutual
theorem toY_pur (S : Sto) : ∀ (w : Va) (n : Nat), pur w = true → (dat w).depth < n → toY S n w = some (dat w)
  | .non, n + 1, _, _ => rfl
  | .bl _, n + 1, _, _ => rfl
  | .int _, n + 1, _, _ => rfl
  | .str _, n + 1, _, _ => rfl
  | .tup ws, n + 1, h, d => by
    have := allY_pur S ws n (by simpa [pur] using h) (by simp only [dat, PyData.depth] at d; omega)
    show (allD (toY S n) ws).map PyData.tuple = _
    rw [this]
    rfl
theorem allY_pur (S : Sto) : ∀ (ws : List Va) (n : Nat), purs ws = true → PyData.depthAll (dats ws) < n → allD (toY S n) ws = some (dats ws)
  | [], _, _, _ => rfl
  | w :: ws, n, h, d => by
    simp only [purs, Bool.and_eq_true] at h
    simp only [dats, PyData.depthAll] at d
    have h1 := toY_pur S w n h.1 (by omega)
    have h2 := allY_pur S ws n h.2 (by omega)
    show (match toY S n w, allD (toY S n) ws with | some d, some ds => some (d :: ds) | _, _ => none) = _
    rw [h1, h2]
    rfl
end

def KM (M : Nat → Prop) (S T : Sto) : Prop := ∀ (j : Nat) (o : Ob), ¬ M j → S[j]? = some o → T[j]? = some o
theorem KM.refl (M : Nat → Prop) (S : Sto) : KM M S S := fun _ _ _ h => h
theorem KM.trans {M : Nat → Prop} {S T U : Sto} (a : KM M S T) (b : KM M T U) : KM M S U := fun j o n h => b j o n (a j o n h)
theorem KM.of {M : Nat → Prop} {S T : Sto} (k : Keep S T) : KM M S T := fun j o _ h => k j o h
theorem KM.kb {M : Nat → Prop} {S T : Sto} {p : Nat} (k : KeepB p S T) (hp : M p) : KM M S T := fun j o n h => k j o (fun z => n (z ▸ hp)) h
inductive DV (M : Nat → Prop) (S : Sto) : Nat → Va → Prop
  | non {k : Nat} : DV M S k .non
  | bl {k : Nat} {b : Bool} : DV M S k (.bl b)
  | int {k : Nat} {i : Int} : DV M S k (.int i)
  | str {k : Nat} {s : Str} : DV M S k (.str s)
  | tup {k : Nat} {ws : List Va} : ws.length ≤ 100000 → (∀ w, w ∈ ws → DV M S k w) → DV M S (k + 1) (.tup ws)
  | lst {k l : Nat} {ws : List Va} : S[l]? = some (.lst ws) → ¬ M l → ws.length ≤ 7 → (∀ w, w ∈ ws → DV M S k w) → DV M S (k + 1) (.loc l)
  | dci {k l : Nat} : S[l]? = some (.dci []) → ¬ M l → DV M S (k + 1) (.loc l)
  | dcs {k l : Nat} {ps : List (Str × Va)} : S[l]? = some (.dcs ps) → ¬ M l → (∀ p, p ∈ ps → DV M S k p.2) → DV M S (k + 1) (.loc l)
theorem DV.km {M : Nat → Prop} {S T : Sto} {k : Nat} {w : Va} (h : DV M S k w) (q : KM M S T) : DV M T k w := by
  induction h with
  | non => exact .non
  | bl => exact .bl
  | int => exact .int
  | str => exact .str
  | tup c _ ih => exact .tup c ih
  | lst a b c _ ih => exact .lst (q _ _ b a) b c ih
  | dci a b => exact .dci (q _ _ b a) b
  | dcs a b _ ih => exact .dcs (q _ _ b a) b ih
theorem DV.up {M : Nat → Prop} {S : Sto} {k : Nat} {w : Va} (h : DV M S k w) : ∀ {j : Nat}, k ≤ j → DV M S j w := by
  induction h with
  | non => intro j _; exact .non
  | bl => intro j _; exact .bl
  | int => intro j _; exact .int
  | str => intro j _; exact .str
  | tup c _ ih => intro j z; obtain ⟨i, rfl⟩ : ∃ i, j = i + 1 := ⟨j - 1, by omega⟩; exact .tup c fun w hw => ih w hw (by omega)
  | lst a b c _ ih => intro j z; obtain ⟨i, rfl⟩ : ∃ i, j = i + 1 := ⟨j - 1, by omega⟩; exact .lst a b c fun w hw => ih w hw (by omega)
  | dci a b => intro j z; obtain ⟨i, rfl⟩ : ∃ i, j = i + 1 := ⟨j - 1, by omega⟩; exact .dci a b
  | dcs a b _ ih => intro j z; obtain ⟨i, rfl⟩ : ∃ i, j = i + 1 := ⟨j - 1, by omega⟩; exact .dcs a b fun w hw => ih w hw (by omega)
theorem DV.less {M M' : Nat → Prop} {S : Sto} {k : Nat} {w : Va} (h : DV M' S k w) (m : ∀ j, M j → M' j) : DV M S k w := by
  induction h with
  | non => exact .non
  | bl => exact .bl
  | int => exact .int
  | str => exact .str
  | tup c _ ih => exact .tup c ih
  | lst a b c _ ih => exact .lst a (fun z => b (m _ z)) c ih
  | dci a b => exact .dci a (fun z => b (m _ z))
  | dcs a b _ ih => exact .dcs a (fun z => b (m _ z)) ih
theorem DV.kind {M : Nat → Prop} {S : Sto} {k : Nat} {w : Va} (h : DV M S k w) : ∃ j, ∀ T, KM M S T → Rz.kind w T = some j := by
  have lo : ∀ {l : Nat} {T : Sto}, Rz.kind (.loc l) T = (match T[l]? with | some (.lst _) => some 5 | some (.frl _) => some 5 | some (.dci _) => some 6 | some (.dcs _) => some 6 | _ => none) := fun {l T} => rfl
  cases h with
  | non => exact ⟨_, fun _ _ => rfl⟩
  | bl => exact ⟨_, fun _ _ => rfl⟩
  | int => exact ⟨_, fun _ _ => rfl⟩
  | str => exact ⟨_, fun _ _ => rfl⟩
  | tup _ _ => exact ⟨_, fun _ _ => rfl⟩
  | lst a b _ _ => exact ⟨5, fun T q => by rw [lo, q _ _ b a]⟩
  | dci a b => exact ⟨6, fun T q => by rw [lo, q _ _ b a]⟩
  | dcs a b _ => exact ⟨6, fun T q => by rw [lo, q _ _ b a]⟩
theorem DV.kd {M : Nat → Prop} {S : Sto} {k : Nat} {w : Va} (h : DV M S k w) : ∃ j, Rz.kind w S = some j := let ⟨j, q⟩ := h.kind; ⟨j, q S fun _ _ _ z => z⟩
theorem szYL_len' : ∀ ds : List PyData, ds.length ≤ szYL ds
  | [] => Nat.le_refl _
  | d :: ds => by
    have := szYL_len' ds
    simp only [szYL, List.length_cons]
    omega
theorem dats_len : ∀ ws : List Va, (dats ws).length = ws.length
  | [] => rfl
  | w :: ws => by simp only [dats, List.length_cons, dats_len ws]
mutual
theorem dv_pur {M : Nat → Prop} {S : Sto} : ∀ (w : Va) (k : Nat), pur w = true → (dat w).depth < k → szY (dat w) ≤ 100000 → DV M S k w
  | .non, _, _, _, _ => .non
  | .bl _, _, _, _, _ => .bl
  | .int _, _, _, _, _ => .int
  | .str _, _, _, _, _ => .str
  | .tup ws, k + 1, h, d, z => .tup (by
      have := szYL_len' (dats ws)
      rw [dats_len] at this
      simp only [dat, szY] at z
      omega) (dvs_pur ws k (by simpa [pur] using h) (by simp only [dat, PyData.depth] at d; omega) (by simp only [dat, szY] at z; omega))
theorem dvs_pur {M : Nat → Prop} {S : Sto} : ∀ (ws : List Va) (k : Nat), purs ws = true → PyData.depthAll (dats ws) < k → szYL (dats ws) ≤ 100000 → ∀ w, w ∈ ws → DV M S k w
  | [], _, _, _, _, w, hw => nomatch hw
  | u :: ws, k, h, d, z, w, hw => by
    simp only [purs, Bool.and_eq_true] at h
    simp only [dats, PyData.depthAll] at d
    simp only [dats, szYL] at z
    rcases List.mem_cons.mp hw with e | hw
    · rw [e]; exact dv_pur u k h.1 (by omega) (by omega)
    · exact dvs_pur ws k h.2 (by omega) (by omega) w hw
end
structure GY (M : Nat → Prop) (k z : Nat) (S : Sto) (w : Va) : Prop where
  dv : DV M S k w
  ex : ∃ d, (∀ T n, KM M S T → k ≤ n → toY T n w = some d) ∧ okY d = true ∧ szY d ≤ z ∧ d.depth ≤ k
theorem GY.kd {M : Nat → Prop} {k z : Nat} {S : Sto} {w : Va} (h : GY M k z S w) : ∃ j, ∀ T, KM M S T → kind w T = some j := h.dv.kind
section
variable {M M' : Nat → Prop} {k z : Nat} {S T : Sto} {w : Va} {ws : List Va}
theorem GY.km (h : GY M k z S w) (q : KM M S T) : GY M k z T w := by
  obtain ⟨d, h1, h2⟩ := h.ex
  exact ⟨h.dv.km q, d, fun U n y ln => h1 U n (q.trans y) ln, h2⟩
theorem GY.up (h : GY M k z S w) {k' z' : Nat} (hk : k ≤ k') (hz : z ≤ z') : GY M k' z' S w := by
  obtain ⟨d, h1, h2, h3, h4⟩ := h.ex
  exact ⟨h.dv.up hk, d, fun U n y ln => h1 U n y (by omega), h2, by omega, by omega⟩
theorem GY.less (h : GY M' k z S w) (m : ∀ j, M j → M' j) : GY M k z S w := by
  obtain ⟨d, h1, h2⟩ := h.ex
  have c : ∀ {T}, KM M S T → KM M' S T := fun q j o n e => q j o (fun y => n (m j y)) e
  exact ⟨h.dv.less m, d, fun U n y ln => h1 U n (c y) ln, h2⟩
end
def anyC : List Va := [.int 0, .int 1, .int (-1), .bl true, .non, .str "", .str "0", .str "a", .str "aA", .int (10 ^ 39), .str "10"]
end Rz
namespace Rz
open PySem PySem.Spec PyProof.Rows L2
def rIsV : R2 := fun x y H Q => ∃ b : Bool, y = .bl b ∧ (match x with | .non | .bl _ | .int _ | .str _ | .ref _ => True | _ => False) ∧ Q (.bl (decide (x = .bl b))) H
def cIsV (a b : Va) (S : Sto) : Rs Bool := match b with
  | .bl j => (match a with
    | .bl i => .ok (decide (i = j)) S
    | .non | .int _ | .str _ | .tup _ | .loc _ => .ok false S
    | _ => .bad)
  | _ => .bad
def cNinT (a b : Va) (S : Sto) : Rs Bool := match toD S 64 a, toD S 64 b with
  | some d, some (.tuple ds) => bif d.layable0 && (PyData.tuple ds).layable0 && ds.all (fun y => SeqAt.noMix y d) then .ok (!(ds.any fun z => PyData.eqv z d)) S else .bad
  | _, _ => .bad
def rNinT (K : PySem.W.Frag) : R2 := fun x y H Q => ∃ d ds, Dp K H x d ∧ Dp K H y (.tuple ds) ∧ d.layable0 = true ∧ (PyData.tuple ds).layable0 = true ∧ (∀ y ∈ ds, SeqAt.noMix y d = true) ∧ Q (.bl (!(ds.any fun z => z.eqv d))) H
section
variable {X : Cx} {g : G} {Wx : WX} {k : Nat} {pos : Pos} {a b c : Expr} {x y z : XE}
end
end Rz
namespace Rz
open PySem PySem.Spec PyProof.Rows L2 PySem.W
def isBl (a : Va) (j : Bool) : Bool := match a with
  | .bl i => decide (i = j)
  | _ => false
theorem wr_isv {a : Va} {j : Bool} {S : Sto} {k : Nat} {QB : Bool → Sto → Prop} {E : Xp} (hk : kind a S = some k) (h : QB (isBl a j) S) : wr (cIsV a (.bl j) S) QB E := by
  have : cIsV a (.bl j) S = .ok (isBl a j) S := by
    cases a with
    | ty _ => cases hk
    | cl _ => cases hk
    | _ => rfl
  exact wr_of this h
theorem wr_cT {ws : List Va} {S : Sto} {δ : Env} {QV : Va → Sto → Prop} {E : Xp} {put : XP} {cond : XT} {elt : XE} {D : Nat} (hz : ws.length ≤ 16777215) (I : Nat → List Va → Sto → Prop) (h0 : I 0 [] S) (hD : S[D]? = some (.lst []))
    (hs : ∀ i w acc S, ws[i]? = some w → I i acc S → S[D]? = some (.lst acc) → ∃ δ1, put w δ = some δ1 ∧ wr (cond δ1 S) (fun b S1 => bif b then wr (elt δ1 S1) (fun v S2 => S2[D]? = some (.lst acc) ∧ ∀ T, T.length = S2.length → KeepB D S2 T → T[D]? = some (.lst (acc ++ [v])) → I (i + 1) (acc ++ [v]) T) noE else S1[D]? = some (.lst acc) ∧ I (i + 1) acc S1) noE)
    (hq : ∀ acc S, I ws.length acc S → S[D]? = some (.lst acc) → QV (.loc D) S) : wr (compG (nseq ws) put cond elt D δ (ws.length + 1) 0 S) QV E :=
  wr_cG hz I (fun i acc S h => rfl) hs hq ws.length 0 [] S (by omega) (Nat.le_refl _) h0 hD
end Rz
namespace Rz
open PySem PySem.Spec PyProof.Rows L2 Rz PySem.W
local macro_rules | `(tactic| array_mem_dec) => `(tactic| first | assumption | ((with_reducible refine Keep.at' (by assumption) ?_); array_mem_dec) | ((with_reducible refine KeepB.at' (by assumption) (by first | assumption | omega) ?_); array_mem_dec))
local macro_rules | `(tactic| array_get_dec) => `(tactic| first
  | (with_reducible apply wo_seq) | (with_reducible apply wo_set) | (with_reducible apply wo_ret) | (with_reducible apply wo_if) | (with_reducible apply wo_exp)
  | (with_reducible apply wr_lit) | ((with_reducible apply wr_var); exact rfl) | (with_reducible apply wr_bin) | (with_reducible apply wr_binB) | (with_reducible apply wr_call) | (with_reducible apply wr_cons) | (with_reducible apply wr_nil)
  | (with_reducible apply wr_fn) | (with_reducible apply wr_not) | (with_reducible apply wr_and) | (with_reducible apply wr_or) | (with_reducible apply wr_ite) | (with_reducible apply wr_boo) | (with_reducible apply wr_tru) | (with_reducible apply wr_yes)
  | (with_reducible apply wr_tup) | (with_reducible apply wr_lst) | (with_reducible apply wr_un) | (with_reducible apply wr_isN) | (with_reducible apply wr_andV) | (with_reducible apply wr_orV) | (with_reducible apply wr_notV) | (with_reducible apply wr_orT) | (with_reducible apply wr_chain)
  | (with_reducible apply wr_addI) | (with_reducible apply wr_subI) | ((with_reducible apply wr_mulR); (· decide); (· decide)) | ((with_reducible apply wr_mulL); (· decide); (· decide)) | ((with_reducible apply wr_divI); (· omega); (· omega)) | ((with_reducible apply wr_modI); (· omega)) | (with_reducible apply wr_neg)
  | (with_reducible apply wr_lt) | (with_reducible apply wr_le) | (with_reducible apply wr_gt) | (with_reducible apply wr_ge) | ((with_reducible apply wr_eqS); exact rfl) | (with_reducible apply wr_ne) | (with_reducible apply wr_isB) | (with_reducible apply wr_isnB)
  | ((with_reducible apply wr_ixT); (· exact rfl)) | ((with_reducible apply wr_ixL); (· array_mem_dec); (· exact rfl)) | (with_reducible apply wr_trB) | ((with_reducible apply wr_trL); array_mem_dec) | ((with_reducible apply wr_lenL); array_mem_dec) | (with_reducible apply wr_lenT) | (with_reducible apply wr_intI) | (with_reducible apply wr_abs) | (with_reducible apply wr_min2)
  | (with_reducible apply wo_nx) | (with_reducible apply wo_retN) | (with_reducible apply wo_raise) | (with_reducible apply wo_asg) | (with_reducible apply wo_par) | (with_reducible apply wo_sub) | (with_reducible apply wo_for) | (with_reducible apply wr_isq) | (with_reducible apply wr_irg1) | (with_reducible apply wr_comp) | (with_reducible apply wr_met) | (with_reducible apply wr_met0)
  | ((with_reducible apply fnGo); (· exact rfl)) | ((with_reducible apply tupGo); (· simp only [List.length_cons, List.length_nil, Nat.reduceAdd, Nat.reduceLeDiff])) | ((with_reducible apply lstGo); (· simp only [List.length_cons, List.length_nil, Nat.reduceAdd, Nat.reduceLeDiff])) | ((with_reducible apply parGo); (· exact rfl)) | ((with_reducible apply asgGo); (· exact rfl)) | (with_reducible apply blGo)
  | ((with_reducible apply metGo); (· array_mem_dec)) | (with_reducible apply wr_fld) | ((with_reducible apply fldGo); (· array_mem_dec); (· exact rfl)) | (with_reducible apply wr_new) | (with_reducible apply wr_prop) | ((with_reducible apply propGo); (· array_mem_dec)) | (with_reducible apply isqT) | ((with_reducible apply isqL); (· array_mem_dec))
  | (with_reducible apply wr_me) | ((with_reducible apply methGo); (· array_mem_dec)) | (with_reducible apply wo_unl) | ((with_reducible apply unlGo); (· array_mem_dec); (· exact rfl); (· exact rfl)) | (with_reducible apply wo_try) | ((with_reducible apply wr_isX); (· array_mem_dec); (· first | exact rfl | decide)) | ((with_reducible apply wr_isXT); (· array_mem_dec); (· first | exact rfl | decide))
  | (with_reducible apply wr_neO) | ((with_reducible apply wr_eqO); (· array_mem_dec); (· array_mem_dec)) | ((with_reducible apply wr_isC); (· array_mem_dec)) | ((with_reducible apply wr_isi); (· first | exact rfl | (apply kindL; array_mem_dec)); (· decide)) | (with_reducible apply wr_sl) | (with_reducible apply wr_nop) | (with_reducible apply wo_dsub) | (with_reducible apply wr_dcomp)
  | (with_reducible apply bif_t) | (with_reducible apply bif_f) | (with_reducible apply bif_n) | ((with_reducible apply bif_dt); (· exact rfl)) | ((with_reducible apply bif_cf); (· decide)) | ((with_reducible apply bif_ct); (· decide))
  | ((with_reducible apply wr_isv); (· first | exact rfl | assumption)) | ((with_reducible apply bif_df); (· simp only [List.length_cons, List.length_nil]; omega)))
section
variable {M M' : Nat → Prop} {k z : Nat} {S T : Sto} {w : Va} {ws : List Va}
theorem DV.wide (h : DV M S k w) (m : ∀ j, M' j → M j ∨ S.length ≤ j) : DV M' S k w := by
  have nn : ∀ {l : Nat} {o : Ob}, S[l]? = some o → ¬ M l → ¬ M' l := fun {l o} e n y => (m l y).elim n fun z => by have := lt_of e; omega
  induction h with
  | non => exact .non
  | bl => exact .bl
  | int => exact .int
  | str => exact .str
  | tup c _ ih => exact .tup c ih
  | lst a b c _ ih => exact .lst a (nn a b) c ih
  | dci a b => exact .dci a (nn a b)
  | dcs a b _ ih => exact .dcs a (nn a b) ih
theorem KM.wide (m : ∀ j, M' j → M j ∨ S.length ≤ j) (h : KM M' S T) : KM M S T := fun j o n e => h j o (fun y => (m j y).elim n fun z => by have := lt_of e; omega) e
theorem GY.wide (h : GY M k z S w) (m : ∀ j, M' j → M j ∨ S.length ≤ j) : GY M' k z S w := by
  obtain ⟨d, h1, h2⟩ := h.ex
  exact ⟨h.dv.wide m, d, fun U n y ln => h1 U n (KM.wide m y) ln, h2⟩
def purB (k z : Nat) (w : Va) : Bool := pur w && okY (dat w) && decide (szY (dat w) ≤ z) && decide ((dat w).depth < k) && decide (z ≤ 100000)
end
end Rz
namespace Rz
open PySem PySem.Spec PyProof.Rows L2
def cEqE (a b : Va) (S : Sto) : Rs Bool := match a, b with
  | .loc l, .loc m => match getL S l, getL S m with
    | some ws, some [] => .ok ws.isEmpty S
    | _, _ => .bad
  | _, _ => .bad
def rEqE (K : PySem.W.Frag) : R2 := fun x y H Q => ∃ p q xs, x = .ref p ∧ y = .ref q ∧ SqL K H p xs ∧ SqL K H q [] ∧ Q (.bl xs.isEmpty) H
section
variable {X : Cx} {g : G} {Wx : WX} {k : Nat} {pos : Pos} {a b c : Expr} {x y z : XE}
end
end Rz
namespace Rz
open PySem PySem.Spec PyProof.Rows L2 PySem.W
theorem wr_eqE {S : Sto} {l m : Nat} {ws : List Va} {QB : Bool → Sto → Prop} {E : Xp} (h1 : S[l]? = some (.lst ws)) (h2 : S[m]? = some (.lst [])) (h : QB ws.isEmpty S) : wr (cEqE (.loc l) (.loc m) S) QB E := by
  refine wr_of ?_ h
  unfold cEqE
  dsimp only
  rw [getL_lst h1, getL_lst h2]
end Rz
namespace Rz
open PySem PySem.Spec PyProof.Rows L2
def whG (p : XT) (s : XS) : Nat → XS
  | 0 => fun _ _ => .bad
  | n + 1 => fun δ S => (p δ S).out δ fun t S1 => match t with
    | false => .nx δ S1
    | true => match s δ S1 with
      | .nx δ1 S2 => whG p s n δ1 S2
      | .ct δ1 S2 => whG p s n δ1 S2
      | .bk δ1 S2 => .nx δ1 S2
      | o => o
def whN : Nat := 1000000
def swhile (p : XT) (s : XS) : XS := whG p s whN
section
variable {X : Cx} {g : G} {Wx : WX} {k : Nat} {pos : Pos} {c : Expr} {p : XT} {s : XS}
end
section
variable {p : XT} {s : XS} {δ : Env} {S : Sto} {N : Env → Sto → Prop} {K : Ke}
theorem wo_whG (I : Nat → Env → Sto → Prop) (hs : ∀ m δ S, I m δ S → wr (p δ S) (fun t S1 => bif t then wo (s δ S1) (fun δ' S' => ∃ j, j < m ∧ I j δ' S') (K.lp N fun δ' S' => ∃ j, j < m ∧ I j δ' S') else N δ S1) (K.ex δ)) : ∀ n m δ S, m < n → I m δ S → wo (whG p s n δ S) N K
  | 0, m, _, _, hm, _ => absurd hm (Nat.not_lt_zero m)
  | n + 1, m, δ, S, hm, h => by
    unfold whG
    refine wo_out ((hs m δ S h).mono fun t S1 h1 => ?_)
    cases t with
    | false => with_unfolding_all exact h1
    | true =>
      have h1' : wo (s δ S1) (fun δ' S' => ∃ j, j < m ∧ I j δ' S') (K.lp N fun δ' S' => ∃ j, j < m ∧ I j δ' S') := h1
      dsimp only
      cases q : s δ S1 with
      | nx δ2 S2 =>
        rw [q] at h1'
        obtain ⟨j, hj, hi⟩ : ∃ j, j < m ∧ I j δ2 S2 := by with_unfolding_all exact h1'
        exact wo_whG I hs n j δ2 S2 (by omega) hi
      | ct δ2 S2 =>
        rw [q] at h1'
        obtain ⟨j, hj, hi⟩ : ∃ j, j < m ∧ I j δ2 S2 := by with_unfolding_all exact h1'
        exact wo_whG I hs n j δ2 S2 (by omega) hi
      | bk δ2 S2 => rw [q] at h1'; with_unfolding_all exact h1'
      | rt w S2 => rw [q] at h1'; with_unfolding_all exact h1'
      | ex c fs δ2 S2 => rw [q] at h1'; with_unfolding_all exact h1'
      | bad => rw [q] at h1'; with_unfolding_all exact h1'
theorem wo_while (I : Nat → Env → Sto → Prop) (m : Nat) (hm : m < 1000000) (h0 : I m δ S) (hs : ∀ m δ S, I m δ S → wr (p δ S) (fun t S1 => bif t then wo (s δ S1) (fun δ' S' => ∃ j, j < m ∧ I j δ' S') (K.lp N fun δ' S' => ∃ j, j < m ∧ I j δ' S') else N δ S1) (K.ex δ)) : wo (swhile p s δ S) N K :=
  wo_whG I hs whN m δ S hm h0
end
end Rz
namespace Rz
open PySem PySem.Spec PyProof.Rows L2
def oInc (a b : Va) (S : Sto) : Rs Va := match a, b with
  | .int i, .int j => .ok (.int (i + j)) S
  | _, _ => .bad
section
variable {X : Cx} {g : G} {Wx : WX} {k : Nat} {pos pos' : Pos} {e : Expr} {y : XE}
end
theorem wr_inc {i j : Int} {S : Sto} {QV : Va → Sto → Prop} {E : Xp} (h : QV (.int (i + j)) S) : wr (oInc (.int i) (.int j) S) QV E := by with_unfolding_all exact h
end Rz
namespace Rz
open PySem PySem.Spec PyProof.Rows L2
def cNeE (a b : Va) (S : Sto) : Rs Bool := match a, b with
  | .loc l, .loc m => match getL S l, getL S m with
    | some ws, some [] => .ok (!ws.isEmpty) S
    | _, _ => .bad
  | _, _ => .bad
def rNeE (K : PySem.W.Frag) : R2 := fun x y H Q => ∃ p q xs, x = .ref p ∧ y = .ref q ∧ SqL K H p xs ∧ SqL K H q [] ∧ Q (.bl (!xs.isEmpty)) H
section
variable {X : Cx} {g : G} {Wx : WX} {k : Nat} {pos : Pos} {a b c : Expr} {x y z : XE}
end
theorem wr_neE {S : Sto} {l m : Nat} {ws : List Va} {QB : Bool → Sto → Prop} {E : Xp} (h1 : S[l]? = some (.lst ws)) (h2 : S[m]? = some (.lst [])) (h : QB (!ws.isEmpty) S) : wr (cNeE (.loc l) (.loc m) S) QB E := by
  refine wr_of ?_ h
  unfold cNeE
  dsimp only
  rw [getL_lst h1, getL_lst h2]
end Rz
namespace Rz
open PySem PySem.Spec PyProof.Rows L2
section
variable {prog : Program} {w : World} {A : Around} {E : Value → Shared → Prop} {s : Shared}
end
def tRevT (K : PySem.W.Frag) (te : TE) : TE := fun σ H Q => te σ H fun x H1 => ∃ a xs, x = .ref a ∧ SqT K H1 a xs ∧ ∀ p, H1 p = none → Q (.ref p) (upd H1 p (.tup xs.reverse))
section
variable {X : Cx}
end
def oRevT (w : Va) (S : Sto) : Rs Va := match w with
  | .tup ws => ltup ws.reverse S
  | _ => .bad
section
variable {X : Cx} {g : G} {Wx : WX} {k : Nat} {pos : Pos} {a : Expr} {x : XE}
end
end Rz
namespace Rz
open PySem PySem.Spec PyProof.Rows L2
def cutS {α : Type} (xs : List α) (lo : Option Int) (m : Int) : List α :=
  (sliceRange (sliceBounds lo none (some m) xs.length).1 (sliceBounds lo none (some m) xs.length).2.1 (sliceBounds lo none (some m) xs.length).2.2).filterMap (xs[·]?)
section
variable {X : Cx}
def tStepL (K : PySem.W.Frag) (m : Nat) (te : TE) (tl : TO) : TE := fun σ H Q => te σ H fun x H1 => tl σ H1 fun l H2 => ∃ a xs, x = .ref a ∧ SqL K H2 a xs ∧ ∀ p, H2 p = none → Q (.ref p) (upd H2 p (.lst (cutS xs l (m : Int))))
end
def oCutS (w : Va) (lo : Option Int) (m : Nat) (S : Sto) : Rs Va := match w with
  | .loc l => match getL S l with
    | some ws => llst (cutS ws lo (m : Int)) S
    | none => .bad
  | _ => .bad
@[simp] def xsliceS (m : Nat) (x : XE) (p : XPt) : XE := fun δ S => (x δ S).bind fun w S1 => (p δ S1).bind fun lo S2 => oCutS w lo m S2
section
variable {X : Cx} {g : G} {Wx : WX} {k : Nat} {pos : Pos} {a : Expr} {x : XE}
end
def fStr (ws : List Va) (S : Sto) : Rs Va := match ws with
  | [.int i] => if i.natAbs.log2 < 1920 then .ok (.str (toString i)) S else .bad
  | _ => .bad
section
variable {X : Cx} {g : G} {Wx : WX} {k : Nat} {pos : Pos} {a : Expr} {r : XA}
end
end Rz
namespace Rz
open PySem PySem.Spec PyProof.Rows L2
section
variable {prog : Program} {w : World} {A : Around} {E : Value → Shared → Prop} {s : Shared} {r d : Addr} {es : Array DictEntry} {ep : Nat}
end
def putV : Hp → List Addr → List (V × V) → Hp
  | H, a :: as, p :: ps => putV (upd H a (.tup [p.1, p.2])) as ps
  | H, _, _ => H
section
variable {X : Cx} {pins : List (Addr × Obj)} {σ : L2.St} {H : Hp} {s : Shared} {d : Addr} {L : List (NestedKey × Addr × V)}
end
def rItemsN (P : Program) (w : World) : V → Hp → VK → Prop := fun x H Q => ∃ (d : Addr) (L : List (NestedKey × Addr × V)), x = .ref d ∧ Rd H d (dN P w d L) ∧
  ∀ (H' : Hp) (ts : List Addr), (∀ b o, H b = some o → H' b = some o) → ts.length = L.length → (∀ (j : Nat) (a : Addr) (r : NestedKey × Addr × V), ts[j]? = some a → L[j]? = some r → H' a = some (.tup [.ref r.2.1, r.2.2])) → ∀ p, H' p = none → Q (.ref p) (upd H' p (.lst (ts.map V.ref)))
section
variable {X : Cx} {e : Expr} {te : TE} {p apos cpos pos : Pos}
end
def fItmD (w : Va) (S : Sto) : Rs Va := match dctAt w S with
  | some kvs => llst (kvs.map fun p => .tup [p.1, p.2]) S
  | none => .bad
def xitems (x : XE) : XE := fun δ S => (x δ S).bind fItmD
section
variable {X : Cx} {g : G} {Wx : WX} {k : Nat} {p apos cpos pos : Pos} {e : Expr} {x : XE}
end
end Rz
namespace Rz
open PySem PySem.Spec PyProof.Rows L2 PySem.W
def xbad : XE := fun _ _ => .bad
def sbad : XS := fun _ _ => .bad
section
variable {X : Cx} {g : G} {Wx : WX} {k : Nat} {pos : Pos}
end
def nenm (l : Nat) : Nth := fun S i => (getL S l).map fun ws => ws[i]?.map fun w => .tup [.int (i : Nat), w]
def nzip (l m : Nat) : Nth := fun S i => match getL S l, getL S m with
  | some ws, some us => some (match ws[i]?, us[i]? with | some w, some u => some (.tup [w, u]) | _, _ => none)
  | _, _ => none
section
variable {g : G}
end
@[simp] def ienum (x : XE) : XI := fun δ S => (x δ S).bind fun w S1 => match w with
  | .loc l => match getL S1 l with
    | some ws => .ok (ws.length + 1, nenm l) S1
    | none => .bad
  | _ => .bad
@[simp] def izip (x y : XE) : XI := fun δ S => (x δ S).bind fun w S1 => (y δ S1).bind fun u S2 => match w, u with
  | .loc l, .loc m => match getL S2 l, getL S2 m with
    | some ws, some us => .ok (min ws.length us.length + 1, nzip l m) S2
    | _, _ => .bad
  | _, _ => .bad
section
variable {X : Cx} {g : G} {Wx : WX} {k : Nat} {pos tpos : Pos} {elts : List Expr} {kk : Nat} {a b : Expr} {x y : XE}
end
section
variable {δ : Env} {S : Sto} {E : Xp} {N : Env → Sto → Prop} {K : Ke} {x y : XE} {l m : Nat} {ws us : List Va} {put : XP} {body : XS}
theorem wr_enum {Q : Nat × Nth → Sto → Prop} (h : wr (x δ S) (fun w S1 => ∃ l ws, w = .loc l ∧ S1[l]? = some (.lst ws) ∧ Q (ws.length + 1, nenm l) S1) E) : wr (ienum x δ S) Q E := wr_bind (h.mono fun w S ⟨l, ws, e, e2, h⟩ => by
  subst e
  dsimp only
  rw [getL_lst e2]
  with_unfolding_all exact h)
def enmV (ws : List Va) : List Va := ws.mapIdx fun i w => .tup [.int (i : Nat), w]
theorem enmV_len (ws : List Va) : (enmV ws).length = ws.length := List.length_mapIdx
theorem enmV_get (ws : List Va) (i : Nat) : (enmV ws)[i]? = ws[i]?.map fun w => .tup [.int (i : Nat), w] := by unfold enmV; rw [List.getElem?_mapIdx]
theorem nenm_at {i : Nat} (h : S[l]? = some (.lst ws)) : nenm l S i = some (enmV ws)[i]? := by
  unfold nenm
  rw [getL_lst h, enmV_get]
  rfl
theorem wo_enm (I : Nat → Env → Sto → Prop) (h0 : I 0 δ S) (hn : ∀ i δ S, I i δ S → S[l]? = some (.lst ws)) (hs : ∀ i w δ S, ws[i]? = some w → I i δ S → ∃ δ1, put (.tup [.int (i : Nat), w]) δ = some δ1 ∧ wo (body δ1 S) (I (i + 1)) (K.lp N (I (i + 1))))
    (hq : ∀ δ S, I ws.length δ S → N δ S) : wo (forG (nenm l) put body (ws.length + 1) 0 δ S) N K :=
  wo_lp (ws := enmV ws) I (fun i δ S h => nenm_at (hn i δ S h)) (fun i w δ S hw h => by
    rw [enmV_get] at hw
    obtain ⟨u, hu, rfl⟩ := Option.map_eq_some_iff.mp hw
    exact hs i u δ S hu h) (fun δ S h => hq δ S (by rw [enmV_len] at h; exact h)) ws.length 0 δ S (by rw [enmV_len]; omega) h0
def zipV (ws us : List Va) : List Va := (ws.zip us).map fun p => .tup [p.1, p.2]
end
end Rz
namespace Rz
open PySem PySem.Spec PyProof.Rows L2 PySem.W
def oExt (w : Va) (ws : List Va) (S : Sto) : Rs Va := match w, ws with
  | .loc l, [.loc m] => match S[l]?, S[m]? with
    | some (.lst xs), some (.lst ys) => bif fits (xs.length + ys.length) then .ok .non (S.set l (.lst (xs ++ ys))) else .bad
    | _, _ => .bad
  | _, _ => .bad
section
variable {X : Cx} {g : G} {Wx : WX} {k : Nat} {pos : Pos} {a b : Expr} {x y : XE} {r : XA}
end
def iKeysF (P : Program) (w : World) (td : TE) : TI := fun σ H R => td σ H fun x H1 => ∃ d L, x = .ref d ∧ H1 d = some (dN P w d L) ∧ ∀ o, R (Itn P w d o L) (upd H1 d (.frz o (dN P w d L)))
def iItemsF (P : Program) (w : World) (td : TE) : TI := fun σ H R => td σ H fun x H1 => ∃ d L, x = .ref d ∧ H1 d = some (dN P w d L) ∧ ∀ o, R (Itp P w d o L) (upd H1 d (.frz o (dN P w d L)))
section
variable {X : Cx} {tg e : Expr} {td : TE} {apos cpos : Pos}
end
@[simp] def ikeysF (x : XE) : XI := fun δ S => (x δ S).bind fun w S1 => match w with
  | .loc l => match S1[l]? with
    | some (.dct kvs) => .ok (kvs.length + 1, nseq (kvs.map Prod.fst)) (S1.set l (.frd kvs))
    | _ => .bad
  | _ => .bad
@[simp] def iitemsF (x : XE) : XI := fun δ S => (x δ S).bind fun w S1 => match w with
  | .loc l => match S1[l]? with
    | some (.dct kvs) => .ok (kvs.length + 1, nseq (kvs.map fun p => .tup [p.1, p.2])) (S1.set l (.frd kvs))
    | _ => .bad
  | _ => .bad
section
variable {X : Cx} {g : G} {Wx : WX} {k : Nat} {tg e : Expr} {x : XE} {apos cpos : Pos}
end
section
variable {δ : Env} {S : Sto} {E : Xp} {x : XE} {l m : Nat} {ws us : List Va} {QV : Va → Sto → Prop}
theorem wr_ext (h1 : S[l]? = some (.lst ws)) (h2 : S[m]? = some (.lst us)) (h0 : ws.length + us.length ≤ 16777216) (h : ∀ T, T.length = S.length → KeepB l S T → T[l]? = some (.lst (ws ++ us)) → QV .non T) : wr (oExt (.loc l) [.loc m] S) QV E := by
  have e : oExt (.loc l) [.loc m] S = .ok .non (S.set l (.lst (ws ++ us))) := by
    unfold oExt
    dsimp only
    rw [h1, h2]
    dsimp only
    rw [fits_of h0]
    rfl
  rw [e]
  exact wr_of rfl (h _ (by simp) (KeepB.set _ _ _) (List.getElem?_set_self (lt_of h1)))
end
end Rz
namespace Rz.Sx
open PySem PySem.Spec PyProof.Rows L2 PySem.W
section
variable {P : Program} {w : World} {κ : Type} [DecidableEq κ] {M : Mk P w κ} {A : Around} {s : Shared} {a : Addr} {L : List (Addr × κ)} {es : Array (Int × Value)} {ep : Nat} {t : SetTable} {E : Value → Shared → Prop}
end
end Rz.Sx
namespace Rz
open PySem PySem.Spec PyProof.Rows L2 PySem.W
section
variable {X : Cx}
def rSIn (K : PySem.W.Frag) (P : Program) (w : World) : R2 := fun x y H Q => ∃ a L b k, y = .ref a ∧ x = .ref b ∧ H a = some (Sx.SetN P w a L) ∧ (∀ r ∈ L, KOk K H r.2 r.1) ∧ KOk K H k b ∧ Q (.bl (decide (k ∈ L.map Prod.snd))) H
def rSNin (K : PySem.W.Frag) (P : Program) (w : World) : R2 := fun x y H Q => ∃ a L b k, y = .ref a ∧ x = .ref b ∧ H a = some (Sx.SetN P w a L) ∧ (∀ r ∈ L, KOk K H r.2 r.1) ∧ KOk K H k b ∧ Q (.bl (!decide (k ∈ L.map Prod.snd))) H
end
@[simp] def sstAt (w : Va) (S : Sto) : Option (List Va) := match w with
  | .loc l => match S[l]? with
    | some (.sst ws) => some ws
    | _ => none
  | _ => none
@[simp] def fSetT (ws : List Va) (S : Sto) : Rs Va := match ws with
  | [w] => match itL w S with
    | some us => bif keyV us && us.all (fun u => (nkV u).isSome) then .ok (.loc S.length) (S ++ [.sst us]) else .bad
    | none => .bad
  | _ => .bad
def cSin (a b : Va) (S : Sto) : Rs Bool := match sstAt b S, keyT a with
  | some ws, some k => .ok (decide (some k ∈ ws.map nkV)) S
  | _, _ => .bad
def cSnin (a b : Va) (S : Sto) : Rs Bool := match sstAt b S, keyT a with
  | some ws, some k => .ok (!decide (some k ∈ ws.map nkV)) S
  | _, _ => .bad
section
variable {g : G}
end
section
variable {X : Cx} {g : G} {Wx : WX} {k : Nat} {pos : Pos} {a b : Expr} {x y : XE} {r : XA}
end
section
variable {S : Sto} {l : Nat} {QV : Va → Sto → Prop} {QB : Bool → Sto → Prop} {E : Xp} {a : Va} {us ws : List Va} {k : NestedKey} {t : Bool}
end
end Rz
namespace Rz
open PySem PySem.Spec PyProof.Rows L2
def oCutA (w : Va) (lo hi : Option Int) (S : Sto) : Rs Va := match w with
  | .tup ws => bif allOf ws.length lo hi then .ok (.tup ws) S else ltup (cutA ws lo hi) S
  | _ => .bad
@[simp] def xsliceA (x : XE) (p q : XPt) : XE := fun δ S => (x δ S).bind fun w S1 => (p δ S1).bind fun lo S2 => (q δ S2).bind fun hi S3 => oCutA w lo hi S3
section
variable {X : Cx} {g : G} {Wx : WX} {k : Nat} {pos : Pos} {a : Expr} {x : XE}
end
end Rz
namespace Rz
open PySem PySem.Spec PyProof.Rows L2
def cEqP (c1 : Nat) (m1 : List Va → Sto → Rs Va) (c2 : Nat) (m2 : List Va → Sto → Rs Va) (a b : Va) (S : Sto) : Rs Bool := match a, b with
  | .tup [.loc a1, .loc a2], .tup [.loc b1, .loc b2] => bif decide (a1 ≠ b1 ∧ a2 ≠ b2) && (insAt c1 (.loc b1) S).isSome then (match cEqO c1 m1 (.loc a1) (.loc b1) S with
      | .ok true S1 => bif (insAt c2 (.loc b2) S1).isSome then (match cEqO c2 m2 (.loc a2) (.loc b2) S1 with
        | .ok true S2 => .ok true S2
        | _ => .bad) else .bad
      | _ => .bad) else .bad
  | _, _ => .bad
section
variable {X : Cx} {g : G} {Wx : WX} {k : Nat}
end
end Rz
namespace Law
open PySem PySem.Spec PyProof.Rows L2 Rz
set_option maxRecDepth 100000
set_option maxHeartbeats 4000000
def top (i : Nat) : Stmt := PySem.Challenge.pw_loosecursors_k35_fewest_calls.main.body.getD i (.Pass ⟨0, 0, 0, 0⟩)
abbrev s_is_integer : Stmt := top 11
def b_is_integer : XS := (sret (xandV (xcall fIsi (acons (xvar 0) (acons (xlit (.ty 2)) anil))) (xnotV (xcall fIsi (acons (xvar 0) (acons (xlit (.ty 1)) anil))))))
def m_is_integer : List Va → Sto → Rs Va := mkFn 1 b_is_integer
abbrev s_is_between : Stmt := top 12
def b_is_between : XS := (sret (xandV (ycall 1 m_is_integer (acons (xvar 0) anil)) (xboo (xchain cLe cLe (xvar 1) (xvar 0) (xvar 2)))))
def m_is_between : List Va → Sto → Rs Va := mkFn 3 b_is_between
abbrev s_is_width : Stmt := top 13
def b_is_width : XS := (sret (ycall 3 m_is_between (acons (xvar 0) (acons (xlit (.int 0)) (acons (xlit (.int 5)) anil)))))
def m_is_width : List Va → Sto → Rs Va := mkFn 1 b_is_width
abbrev s_is_shape : Stmt := top 16
def b_is_shape : XS := (sseq (sif (xnot (xtru (xcall fIsi (acons (xvar 0) (acons (xlit (.ty 4)) anil))))) (sret (xlit (.bl false))) snext)
  (sseq (sif (xbinB cEq (xcall fLen (acons (xvar 0) anil)) (xlit (.int 1))) (sret (ycall 1 m_is_width (acons (xbin oIx (xvar 0) (xlit (.int 0))) anil))) snext)
  (sret (xandV (xboo (xbinB cEq (xcall fLen (acons (xvar 0) anil)) (xlit (.int 2)))) (xandV (ycall 1 m_is_width (acons (xbin oIx (xvar 0) (xlit (.int 0))) anil)) (xandV (ycall 1 m_is_width (acons (xbin oIx (xvar 0) (xlit (.int 1))) anil)) (xboo (xbinB cNe (xbin oIx (xvar 0) (xlit (.int 0))) (xbin oIx (xvar 0) (xlit (.int 1)))))))))))
def m_is_shape : List Va → Sto → Rs Va := mkFn 1 b_is_shape
abbrev s_is_change : Stmt := top 21
def b_is_change : XS := (sseq (sif (xor (xnot (xtru (xcall fIsi (acons (xvar 0) (acons (xlit (.ty 4)) anil))))) (xbinB cNe (xcall fLen (acons (xvar 0) anil)) (xlit (.int 2)))) (sret (xlit (.bl false))) snext)
  (sret (xandV (ycall 1 m_is_shape (acons (xbin oIx (xvar 0) (xlit (.int 0))) anil)) (xandV (ycall 1 m_is_shape (acons (xbin oIx (xvar 0) (xlit (.int 1))) anil)) (xboo (xbinB cNe (xbin oIx (xvar 0) (xlit (.int 0))) (xbin oIx (xvar 0) (xlit (.int 1)))))))))
def m_is_change : List Va → Sto → Rs Va := mkFn 1 b_is_change
abbrev s_are_changes : Stmt := top 22
def b_are_changes : XS := (sseq (sif (xnot (xtru (xcall fIsi (acons (xvar 0) (acons (xlit (.ty 5)) anil))))) (sret (xlit (.bl false))) snext)
  (sret (xandV (xcall fAll (acons (xcomp [1] (isq (xvar 0)) (pname 1) xyes (ycall 1 m_is_change (acons (xvar 1) anil))) anil)) (xboo (xbinB cEq (xcall fLenSet (acons (xvar 0) anil)) (xcall fLen (acons (xvar 0) anil)))))))
def m_are_changes : List Va → Sto → Rs Va := mkFn 2 b_are_changes
abbrev s_are_shapes : Stmt := top 17
def b_are_shapes : XS := (sseq (sif (xor (xnot (xtru (xcall fIsi (acons (xvar 0) (acons (xlit (.ty 5)) anil))))) (xnot (xtru (xvar 0)))) (sret (xlit (.bl false))) snext)
  (sret (xandV (xcall fAll (acons (xcomp [1] (isq (xvar 0)) (pname 1) xyes (ycall 1 m_is_shape (acons (xvar 1) anil))) anil)) (xboo (xbinB cEq (xcall fLenSet (acons (xvar 0) anil)) (xcall fLen (acons (xvar 0) anil)))))))
def m_are_shapes : List Va → Sto → Rs Va := mkFn 2 b_are_shapes
abbrev s_Road___init__ : Stmt := inClass (top 23) 0
def b_Road___init__ : XS := (sseq (sif (xor (xnot (xtru (ycall 1 m_are_shapes (acons (xvar 1) anil)))) (xnot (xtru (ycall 1 m_are_changes (acons (xvar 2) anil))))) (sraise 13) snext)
  (sseq (sfld 41 0 (xvar 0) (xcall fSrt (acons (xvar 1) anil)))
  (sseq (sfld 41 1 (xvar 0) (xcall fSrt (acons (xvar 2) anil)))
  (sfld 41 2 (xvar 0) (xcall fSrtSet (acons (xbin oAdd (xvar 1) (xcomp2 [3, 4] [4] (isq (xvar 2)) (pname 3) xyes (isq (xvar 3)) (pname 4) xyes (xvar 4))) anil))))))
def m_Road___init__ : List Va → Sto → Rs Va := mkFn 5 b_Road___init__
abbrev s__check_shape : Stmt := top 19
def b__check_shape : XS := (sif (xnot (xtru (ycall 1 m_is_shape (acons (xvar 0) anil)))) (sraise 6) snext)
def m__check_shape : List Va → Sto → Rs Va := mkFn 1 b__check_shape
abbrev s_buckets_of : Stmt := top 14
def b_buckets_of : XS := (sret (xbin oShl (xlit (.int 1)) (xvar 0)))
def m_buckets_of : List Va → Sto → Rs Va := mkFn 1 b_buckets_of
abbrev s_is_place : Stmt := top 18
def b_is_place : XS := (sseq (sexp (ycall 1 m__check_shape (acons (xvar 0) anil)))
  (sseq (sif (xor (xnot (xtru (xcall fIsi (acons (xvar 1) (acons (xlit (.ty 4)) anil))))) (xbinB cNe (xcall fLen (acons (xvar 1) anil)) (xlit (.int 2)))) (sret (xlit (.bl false))) snext)
  (sseq (sasg (ptup 2 (pcons (pname 2) (pcons (pname 3) pnil))) (xvar 1))
  (sret (xandV (ycall 3 m_is_between (acons (xvar 2) (acons (xlit (.int 0)) (acons (xbin oSub (xcall fLen (acons (xvar 0) anil)) (xlit (.int 1))) anil)))) (ycall 3 m_is_between (acons (xvar 3) (acons (xlit (.int 0)) (acons (xbin oSub (ycall 1 m_buckets_of (acons (xbin oIx (xvar 0) (xvar 2)) anil)) (xlit (.int 1))) anil)))))))))
def m_is_place : List Va → Sto → Rs Va := mkFn 4 b_is_place
abbrev s__are_places : Stmt := top 28
def b__are_places : XS := (sseq (sif (xor (xnot (xtru (xcall fIsi (acons (xvar 1) (acons (xlit (.ty 4)) anil))))) (xnot (xtru (xcall fAll (acons (xcomp [3] (isq (xvar 1)) (pname 3) xyes (ycall 2 m_is_place (acons (xvar 0) (acons (xvar 3) anil)))) anil))))) (sret (xlit (.bl false))) snext)
  (sret (xcall fAll (acons (xcomp [2] (irg2 (xlit (.int 1)) (xcall fLen (acons (xvar 1) anil))) (pname 2) xyes (xboo (xbinB cLtT (xbin oIx (xvar 1) (xbin oSub (xvar 2) (xlit (.int 1)))) (xbin oIx (xvar 1) (xvar 2))))) anil))))
def m__are_places : List Va → Sto → Rs Va := mkFn 4 b__are_places
abbrev s_is_call : Stmt := top 27
def b_is_call : XS := (sseq (sif (xor (xnot (xtru (xcall fIsi (acons (xvar 2) (acons (xlit (.ty 4)) anil))))) (xbinB cNe (xcall fLen (acons (xvar 2) anil)) (xlit (.int 2)))) (sret (xlit (.bl false))) snext)
  (sseq (sasg (ptup 2 (pcons (pname 3) (pcons (pname 4) pnil))) (xvar 2))
  (sret (xandV (ycall 2 m__are_places (acons (xvar 1) (acons (xvar 3) anil))) (xorV (xboo (xisN (xvar 4))) (ycall 3 m_is_between (acons (xvar 4) (acons (xlit (.int 0)) (acons (xbin oSub (xvar 0) (xlit (.int 1))) anil)))))))))
def m_is_call : List Va → Sto → Rs Va := mkFn 5 b_is_call
abbrev s__are_calls : Stmt := top 29
def b__are_calls : XS := (sseq (sif (xor (xnot (xtru (xcall fIsi (acons (xvar 2) (acons (xlit (.ty 5)) anil))))) (xbinB cNe (xcall fLen (acons (xvar 2) anil)) (xvar 0))) (sret (xlit (.bl false))) snext)
  (sret (xcall fAll (acons (xcomp [3] (isq (xvar 2)) (pname 3) xyes (ycall 3 m_is_call (acons (xvar 0) (acons (xvar 1) (acons (xvar 3) anil))))) anil))))
def m__are_calls : List Va → Sto → Rs Va := mkFn 4 b__are_calls
abbrev s_is_number_of_cursors : Stmt := top 26
def b_is_number_of_cursors : XS := (sret (ycall 3 m_is_between (acons (xvar 0) (acons (xlit (.int 1)) (acons (xlit (.int 64)) anil)))))
def m_is_number_of_cursors : List Va → Sto → Rs Va := mkFn 1 b_is_number_of_cursors
abbrev s__make_a_rule : Stmt := top 30
def b__make_a_rule : XS := (sseq (sif (xor (xnot (xtru (ycall 1 m_is_number_of_cursors (acons (xvar 0) anil)))) (xor (xnot (xtru (xcall fIsD (acons (xvar 1) (acons (xlit (.ty 6)) anil))))) (xnot (xtruD (xvar 1))))) (sret (xlit (.bl false))) snext)
  (sret (xcall fAll (acons (xlock (xvar 1) (xcomp [2, 3] (iitems (xvar 1)) (ptup 2 (pcons (pname 2) (pcons (pname 3) pnil))) xyes (xandV (ycall 1 m_is_shape (acons (xvar 2) anil)) (ycall 3 m__are_calls (acons (xvar 0) (acons (xvar 2) (acons (xvar 3) anil))))))) anil))))
def m__make_a_rule : List Va → Sto → Rs Va := mkFn 4 b__make_a_rule
abbrev s_Rule___init__ : Stmt := inClass (top 31) 0
def b_Rule___init__ : XS := (sseq (sif (xnot (xtru (ycall 2 m__make_a_rule (acons (xvar 1) (acons (xvar 2) anil))))) (sraise 9) snext)
  (sseq (sfld 40 0 (xvar 0) (xvar 1))
  (sfld 40 1 (xvar 0) (xdcomp [3] (isq (xcall fSrtD (acons (xvar 2) anil))) (pname 3) xyes (xvar 3) (xcall fList (acons (xbin oDix (xvar 2) (xvar 3)) anil))))))
def m_Rule___init__ : List Va → Sto → Rs Va := mkFn 4 b_Rule___init__
abbrev s__law_next : Stmt := top 44
def b__law_next : XS := (sseq (sset 1 (xbin oIx (xvar 0) (xlit (.int 1))))
  (sseq (ssub (xvar 0) (xlit (.int 1)) (xbin oAdd (xvar 1) (xlit (.int 1))))
  (sseq (sset 2 (xbin oAdd (xbin oMul (xvar 1) (xlit (.int 1051))) (xlit (.int 53))))
  (sseq (sif (xbinB cNe (xbin oIx (xvar 0) (xlit (.int 0))) (xlst anil)) (sset 2 (xbin oIx (xbin oIx (xvar 0) (xlit (.int 0))) (xbin oMod (xcall fInt (acons (xvar 1) anil)) (xcall fLen (acons (xbin oIx (xvar 0) (xlit (.int 0))) anil))))) snext)
  (sseq (sif (xand (xbinB cLt (xvar 1) (xcall fLen (acons (xbin oIx (xvar 0) (xlit (.int 0))) anil))) (xbinB cGe (xvar 2) (xbin oPow (xlit (.int 10)) (xlit (.int 18))))) (sret (xvar 2)) snext)
  (sseq (sset 3 (xbin oMod (xcall fInt (acons (xbin oAdd (xbin oAdd (xbin oMod (xcall fInt (acons (xvar 2) anil)) (xlit (.int 2147483587))) (xbin oMul (xvar 1) (xlit (.int 30103)))) (xlit (.int 79))) anil)) (xlit (.int 2147483587))))
  (sseq (sset 4 (xbin oMod (xcall fInt (acons (xbin oAdd (xbin oAdd (xbin oMul (xvar 3) (xvar 3)) (xbin oMul (xvar 1) (xlit (.int 70039)))) (xlit (.int 61))) anil)) (xlit (.int 2147483563))))
  (sseq (sset 5 (xbin oMod (xcall fInt (acons (xbin oAdd (xbin oAdd (xbin oMul (xvar 4) (xvar 4)) (xvar 3)) (xbin oMul (xbin oMul (xvar 1) (xvar 1)) (xlit (.int 37)))) anil)) (xlit (.int 2147483549))))
  (sret (xbin oAdd (xbin oMul (xbin oAdd (xbin oMul (xvar 5) (xlit (.int 2147483587))) (xvar 4)) (xlit (.int 2147483563))) (xvar 3)))))))))))
def m__law_next : List Va → Sto → Rs Va := mkFn 6 b__law_next
abbrev s__law_draw : Stmt := top 45
def b__law_draw : XS := (sseq (sif (xbinB cLt (xbin oIx (xvar 0) (xlit (.int 2))) (xvar 1)) (ssub (xvar 0) (xlit (.int 2)) (ycall 1 m__law_next (acons (xvar 0) anil))) snext)
  (sseq (sset 2 (xbin oMod (xcall fInt (acons (xbin oIx (xvar 0) (xlit (.int 2))) anil)) (xvar 1)))
  (sseq (ssub (xvar 0) (xlit (.int 2)) (xbin oDiv (xbin oIx (xvar 0) (xlit (.int 2))) (xvar 1)))
  (sret (xvar 2)))))
def m__law_draw : List Va → Sto → Rs Va := mkFn 3 b__law_draw
abbrev s__law_power : Stmt := top 46
def b__law_power : XS := (sret (xbin oIx (xlst (acons (xlit (.int 1)) (acons (xlit (.int 2)) (acons (xlit (.int 4)) (acons (xlit (.int 8)) (acons (xlit (.int 16)) (acons (xlit (.int 32)) anil))))))) (xvar 0)))
def m__law_power : List Va → Sto → Rs Va := mkFn 1 b__law_power
abbrev s__law_buckets : Stmt := top 49
def l__law_buckets_0 : XS := (sset 1 (xbin oAdd (xvar 1) (xcomp [3] (irg1 (ycall 1 m__law_power (acons (xbin oIx (xvar 0) (xvar 2)) anil))) (pname 3) xyes (xtup (acons (xvar 2) (acons (xvar 3) anil))))))
def b__law_buckets : XS := (sseq (sset 1 (xlst anil))
  (sseq (sfor (irg1 (xcall fLen (acons (xvar 0) anil))) (pname 2) l__law_buckets_0)
  (sret (xvar 1))))
def m__law_buckets : List Va → Sto → Rs Va := mkFn 4 b__law_buckets
abbrev s__law_some : Stmt := top 47
def b__law_some : XS := (sseq (sset 3 (xcall fList (acons (xvar 1) anil)))
  (sret (xcomp [4] (irg1 (ycall 2 m__law_draw (acons (xvar 0) (acons (xbin oAdd (xcall fMin2 (acons (xvar 2) (acons (xcall fLen (acons (xvar 3) anil)) anil))) (xlit (.int 1))) anil)))) (pname 4) xyes (xmetL oPop (xvar 3) (acons (ycall 2 m__law_draw (acons (xvar 0) (acons (xcall fLen (acons (xvar 3) anil)) anil))) anil)))))
def m__law_some : List Va → Sto → Rs Va := mkFn 5 b__law_some
abbrev s__law_call : Stmt := top 53
def b__law_call : XS := (sseq (sset 4 (ycall 1 m__law_buckets (acons (xvar 1) anil)))
  (sseq (sset 5 (ycall 2 m__law_draw (acons (xvar 0) (acons (xlit (.int 8)) anil))))
  (sseq (sset 6 (xite (xbinB cLt (xvar 5) (xlit (.int 4))) (xite (xbinB cLt (xbin oAdd (xvar 3) (xlit (.int 1))) (xvar 2)) (xbin oAdd (xvar 3) (xlit (.int 1))) (xlit .non)) (xite (xbinB cLt (xvar 5) (xlit (.int 7))) (ycall 2 m__law_draw (acons (xvar 0) (acons (xvar 2) anil))) (xlit .non))))
  (sseq (sset 7 (ycall 3 m__law_some (acons (xvar 0) (acons (xvar 4) (acons (xlit (.int 3)) anil)))))
  (sseq (sif (xbinB cEq (ycall 2 m__law_draw (acons (xvar 0) (acons (xlit (.int 3)) anil))) (xlit (.int 0))) (sset 7 (xcomp [8] (isq (xvar 4)) (pname 8) (xbinB cEq (xbin oMod (xcall fInt (acons (xbin oIx (xvar 8) (xlit (.int 1))) anil)) (xlit (.int 2))) (xbin oMod (xcall fInt (acons (xvar 3) anil)) (xlit (.int 2)))) (xvar 8))) snext)
  (sret (xtup (acons (xcall fTup (acons (xcall fSrt (acons (xvar 7) anil)) anil)) (acons (xvar 6) anil)))))))))
def m__law_call : List Va → Sto → Rs Va := mkFn 9 b__law_call
abbrev s__law_drawn : Stmt := top 54
def l__law_drawn_0 : XS := (sdsub (xvar 5) (xvar 3) (xcomp [6] (irg1 (xvar 4)) (pname 6) xyes (ycall 4 m__law_call (acons (xvar 0) (acons (xvar 3) (acons (xvar 4) (acons (xvar 6) anil)))))))
def b__law_drawn : XS := (sseq (sasg (ptup 2 (pcons (pname 4) (pcons (pname 5) pnil))) (xtup (acons (xbin oAdd (xlit (.int 1)) (ycall 2 m__law_draw (acons (xvar 0) (acons (xvar 2) anil)))) (acons xdict0 anil))))
  (sseq (sfor (isq (xvar 1)) (pname 3) l__law_drawn_0)
  (sret (xtup (acons (xvar 4) (acons (xvar 5) anil))))))
def m__law_drawn : List Va → Sto → Rs Va := mkFn 7 b__law_drawn
abbrev s__law_changes : Stmt := top 57
def l__law_changes_0 : XS := (sset 1 (xbin oAdd (xvar 1) (xcomp [3] (isq (xvar 0)) (pname 3) (xbinB cNe (xvar 3) (xvar 2)) (xtup (acons (xvar 2) (acons (xvar 3) anil))))))
def b__law_changes : XS := (sseq (sset 1 (xlst anil))
  (sseq (sfor (isq (xvar 0)) (pname 2) l__law_changes_0)
  (sret (xvar 1))))
def m__law_changes : List Va → Sto → Rs Va := mkFn 4 b__law_changes
abbrev s__law_road : Stmt := top 58
def b__law_road : XS := (sseq (sset 3 (ycall 3 m__law_some (acons (xvar 0) (acons (xvar 1) (acons (xcall fLen (acons (xvar 1) anil)) anil)))))
  (sseq (sset 4 (ycall 3 m__law_some (acons (xvar 0) (acons (ycall 1 m__law_changes (acons (xvar 1) anil)) (acons (xvar 2) anil)))))
  (sret (xtup (acons (xite (xbinB cNe (xvar 3) (xlst anil)) (xvar 3) (xslice (xvar 1) xnop (xpart (xlit (.int 1))))) (acons (xvar 4) anil))))))
def m__law_road : List Va → Sto → Rs Va := mkFn 5 b__law_road
abbrev s__law_counted : Stmt := top 51
def l__law_counted_1 : XS := (sseq (sset 6 (xite (xbinB cLt (xbin oAdd (xvar 5) (xlit (.int 1))) (ycall 1 m__law_power (acons (xcall fMax1 (acons (xvar 3) anil)) anil))) (xbin oAdd (xvar 5) (xlit (.int 1))) (xlit .non)))
  (sexp (xmetL oApp (xvar 4) (acons (xtup (acons (xcall fTup (acons (xcomp [7] (irg1 (xcall fLen (acons (xvar 3) anil))) (pname 7) (xbinB cLt (xvar 5) (ycall 1 m__law_power (acons (xbin oIx (xvar 3) (xvar 7)) anil))) (xtup (acons (xvar 7) (acons (xvar 5) anil)))) anil)) (acons (xvar 6) anil))) anil))))
def l__law_counted_0 : XS := (sseq (sset 4 (xlst anil))
  (sseq (sfor (irg1 (ycall 1 m__law_power (acons (xvar 1) anil))) (pname 5) l__law_counted_1)
  (sdsub (xvar 2) (xvar 3) (xvar 4))))
def b__law_counted : XS := (sseq (sset 1 (xcall fMax1 (acons (xcomp [3] (isq (xvar 0)) (pname 3) xyes (xcall fMax1 (acons (xvar 3) anil))) anil)))
  (sseq (sset 2 xdict0)
  (sseq (sfor (isq (xvar 0)) (pname 3) l__law_counted_0)
  (sret (xtup (acons (ycall 1 m__law_power (acons (xvar 1) anil)) (acons (xvar 2) anil)))))))
def m__law_counted : List Va → Sto → Rs Va := mkFn 8 b__law_counted
abbrev s__law_bits : Stmt := top 50
def l__law_bits_0 : XS := (sseq (sset 2 (xbin oAdd (xbin oMul (xvar 2) (xlit (.int 2))) (xbin oMod (xcall fInt (acons (xvar 0) anil)) (xlit (.int 2)))))
  (sset 0 (xbin oDiv (xvar 0) (xlit (.int 2)))))
def b__law_bits : XS := (sseq (sset 2 (xlit (.int 0)))
  (sseq (sfor (irg1 (xvar 1)) (pname 3) l__law_bits_0)
  (sret (xvar 2))))
def m__law_bits : List Va → Sto → Rs Va := mkFn 4 b__law_bits
abbrev s__law_turned_rule : Stmt := top 52
def l__law_turned_rule_1 : XS := (sseq (sset 7 (ycall 1 m__law_power (acons (xbin oSub (xvar 1) (xcall fMin1 (acons (xvar 3) anil))) anil)))
  (sseq (sset 8 (xbin oMul (xbin oAdd (xbin oDiv (ycall 2 m__law_bits (acons (xvar 4) (acons (xvar 1) anil))) (xvar 7)) (xlit (.int 1))) (xvar 7)))
  (sseq (sset 9 (xcomp [10] (isq (ycall 1 m__law_buckets (acons (xvar 3) anil))) (pname 10) (xbinB cEq (xbin oMod (xcall fInt (acons (xbin oIx (xvar 10) (xlit (.int 1))) anil)) (xvar 6)) (xbin oMod (xcall fInt (acons (xvar 4) anil)) (xvar 6))) (xvar 10)))
  (sexp (xmetL oApp (xvar 5) (acons (xtup (acons (xcall fTup (acons (xvar 9) anil)) (acons (xite (xbinB cLt (xvar 8) (ycall 1 m__law_power (acons (xvar 1) anil))) (ycall 2 m__law_bits (acons (xvar 8) (acons (xvar 1) anil))) (xlit .non)) anil))) anil))))))
def l__law_turned_rule_0 : XS := (sseq (sasg (ptup 2 (pcons (pname 5) (pcons (pname 6) pnil))) (xtup (acons (xlst anil) (acons (ycall 1 m__law_power (acons (xcall fMin1 (acons (xvar 3) anil)) anil)) anil))))
  (sseq (sfor (irg1 (ycall 1 m__law_power (acons (xvar 1) anil))) (pname 4) l__law_turned_rule_1)
  (sdsub (xvar 2) (xvar 3) (xvar 5))))
def b__law_turned_rule : XS := (sseq (sset 1 (xcall fMax1 (acons (xcomp [3] (isq (xvar 0)) (pname 3) xyes (xcall fMax1 (acons (xvar 3) anil))) anil)))
  (sseq (sset 2 xdict0)
  (sseq (sfor (isq (xvar 0)) (pname 3) l__law_turned_rule_0)
  (sret (xtup (acons (ycall 1 m__law_power (acons (xvar 1) anil)) (acons (xvar 2) anil)))))))
def m__law_turned_rule : List Va → Sto → Rs Va := mkFn 11 b__law_turned_rule
abbrev s__law_rule : Stmt := top 55
def l__law_rule_0 : XS := (sseq (spar [7, 8] (acons (xbin oIx (xvar 1) (ycall 2 m__law_draw (acons (xvar 0) (acons (xcall fLen (acons (xvar 1) anil)) anil)))) (acons (ycall 2 m__law_draw (acons (xvar 0) (acons (xvar 5) anil))) anil)))
  (ssub (xbin oDix (xvar 6) (xvar 7)) (xvar 8) (ycall 4 m__law_call (acons (xvar 0) (acons (xvar 7) (acons (xvar 5) (acons (xvar 8) anil)))))))
def b__law_rule : XS := (sseq (sset 3 (ycall 2 m__law_draw (acons (xvar 0) (acons (xlit (.int 3)) anil))))
  (sseq (sif (xbinB cEq (xvar 3) (xlit (.int 0))) (sret (ycall 3 m__law_drawn (acons (xvar 0) (acons (xvar 1) (acons (xvar 2) anil))))) snext)
  (sseq (sasg (ptup 2 (pcons (pname 5) (pcons (pname 6) pnil))) (ycall 1 m__law_counted (acons (xvar 1) anil)))
  (sseq (sif (xbinB cEq (xvar 3) (xlit (.int 2))) (sasg (ptup 2 (pcons (pname 5) (pcons (pname 6) pnil))) (ycall 1 m__law_turned_rule (acons (xvar 1) anil))) snext)
  (sseq (sfor (irg1 (ycall 2 m__law_draw (acons (xvar 0) (acons (xlit (.int 3)) anil)))) (pname 4) l__law_rule_0)
  (sret (xtup (acons (xvar 5) (acons (xvar 6) anil)))))))))
def m__law_rule : List Va → Sto → Rs Va := mkFn 9 b__law_rule
abbrev s__law_shapes : Stmt := top 48
def l__law_shapes_0 : XS := (sseq (sset 3 (xbin oAdd (xvar 3) (xcomp [6] (irg1 (xbin oAdd (xvar 2) (xlit (.int 1)))) (pname 6) (xbinB cEq (xcall fAbs (acons (xbin oSub (xvar 4) (xvar 6)) anil)) (xlit (.int 1))) (xtup (acons (xvar 4) (acons (xvar 6) anil))))))
  (sset 3 (xbin oAdd (xvar 3) (xslice (xcomp [6] (irg1 (xbin oAdd (xvar 2) (xlit (.int 1)))) (pname 6) (xbinB cEq (xcall fAbs (acons (xbin oSub (xvar 4) (xvar 6)) anil)) (xlit (.int 2))) (xtup (acons (xvar 4) (acons (xvar 6) anil)))) xnop (xpart (xlit (.int 1)))))))
def b__law_shapes : XS := (sseq (sset 3 (xcomp [4] (irg1 (xbin oAdd (xvar 2) (xlit (.int 1)))) (pname 4) xyes (xtup (acons (xvar 4) anil))))
  (sseq (sfor (irg1 (xbin oAdd (xvar 2) (xlit (.int 1)))) (pname 4) l__law_shapes_0)
  (sseq (sset 5 (ycall 3 m__law_some (acons (xvar 0) (acons (xvar 3) (acons (xvar 1) anil)))))
  (sret (xite (xbinB cNe (xvar 5) (xlst anil)) (xvar 5) (xlst (acons (xtup (acons (ycall 2 m__law_draw (acons (xvar 0) (acons (xbin oAdd (xvar 2) (xlit (.int 1))) anil))) anil)) anil)))))))
def m__law_shapes : List Va → Sto → Rs Va := mkFn 7 b__law_shapes
abbrev s__law_case : Stmt := top 68
def b__law_case : XS := (sseq (sset 1 (xboo (xbinB cEq (ycall 2 m__law_draw (acons (xvar 0) (acons (xlit (.int 6)) anil))) (xlit (.int 0)))))
  (sseq (sset 2 (ycall 3 m__law_shapes (acons (xvar 0) (acons (xlit (.int 3)) (acons (xite (xtru (xvar 1)) (xlit (.int 5)) (xlit (.int 2))) anil)))))
  (sseq (sset 3 (xite (xtru (xvar 1)) (ycall 3 m__law_drawn (acons (xvar 0) (acons (xvar 2) (acons (xlit (.int 3)) anil)))) (ycall 3 m__law_rule (acons (xvar 0) (acons (xvar 2) (acons (xlit (.int 5)) anil))))))
  (sret (xtup (acons (xvar 3) (acons (ycall 3 m__law_road (acons (xvar 0) (acons (xorT (ycall 3 m__law_some (acons (xvar 0) (acons (xvar 2) (acons (xlit (.int 3)) anil)))) (xslice (xvar 2) xnop (xpart (xlit (.int 1))))) (acons (xlit (.int 5)) anil)))) anil)))))))
def m__law_case : List Va → Sto → Rs Va := mkFn 4 b__law_case
abbrev s__law_pen : Stmt := top 43
def b__law_pen : XS := (sret (xlst (acons (xcall fList (acons (xslice (xvar 0) xnop (xpart (xlit (.int 60)))) anil)) (acons (xlit (.int 0)) (acons (xlit (.int 0)) anil)))))
def m__law_pen : List Va → Sto → Rs Va := mkFn 1 b__law_pen
abbrev s_Road___eq__ : Stmt := inClass (top 23) 7
def b_Road___eq__ : XS := (sret (xandV (xcall (fIsC 41) (acons (xvar 1) (acons (xlit (.cl 41)) anil))) (xandV (xboo (xbinB cEq (xfld 41 0 (xvar 0)) (xfld 41 0 (xvar 1)))) (xboo (xbinB cEq (xfld 41 1 (xvar 0)) (xfld 41 1 (xvar 1)))))))
def m_Road___eq__ : List Va → Sto → Rs Va := mkFn 2 b_Road___eq__
abbrev s_Rule___eq__ : Stmt := inClass (top 31) 8
def b_Rule___eq__ : XS := (sret (xandV (xcall (fIsC 40) (acons (xvar 1) (acons (xlit (.cl 40)) anil))) (xandV (xboo (xbinB cEq (xfld 40 0 (xvar 0)) (xfld 40 0 (xvar 1)))) (xboo (xbinB cEqD (xfld 40 1 (xvar 0)) (xfld 40 1 (xvar 1)))))))
def m_Rule___eq__ : List Va → Sto → Rs Va := mkFn 2 b_Rule___eq__
abbrev s__law_after : Stmt := top 61
def b__law_after : XS := (sret (xcall fSrt (acons (xbin oAdd (xlst (acons (xvar 1) anil)) (xcomp [2] (isq (xbin oIx (xvar 0) (xlit (.int 1)))) (pname 2) (xbinB cEq (xbin oIx (xvar 2) (xlit (.int 0))) (xvar 1)) (xbin oIx (xvar 2) (xlit (.int 1))))) anil)))
def m__law_after : List Va → Sto → Rs Va := mkFn 3 b__law_after
abbrev s__law_sides : Stmt := top 60
def b__law_sides : XS := (sret (xslice (xlst (acons (xlit (.bl false)) (acons (xlit (.bl true)) anil))) xnop (xpart (xcall fLen (acons (xvar 0) anil)))))
def m__law_sides : List Va → Sto → Rs Va := mkFn 1 b__law_sides
abbrev s__law_later : Stmt := top 63
def l__law_later_0 : XS := (sset 4 (xbin oAdd (xvar 4) (xcomp [6] (isq (ycall 1 m__law_sides (acons (xvar 5) anil))) (pname 6) xyes (xtup (acons (xvar 5) (acons (xvar 6) (acons (xvar 3) anil)))))))
def b__law_later : XS := (sseq (sset 3 (xbin oIx (xbin oIx (xbin oDix (xbin oIx (xvar 0) (xlit (.int 1))) (xbin oIx (xvar 2) (xlit (.int 0)))) (xbin oIx (xvar 2) (xlit (.int 2)))) (xlit (.int 1))))
  (sseq (sset 4 (xlst anil))
  (sseq (sfor (isq (xite (xisN (xvar 3)) (xlst anil) (ycall 2 m__law_after (acons (xvar 1) (acons (xbin oIx (xvar 2) (xlit (.int 0))) anil))))) (pname 5) l__law_later_0)
  (sret (xvar 4)))))
def m__law_later : List Va → Sto → Rs Va := mkFn 7 b__law_later
abbrev s__law_starts : Stmt := top 62
def l__law_starts_0 : XS := (sset 1 (xbin oAdd (xvar 1) (xcomp [3] (isq (ycall 1 m__law_sides (acons (xvar 2) anil))) (pname 3) xyes (xtup (acons (xvar 2) (acons (xvar 3) (acons (xlit (.int 0)) anil)))))))
def b__law_starts : XS := (sseq (sset 1 (xlst anil))
  (sseq (sfor (isq (xcall fSrt (acons (xbin oIx (xvar 0) (xlit (.int 0))) anil))) (pname 2) l__law_starts_0)
  (sret (xvar 1))))
def m__law_starts : List Va → Sto → Rs Va := mkFn 4 b__law_starts
abbrev s__law_situations : Stmt := top 67
def l__law_situations_0 : XS := (sseq (sset 6 (xcomp [7] (isq (xvar 5)) (pname 7) (xbinB cEq (xcall fReprY (acons (xsliceT (xvar 7) xnop (xpart (xlit (.int 2)))) anil)) (xcall fReprY (acons (xvar 3) anil))) (xvar 7)))
  (sseq (sif (xbinB cEqE (xvar 6) (xlst anil)) (sret (xlit .non)) snext)
  (sseq (sexp (xmetL oApp (xvar 4) (acons (xbin oIx (xvar 6) (xlit (.int 0))) anil)))
  (sset 5 (ycall 3 m__law_later (acons (xvar 0) (acons (xvar 1) (acons (xbin oIx (xvar 6) (xlit (.int 0))) anil))))))))
def b__law_situations : XS := (sseq (sif (xor (xnot (xtru (xcall fIsi (acons (xvar 2) (acons (xlit (.ty 5)) anil))))) (xbinB cEqE (xvar 2) (xlst anil))) (sret (xlit .non)) snext)
  (sseq (spar [4, 5] (acons (xlst anil) (acons (ycall 1 m__law_starts (acons (xvar 1) anil)) anil)))
  (sseq (sfor (isq (xvar 2)) (pname 3) l__law_situations_0)
  (sret (xvar 4)))))
def m__law_situations : List Va → Sto → Rs Va := mkFn 8 b__law_situations
abbrev s__law_is_done : Stmt := top 70
def b__law_is_done : XS := (sseq (sset 2 (ycall 3 m__law_situations (acons (xbin oIx (xvar 0) (xlit (.int 0))) (acons (xbin oIx (xvar 0) (xlit (.int 1))) (acons (xvar 1) anil)))))
  (sret (xandV (xboo (xnot (xisN (xvar 2)))) (xboo (xbinB cEqE (ycall 3 m__law_later (acons (xbin oIx (xvar 0) (xlit (.int 0))) (acons (xbin oIx (xvar 0) (xlit (.int 1))) (acons (xbin oIx (xvar 2) (xun oNeg (xlit (.int 1)))) anil)))) (xlst anil))))))
def m__law_is_done : List Va → Sto → Rs Va := mkFn 3 b__law_is_done
abbrev s__law_spot : Stmt := top 64
def b__law_spot : XS := (sret (xtup (acons (xcall fInt (acons (xvar 2) anil)) (acons (xbin oMod (xcall fInt (acons (xvar 1) anil)) (ycall 1 m__law_power (acons (xbin oIx (xvar 0) (xcall fInt (acons (xvar 2) anil))) anil))) anil))))
def m__law_spot : List Va → Sto → Rs Va := mkFn 3 b__law_spot
abbrev s__law_is_listed : Stmt := top 65
def b__law_is_listed : XS := (sseq (sasg (ptup 3 (pcons (pname 3) (pcons (pname 4) (pcons (pname 5) pnil)))) (xvar 1))
  (sret (xboo (xbinB cInT (ycall 3 m__law_spot (acons (xvar 3) (acons (xvar 2) (acons (xvar 4) anil)))) (xbin oIx (xbin oIx (xbin oDix (xbin oIx (xvar 0) (xlit (.int 1))) (xvar 3)) (xvar 5)) (xlit (.int 0)))))))
def m__law_is_listed : List Va → Sto → Rs Va := mkFn 6 b__law_is_listed
abbrev s__law_reached : Stmt := top 66
def l__law_reached_0 : XS := (sseq (sset 4 (xmetL oPop (xvar 3) (acons (xlit (.int 0)) anil)))
  (sif (xbinB cDnin (xvar 4) (xvar 2)) (sseq (sdsub (xvar 2) (xvar 4) (xlit (.bl true)))
  (sexp (xmetL oExt (xvar 3) (acons (ycall 3 m__law_later (acons (xvar 0) (acons (xvar 1) (acons (xvar 4) anil)))) anil)))) snext))
def b__law_reached : XS := (sseq (spar [2, 3] (acons xdict0 (acons (ycall 1 m__law_starts (acons (xvar 1) anil)) anil)))
  (sseq (swhile (xbinB cNeE (xvar 3) (xlst anil)) l__law_reached_0)
  (sret (xcall fListD (acons (xvar 2) anil)))))
def m__law_reached : List Va → Sto → Rs Va := mkFn 5 b__law_reached
abbrev s__law_least : Stmt := top 69
def l__law_least_2 : XS := (sdsub (xvar 6) (xvar 5) (xcall fMin1 (acons (xbin oAdd (xlst (acons (xbin oDix (xvar 6) (xvar 5)) anil)) (xcomp [12] (isq (xbin oDix (xvar 2) (xvar 5))) (pname 12) xyes (xbin oAdd (xbin oDix (xvar 9) (xvar 5)) (xbin oDix (xvar 6) (xvar 12))))) anil)))
def l__law_least_1 : XS := (slock (xvar 2) (sfor (ikeys (xvar 2)) (pname 5) l__law_least_2))
def l__law_least_3 : XS := (sdsub (xvar 9) (xvar 5) (xite (xbinB cEq (xvar 4) (xlit (.int 0))) (xlit (.int 1)) (xcall fInt (acons (ycall 3 m__law_is_listed (acons (xbin oIx (xvar 0) (xlit (.int 0))) (acons (xvar 5) (acons (xvar 1) anil)))) anil))))
def l__law_least_0 : XS := (sseq (sasg (ptup 2 (pcons (pname 9) (pcons (pname 10) pnil))) (xtup (acons xdict0 (acons (xbin oPow (xlit (.int 10)) (xlit (.int 6))) anil))))
  (sseq (slock (xvar 2) (sfor (ikeys (xvar 2)) (pname 5) l__law_least_3))
  (sseq (sset 6 (xcall fDictP (acons (xlock (xvar 2) (xcomp [5] (ikeys (xvar 2)) (pname 5) xyes (xtup (acons (xvar 5) (acons (xite (xbinB cEqE (xbin oDix (xvar 2) (xvar 5)) (xlst anil)) (xbin oDix (xvar 9) (xvar 5)) (xvar 10)) anil))))) anil)))
  (sseq (sfor (irg1 (xcall fLenD (acons (xvar 2) anil))) (pname 7) l__law_least_1)
  (sseq (sset 8 (xcall fMin1 (acons (xcomp [11] (isq (ycall 1 m__law_starts (acons (xbin oIx (xvar 0) (xlit (.int 1))) anil))) (pname 11) xyes (xbin oDix (xvar 6) (xvar 11))) anil)))
  (sexp (xmetL oApp (xvar 3) (acons (xite (xbinB cGe (xvar 8) (xvar 10)) (xlit .non) (xvar 8)) anil))))))))
def b__law_least : XS := (sseq (sset 2 (xcall fDictP (acons (xcomp [5] (isq (ycall 2 m__law_reached (acons (xbin oIx (xvar 0) (xlit (.int 0))) (acons (xbin oIx (xvar 0) (xlit (.int 1))) anil)))) (pname 5) xyes (xtup (acons (xvar 5) (acons (ycall 3 m__law_later (acons (xbin oIx (xvar 0) (xlit (.int 0))) (acons (xbin oIx (xvar 0) (xlit (.int 1))) (acons (xvar 5) anil)))) anil)))) anil)))
  (sseq (sset 3 (xlst anil))
  (sseq (sfor (irg1 (xlit (.int 2))) (pname 4) l__law_least_0)
  (sret (xvar 3)))))
def m__law_least : List Va → Sto → Rs Va := mkFn 13 b__law_least
abbrev s__law_road_of : Stmt := top 59
def b__law_road_of : XS := (sret (ynew 41 3 m_Road___init__ (acons (xbin oIx (xvar 0) (xlit (.int 0))) (acons (xbin oIx (xvar 0) (xlit (.int 1))) anil))))
def m__law_road_of : List Va → Sto → Rs Va := mkFn 1 b__law_road_of
abbrev s__law_rule_of : Stmt := top 56
def b__law_rule_of : XS := (sret (ynew 40 3 m_Rule___init__ (acons (xbin oIx (xvar 0) (xlit (.int 0))) (acons (xbin oIx (xvar 0) (xlit (.int 1))) anil))))
def m__law_rule_of : List Va → Sto → Rs Va := mkFn 1 b__law_rule_of
abbrev s_Road_shapes : Stmt := inClass (top 23) 3
def b_Road_shapes : XS := (sret (xcall fList (acons (xfld 41 2 (xvar 0)) anil)))
def m_Road_shapes : List Va → Sto → Rs Va := mkFn 1 b_Road_shapes
abbrev s_Rule_shapes : Stmt := inClass (top 31) 2
def b_Rule_shapes : XS := (sret (xcall fListD (acons (xfld 40 1 (xvar 0)) anil)))
def m_Rule_shapes : List Va → Sto → Rs Va := mkFn 1 b_Rule_shapes
abbrev s_check_match : Stmt := top 33
def b_check_match : XS := (sseq (sif (xor (xnot (xtru (xcall (fIsC 40) (acons (xvar 0) (acons (xlit (.cl 40)) anil))))) (xnot (xtru (xcall (fIsC 41) (acons (xvar 1) (acons (xlit (.cl 41)) anil)))))) (sraise 15) snext)
  (sseq (sset 2 (yprop 40 m_Rule_shapes (xvar 0)))
  (sif (xnot (xtru (xcall fAll (acons (xcomp [3] (isq (yprop 41 m_Road_shapes (xvar 1))) (pname 3) xyes (xboo (xbinB cIn (xvar 3) (xvar 2)))) anil)))) (sraise 15) snext)))
def m_check_match : List Va → Sto → Rs Va := mkFn 4 b_check_match
abbrev s_ends_of : Stmt := top 37
def b_ends_of : XS := (sret (xlock (xvar 0) (xdcomp [1] (ikeys (xvar 0)) (pname 1) (xnot (xtru (xbin oDix (xvar 0) (xvar 1)))) (xvar 1) (xlit (.bl true)))))
def m_ends_of : List Va → Sto → Rs Va := mkFn 2 b_ends_of
abbrev s__way_to : Stmt := top 39
def l__way_to_0 : XS := (sexp (xmetL oApp (xvar 2) (acons (xbin oDix (xvar 1) (xbin oIx (xvar 2) (xun oNeg (xlit (.int 1))))) anil)))
def b__way_to : XS := (sseq (sset 2 (xlst (acons (xvar 0) anil)))
  (sseq (swhile (xnot (xisN (xbin oDix (xvar 1) (xbin oIx (xvar 2) (xun oNeg (xlit (.int 1))))))) l__way_to_0)
  (sret (xun oRev (xvar 2)))))
def m__way_to : List Va → Sto → Rs Va := mkFn 3 b__way_to
abbrev s_first_way : Stmt := top 38
def l_first_way_1 : XS := (sif (xbinB cDnin (xvar 7) (xvar 3)) (sseq (sdsub (xvar 3) (xvar 7) (xvar 6))
  (sexp (xmetL oApp (xvar 4) (acons (xvar 7) anil)))) snext)
def l_first_way_0 : XS := (sseq (sset 6 (xbin oIx (xvar 4) (xvar 5)))
  (sseq (sif (xbinB cDin (xvar 6) (xvar 2)) (sret (ycall 2 m__way_to (acons (xvar 6) (acons (xvar 3) anil)))) snext)
  (sseq (sfor (isq (xbin oDix (xvar 1) (xvar 6))) (pname 7) l_first_way_1)
  (sset 5 (xbin oInc (xvar 5) (xlit (.int 1)))))))
def b_first_way : XS := (sseq (sset 3 (xdcomp [6] (isq (xvar 0)) (pname 6) xyes (xvar 6) (xlit .non)))
  (sseq (sset 4 (xcall fList (acons (xvar 0) anil)))
  (sseq (sset 5 (xlit (.int 0)))
  (sseq (swhile (xbinB cLt (xvar 5) (xcall fLen (acons (xvar 4) anil))) l_first_way_0)
  (sret (xlit .non))))))
def m_first_way : List Va → Sto → Rs Va := mkFn 8 b_first_way
abbrev s_Road_begin : Stmt := inClass (top 23) 1
def b_Road_begin : XS := (sret (xcall fList (acons (xfld 41 0 (xvar 0)) anil)))
def m_Road_begin : List Va → Sto → Rs Va := mkFn 1 b_Road_begin
abbrev s_states_at_begin : Stmt := top 35
def b_states_at_begin : XS := (sret (xcomp [1] (isq (yprop 41 m_Road_begin (xvar 0))) (pname 1) xyes (xtup (acons (xvar 1) (acons (xlit (.int 0)) anil)))))
def m_states_at_begin : List Va → Sto → Rs Va := mkFn 2 b_states_at_begin
abbrev s_Road_behind : Stmt := inClass (top 23) 4
def b_Road_behind : XS := (sseq (sif (xor (xnot (xtru (ycall 1 m_is_shape (acons (xvar 1) anil)))) (xbinB cNin (xvar 1) (xfld 41 2 (xvar 0)))) (sraise 11) snext)
  (sret (xcall fSrt (acons (xbin oAdd (xlst (acons (xvar 1) anil)) (xcomp [2, 3] (isq (xfld 41 1 (xvar 0))) (ptup 2 (pcons (pname 2) (pcons (pname 3) pnil))) (xbinB cEq (xvar 2) (xvar 1)) (xvar 3))) anil))))
def m_Road_behind : List Va → Sto → Rs Va := mkFn 4 b_Road_behind
abbrev s_Rule_calls : Stmt := inClass (top 31) 3
def b_Rule_calls : XS := (sret (xlock (xfld 40 1 (xvar 0)) (xdcomp [1, 2] (iitems (xfld 40 1 (xvar 0))) (ptup 2 (pcons (pname 1) (pcons (pname 2) pnil))) xyes (xvar 1) (xcall fList (acons (xvar 2) anil)))))
def m_Rule_calls : List Va → Sto → Rs Va := mkFn 3 b_Rule_calls
abbrev s_states_behind : Stmt := top 36
def l_states_behind_1 : XS := (sdsub (xvar 3) (xtup (acons (xvar 4) (acons (xvar 6) anil))) (xite (xisN (xvar 8)) (xlst anil) (xcomp [9] (isq (xvar 5)) (pname 9) xyes (xtup (acons (xvar 9) (acons (xvar 8) anil))))))
def l_states_behind_0 : XS := (sseq (sset 5 (ymeth 41 2 m_Road_behind (xvar 1) (acons (xvar 4) anil)))
  (sfor (ienum (xbin oDix (xvar 2) (xvar 4))) (ptup 2 (pcons (pname 6) (pcons (ptup 2 (pcons (pname 7) (pcons (pname 8) pnil))) pnil))) l_states_behind_1))
def b_states_behind : XS := (sseq (sset 2 (yprop 40 m_Rule_calls (xvar 0)))
  (sseq (sset 3 xdict0)
  (sseq (sfor (isq (yprop 41 m_Road_shapes (xvar 1))) (pname 4) l_states_behind_0)
  (sret (xvar 3)))))
def m_states_behind : List Va → Sto → Rs Va := mkFn 10 b_states_behind
abbrev s_fewest_calls : Stmt := top 41
def b_fewest_calls : XS := (sseq (sexp (ycall 2 m_check_match (acons (xvar 0) (acons (xvar 1) anil))))
  (sseq (sset 2 (ycall 2 m_states_behind (acons (xvar 0) (acons (xvar 1) anil))))
  (sseq (sset 3 (ycall 3 m_first_way (acons (ycall 1 m_states_at_begin (acons (xvar 1) anil)) (acons (xvar 2) (acons (ycall 1 m_ends_of (acons (xvar 2) anil)) anil)))))
  (sseq (sif (xisN (xvar 3)) (sret (xlit .non)) snext)
  (sret (xtup (acons (xcall fLen (acons (xvar 3) anil)) (acons (xcomp [4, 5] (isq (xvar 3)) (ptup 2 (pcons (pname 4) (pcons (pname 5) pnil))) xyes (xtup (acons (xvar 4) (acons (xlit (.bl false)) anil)))) anil))))))))
def m_fewest_calls : List Va → Sto → Rs Va := mkFn 6 b_fewest_calls
abbrev s__law_right : Stmt := top 71
def l__law_right_0 : XS := (sseq (sset 4 (ycall 2 m_fewest_calls (acons (xbin oIx (xvar 0) (xlit (.int 0))) (acons (xbin oIx (xvar 0) (xlit (.int 1))) anil))))
  (sseq (sif (xbinB cNe (xboo (xisN (xvar 4))) (xboo (xisN (xvar 2)))) (sret (xlit (.bl false))) snext)
  (sif (xnot (xisN (xvar 4))) (sseq (sif (xor (xnot (xtru (xcall fIsi (acons (xvar 4) (acons (xlit (.ty 4)) anil))))) (xor (xbinB cNe (xcall fLen (acons (xvar 4) anil)) (xlit (.int 2))) (xbinB cNe (xcall fReprY (acons (xbin oIx (xvar 4) (xlit (.int 0))) anil)) (xcall fReprY (acons (xvar 2) anil))))) (sret (xlit (.bl false))) snext)
  (sseq (sif (xor (xnot (xtru (ycall 2 m__law_is_done (acons (xvar 1) (acons (xbin oIx (xvar 4) (xlit (.int 1))) anil))))) (xbinB cNe (xcall fLen (acons (xbin oIx (xvar 4) (xlit (.int 1))) anil)) (xvar 2))) (sret (xlit (.bl false))) snext)
  (sexp (xmetL oApp (xbin oIx (xvar 4) (xlit (.int 1))) (acons (xlit .non) anil))))) snext)))
def b__law_right : XS := (sseq (sset 2 (xbin oIx (ycall 2 m__law_least (acons (xvar 1) (acons (xlit (.int 0)) anil))) (xlit (.int 0))))
  (sseq (sfor (irg1 (xlit (.int 2))) (pname 3) l__law_right_0)
  (sret (xboo (xbinB (cEqP 40 m_Rule___eq__ 41 m_Road___eq__) (xvar 0) (xtup (acons (ycall 1 m__law_rule_of (acons (xbin oIx (xvar 1) (xlit (.int 0))) anil)) (acons (ycall 1 m__law_road_of (acons (xbin oIx (xvar 1) (xlit (.int 1))) anil)) anil))))))))
def m__law_right : List Va → Sto → Rs Va := mkFn 5 b__law_right
abbrev s_law : Stmt := top 72
def l_law_0 : XS := (sseq (sset 4 (ycall 1 m__law_case (acons (xvar 1) anil)))
  (sseq (sset 5 (xtup (acons (ycall 1 m__law_rule_of (acons (xbin oIx (xvar 4) (xlit (.int 0))) anil)) (acons (ycall 1 m__law_road_of (acons (xbin oIx (xvar 4) (xlit (.int 1))) anil)) anil))))
  (sseq (sif (xor (xnot (xtru (ycall 2 m__law_right (acons (xvar 5) (acons (xvar 4) anil))))) (xand (xnot (xisN (xvar 2))) (xnot (xtru (ycall 2 m__law_right (acons (xbin oIx (xvar 2) (xlit (.int 0))) (acons (xbin oIx (xvar 2) (xlit (.int 1))) anil))))))) (sret (xlit (.bl false))) snext)
  (sset 2 (xtup (acons (xvar 5) (acons (xvar 4) anil)))))))
def b_law : XS := (sseq (sset 1 (ycall 1 m__law_pen (acons (xvar 0) anil)))
  (sseq (sset 2 (xlit .non))
  (sseq (sfor (irg1 (xlit (.int 16))) (pname 3) l_law_0)
  (sret (xboo (xisN (ycall 2 m_fewest_calls (acons (ynew 40 3 m_Rule___init__ (acons (xlit (.int 1)) (acons (xdict1 (xtup (acons (xlit (.int 0)) anil)) (xlst (acons (xtup (acons (xtup anil) (acons (xlit (.int 0)) anil))) anil))) anil))) (acons (ynew 41 3 m_Road___init__ (acons (xlst (acons (xtup (acons (xlit (.int 0)) anil)) anil)) (acons (xlst anil) anil))) anil)))))))))
def m_law : List Va → Sto → Rs Va := mkFn 6 b_law
abbrev gg (P : Program) (w : World) (K : PySem.W.Frag) (cls : Nat → Addr) : G := ⟨K, cls, fun n => if n = 41 then ["_begin", "_changes", "_shapes"] else if n = 40 then ["_cursors", "_calls"] else [], P, w, []⟩
structure Tx (P : Program) (w : World) (K : PySem.W.Frag) (mg : Str → Option Value) (cls : Nat → Addr) : Prop where
  z_abs : mg "abs" = none
  z_all : mg "all" = none
  z_bool : mg "bool" = none
  z_dict : mg "dict" = none
  z_enumerate : mg "enumerate" = none
  z_int : mg "int" = none
  z_isinstance : mg "isinstance" = none
  z_len : mg "len" = none
  z_list : mg "list" = none
  z_max : mg "max" = none
  z_min : mg "min" = none
  z_range : mg "range" = none
  z_repr : mg "repr" = none
  z_set : mg "set" = none
  z_sorted : mg "sorted" = none
  z_tuple : mg "tuple" = none
  c_GREATEST_WIDTH : ∃ t, mg "GREATEST_WIDTH" = some (.int 5 t)
  c_MOST_CURSORS : ∃ t, mg "MOST_CURSORS" = some (.int 64 t)
  e_InvalidRoad : ExT K mg "InvalidRoad" (cls 13)
  e_InvalidRule : ExT K mg "InvalidRule" (cls 9)
  e_InvalidShape : ExT K mg "InvalidShape" (cls 6)
  e_Mismatch : ExT K mg "Mismatch" (cls 15)
  e_UnknownShape : ExT K mg "UnknownShape" (cls 11)
  m_Road : mg "Road" = some (.ref (cls 41))
  k_Road : ClsT K (gg P w K cls) 41
  i_Road : IsC K (gg P w K cls) 41
  m_Rule : mg "Rule" = some (.ref (cls 40))
  k_Rule : ClsT K (gg P w K cls) 40
  i_Rule : IsC K (gg P w K cls) 40
section
variable {P : Program} {w : World} {K : PySem.W.Frag} {mg : Str → Option Value} {base : Heap} {cls : Nat → Addr}
end
end Law
namespace Law
open PySem PySem.Spec PyProof.Rows L2 Rz PySem.W
def t_is_shape_2 : XS := (sret (xandV (xboo (xbinB cEq (xcall fLen (acons (xvar 0) anil)) (xlit (.int 2)))) (xandV (ycall 1 m_is_width (acons (xbin oIx (xvar 0) (xlit (.int 0))) anil)) (xandV (ycall 1 m_is_width (acons (xbin oIx (xvar 0) (xlit (.int 1))) anil)) (xboo (xbinB cNe (xbin oIx (xvar 0) (xlit (.int 0))) (xbin oIx (xvar 0) (xlit (.int 1)))))))))
def t_is_shape_1 : XS := sseq (sif (xbinB cEq (xcall fLen (acons (xvar 0) anil)) (xlit (.int 1))) (sret (ycall 1 m_is_width (acons (xbin oIx (xvar 0) (xlit (.int 0))) anil))) snext) (t_is_shape_2)
def t_is_shape_0 : XS := sseq (sif (xnot (xtru (xcall fIsi (acons (xvar 0) (acons (xlit (.ty 4)) anil))))) (sret (xlit (.bl false))) snext) (t_is_shape_1)
def t_is_change_1 : XS := (sret (xandV (ycall 1 m_is_shape (acons (xbin oIx (xvar 0) (xlit (.int 0))) anil)) (xandV (ycall 1 m_is_shape (acons (xbin oIx (xvar 0) (xlit (.int 1))) anil)) (xboo (xbinB cNe (xbin oIx (xvar 0) (xlit (.int 0))) (xbin oIx (xvar 0) (xlit (.int 1))))))))
def t_is_change_0 : XS := sseq (sif (xor (xnot (xtru (xcall fIsi (acons (xvar 0) (acons (xlit (.ty 4)) anil))))) (xbinB cNe (xcall fLen (acons (xvar 0) anil)) (xlit (.int 2)))) (sret (xlit (.bl false))) snext) (t_is_change_1)
def t_are_changes_1 : XS := (sret (xandV (xcall fAll (acons (xcomp [1] (isq (xvar 0)) (pname 1) xyes (ycall 1 m_is_change (acons (xvar 1) anil))) anil)) (xboo (xbinB cEq (xcall fLenSet (acons (xvar 0) anil)) (xcall fLen (acons (xvar 0) anil))))))
def t_are_changes_0 : XS := sseq (sif (xnot (xtru (xcall fIsi (acons (xvar 0) (acons (xlit (.ty 5)) anil))))) (sret (xlit (.bl false))) snext) (t_are_changes_1)
def t_are_shapes_1 : XS := (sret (xandV (xcall fAll (acons (xcomp [1] (isq (xvar 0)) (pname 1) xyes (ycall 1 m_is_shape (acons (xvar 1) anil))) anil)) (xboo (xbinB cEq (xcall fLenSet (acons (xvar 0) anil)) (xcall fLen (acons (xvar 0) anil))))))
def t_are_shapes_0 : XS := sseq (sif (xor (xnot (xtru (xcall fIsi (acons (xvar 0) (acons (xlit (.ty 5)) anil))))) (xnot (xtru (xvar 0)))) (sret (xlit (.bl false))) snext) (t_are_shapes_1)
def t_Road___init___3 : XS := (sfld 41 2 (xvar 0) (xcall fSrtSet (acons (xbin oAdd (xvar 1) (xcomp2 [3, 4] [4] (isq (xvar 2)) (pname 3) xyes (isq (xvar 3)) (pname 4) xyes (xvar 4))) anil)))
def t_Road___init___2 : XS := sseq (sfld 41 1 (xvar 0) (xcall fSrt (acons (xvar 2) anil))) (t_Road___init___3)
def t_Road___init___1 : XS := sseq (sfld 41 0 (xvar 0) (xcall fSrt (acons (xvar 1) anil))) (t_Road___init___2)
def t_Road___init___0 : XS := sseq (sif (xor (xnot (xtru (ycall 1 m_are_shapes (acons (xvar 1) anil)))) (xnot (xtru (ycall 1 m_are_changes (acons (xvar 2) anil))))) (sraise 13) snext) (t_Road___init___1)
def t_is_place_3 : XS := (sret (xandV (ycall 3 m_is_between (acons (xvar 2) (acons (xlit (.int 0)) (acons (xbin oSub (xcall fLen (acons (xvar 0) anil)) (xlit (.int 1))) anil)))) (ycall 3 m_is_between (acons (xvar 3) (acons (xlit (.int 0)) (acons (xbin oSub (ycall 1 m_buckets_of (acons (xbin oIx (xvar 0) (xvar 2)) anil)) (xlit (.int 1))) anil))))))
def t_is_place_2 : XS := sseq (sasg (ptup 2 (pcons (pname 2) (pcons (pname 3) pnil))) (xvar 1)) (t_is_place_3)
def t_is_place_1 : XS := sseq (sif (xor (xnot (xtru (xcall fIsi (acons (xvar 1) (acons (xlit (.ty 4)) anil))))) (xbinB cNe (xcall fLen (acons (xvar 1) anil)) (xlit (.int 2)))) (sret (xlit (.bl false))) snext) (t_is_place_2)
def t_is_place_0 : XS := sseq (sexp (ycall 1 m__check_shape (acons (xvar 0) anil))) (t_is_place_1)
def t__are_places_1 : XS := (sret (xcall fAll (acons (xcomp [2] (irg2 (xlit (.int 1)) (xcall fLen (acons (xvar 1) anil))) (pname 2) xyes (xboo (xbinB cLtT (xbin oIx (xvar 1) (xbin oSub (xvar 2) (xlit (.int 1)))) (xbin oIx (xvar 1) (xvar 2))))) anil)))
def t__are_places_0 : XS := sseq (sif (xor (xnot (xtru (xcall fIsi (acons (xvar 1) (acons (xlit (.ty 4)) anil))))) (xnot (xtru (xcall fAll (acons (xcomp [3] (isq (xvar 1)) (pname 3) xyes (ycall 2 m_is_place (acons (xvar 0) (acons (xvar 3) anil)))) anil))))) (sret (xlit (.bl false))) snext) (t__are_places_1)
def t_is_call_2 : XS := (sret (xandV (ycall 2 m__are_places (acons (xvar 1) (acons (xvar 3) anil))) (xorV (xboo (xisN (xvar 4))) (ycall 3 m_is_between (acons (xvar 4) (acons (xlit (.int 0)) (acons (xbin oSub (xvar 0) (xlit (.int 1))) anil)))))))
def t_is_call_1 : XS := sseq (sasg (ptup 2 (pcons (pname 3) (pcons (pname 4) pnil))) (xvar 2)) (t_is_call_2)
def t_is_call_0 : XS := sseq (sif (xor (xnot (xtru (xcall fIsi (acons (xvar 2) (acons (xlit (.ty 4)) anil))))) (xbinB cNe (xcall fLen (acons (xvar 2) anil)) (xlit (.int 2)))) (sret (xlit (.bl false))) snext) (t_is_call_1)
def t__are_calls_1 : XS := (sret (xcall fAll (acons (xcomp [3] (isq (xvar 2)) (pname 3) xyes (ycall 3 m_is_call (acons (xvar 0) (acons (xvar 1) (acons (xvar 3) anil))))) anil)))
def t__are_calls_0 : XS := sseq (sif (xor (xnot (xtru (xcall fIsi (acons (xvar 2) (acons (xlit (.ty 5)) anil))))) (xbinB cNe (xcall fLen (acons (xvar 2) anil)) (xvar 0))) (sret (xlit (.bl false))) snext) (t__are_calls_1)
def t__make_a_rule_1 : XS := (sret (xcall fAll (acons (xlock (xvar 1) (xcomp [2, 3] (iitems (xvar 1)) (ptup 2 (pcons (pname 2) (pcons (pname 3) pnil))) xyes (xandV (ycall 1 m_is_shape (acons (xvar 2) anil)) (ycall 3 m__are_calls (acons (xvar 0) (acons (xvar 2) (acons (xvar 3) anil))))))) anil)))
def t__make_a_rule_0 : XS := sseq (sif (xor (xnot (xtru (ycall 1 m_is_number_of_cursors (acons (xvar 0) anil)))) (xor (xnot (xtru (xcall fIsD (acons (xvar 1) (acons (xlit (.ty 6)) anil))))) (xnot (xtruD (xvar 1))))) (sret (xlit (.bl false))) snext) (t__make_a_rule_1)
def t_Rule___init___2 : XS := (sfld 40 1 (xvar 0) (xdcomp [3] (isq (xcall fSrtD (acons (xvar 2) anil))) (pname 3) xyes (xvar 3) (xcall fList (acons (xbin oDix (xvar 2) (xvar 3)) anil))))
def t_Rule___init___1 : XS := sseq (sfld 40 0 (xvar 0) (xvar 1)) (t_Rule___init___2)
def t_Rule___init___0 : XS := sseq (sif (xnot (xtru (ycall 2 m__make_a_rule (acons (xvar 1) (acons (xvar 2) anil))))) (sraise 9) snext) (t_Rule___init___1)
def t__law_next_8 : XS := (sret (xbin oAdd (xbin oMul (xbin oAdd (xbin oMul (xvar 5) (xlit (.int 2147483587))) (xvar 4)) (xlit (.int 2147483563))) (xvar 3)))
def t__law_next_7 : XS := sseq (sset 5 (xbin oMod (xcall fInt (acons (xbin oAdd (xbin oAdd (xbin oMul (xvar 4) (xvar 4)) (xvar 3)) (xbin oMul (xbin oMul (xvar 1) (xvar 1)) (xlit (.int 37)))) anil)) (xlit (.int 2147483549)))) (t__law_next_8)
def t__law_next_6 : XS := sseq (sset 4 (xbin oMod (xcall fInt (acons (xbin oAdd (xbin oAdd (xbin oMul (xvar 3) (xvar 3)) (xbin oMul (xvar 1) (xlit (.int 70039)))) (xlit (.int 61))) anil)) (xlit (.int 2147483563)))) (t__law_next_7)
def t__law_next_5 : XS := sseq (sset 3 (xbin oMod (xcall fInt (acons (xbin oAdd (xbin oAdd (xbin oMod (xcall fInt (acons (xvar 2) anil)) (xlit (.int 2147483587))) (xbin oMul (xvar 1) (xlit (.int 30103)))) (xlit (.int 79))) anil)) (xlit (.int 2147483587)))) (t__law_next_6)
def t__law_next_4 : XS := sseq (sif (xand (xbinB cLt (xvar 1) (xcall fLen (acons (xbin oIx (xvar 0) (xlit (.int 0))) anil))) (xbinB cGe (xvar 2) (xbin oPow (xlit (.int 10)) (xlit (.int 18))))) (sret (xvar 2)) snext) (t__law_next_5)
def t__law_next_3 : XS := sseq (sif (xbinB cNe (xbin oIx (xvar 0) (xlit (.int 0))) (xlst anil)) (sset 2 (xbin oIx (xbin oIx (xvar 0) (xlit (.int 0))) (xbin oMod (xcall fInt (acons (xvar 1) anil)) (xcall fLen (acons (xbin oIx (xvar 0) (xlit (.int 0))) anil))))) snext) (t__law_next_4)
def t__law_next_2 : XS := sseq (sset 2 (xbin oAdd (xbin oMul (xvar 1) (xlit (.int 1051))) (xlit (.int 53)))) (t__law_next_3)
def t__law_next_1 : XS := sseq (ssub (xvar 0) (xlit (.int 1)) (xbin oAdd (xvar 1) (xlit (.int 1)))) (t__law_next_2)
def t__law_next_0 : XS := sseq (sset 1 (xbin oIx (xvar 0) (xlit (.int 1)))) (t__law_next_1)
def t__law_draw_3 : XS := (sret (xvar 2))
def t__law_draw_2 : XS := sseq (ssub (xvar 0) (xlit (.int 2)) (xbin oDiv (xbin oIx (xvar 0) (xlit (.int 2))) (xvar 1))) (t__law_draw_3)
def t__law_draw_1 : XS := sseq (sset 2 (xbin oMod (xcall fInt (acons (xbin oIx (xvar 0) (xlit (.int 2))) anil)) (xvar 1))) (t__law_draw_2)
def t__law_draw_0 : XS := sseq (sif (xbinB cLt (xbin oIx (xvar 0) (xlit (.int 2))) (xvar 1)) (ssub (xvar 0) (xlit (.int 2)) (ycall 1 m__law_next (acons (xvar 0) anil))) snext) (t__law_draw_1)
def t__law_buckets_2 : XS := (sret (xvar 1))
def t__law_buckets_1 : XS := sseq (sfor (irg1 (xcall fLen (acons (xvar 0) anil))) (pname 2) l__law_buckets_0) (t__law_buckets_2)
def t__law_buckets_0 : XS := sseq (sset 1 (xlst anil)) (t__law_buckets_1)
def t__law_some_1 : XS := (sret (xcomp [4] (irg1 (ycall 2 m__law_draw (acons (xvar 0) (acons (xbin oAdd (xcall fMin2 (acons (xvar 2) (acons (xcall fLen (acons (xvar 3) anil)) anil))) (xlit (.int 1))) anil)))) (pname 4) xyes (xmetL oPop (xvar 3) (acons (ycall 2 m__law_draw (acons (xvar 0) (acons (xcall fLen (acons (xvar 3) anil)) anil))) anil))))
def t__law_some_0 : XS := sseq (sset 3 (xcall fList (acons (xvar 1) anil))) (t__law_some_1)
def t__law_call_5 : XS := (sret (xtup (acons (xcall fTup (acons (xcall fSrt (acons (xvar 7) anil)) anil)) (acons (xvar 6) anil))))
def t__law_call_4 : XS := sseq (sif (xbinB cEq (ycall 2 m__law_draw (acons (xvar 0) (acons (xlit (.int 3)) anil))) (xlit (.int 0))) (sset 7 (xcomp [8] (isq (xvar 4)) (pname 8) (xbinB cEq (xbin oMod (xcall fInt (acons (xbin oIx (xvar 8) (xlit (.int 1))) anil)) (xlit (.int 2))) (xbin oMod (xcall fInt (acons (xvar 3) anil)) (xlit (.int 2)))) (xvar 8))) snext) (t__law_call_5)
def t__law_call_3 : XS := sseq (sset 7 (ycall 3 m__law_some (acons (xvar 0) (acons (xvar 4) (acons (xlit (.int 3)) anil))))) (t__law_call_4)
def t__law_call_2 : XS := sseq (sset 6 (xite (xbinB cLt (xvar 5) (xlit (.int 4))) (xite (xbinB cLt (xbin oAdd (xvar 3) (xlit (.int 1))) (xvar 2)) (xbin oAdd (xvar 3) (xlit (.int 1))) (xlit .non)) (xite (xbinB cLt (xvar 5) (xlit (.int 7))) (ycall 2 m__law_draw (acons (xvar 0) (acons (xvar 2) anil))) (xlit .non)))) (t__law_call_3)
def t__law_call_1 : XS := sseq (sset 5 (ycall 2 m__law_draw (acons (xvar 0) (acons (xlit (.int 8)) anil)))) (t__law_call_2)
def t__law_call_0 : XS := sseq (sset 4 (ycall 1 m__law_buckets (acons (xvar 1) anil))) (t__law_call_1)
def t__law_drawn_2 : XS := (sret (xtup (acons (xvar 4) (acons (xvar 5) anil))))
def t__law_drawn_1 : XS := sseq (sfor (isq (xvar 1)) (pname 3) l__law_drawn_0) (t__law_drawn_2)
def t__law_drawn_0 : XS := sseq (sasg (ptup 2 (pcons (pname 4) (pcons (pname 5) pnil))) (xtup (acons (xbin oAdd (xlit (.int 1)) (ycall 2 m__law_draw (acons (xvar 0) (acons (xvar 2) anil)))) (acons xdict0 anil)))) (t__law_drawn_1)
def t__law_changes_2 : XS := (sret (xvar 1))
def t__law_changes_1 : XS := sseq (sfor (isq (xvar 0)) (pname 2) l__law_changes_0) (t__law_changes_2)
def t__law_changes_0 : XS := sseq (sset 1 (xlst anil)) (t__law_changes_1)
def t__law_road_2 : XS := (sret (xtup (acons (xite (xbinB cNe (xvar 3) (xlst anil)) (xvar 3) (xslice (xvar 1) xnop (xpart (xlit (.int 1))))) (acons (xvar 4) anil))))
def t__law_road_1 : XS := sseq (sset 4 (ycall 3 m__law_some (acons (xvar 0) (acons (ycall 1 m__law_changes (acons (xvar 1) anil)) (acons (xvar 2) anil))))) (t__law_road_2)
def t__law_road_0 : XS := sseq (sset 3 (ycall 3 m__law_some (acons (xvar 0) (acons (xvar 1) (acons (xcall fLen (acons (xvar 1) anil)) anil))))) (t__law_road_1)
def t__law_counted_1_1 : XS := (sexp (xmetL oApp (xvar 4) (acons (xtup (acons (xcall fTup (acons (xcomp [7] (irg1 (xcall fLen (acons (xvar 3) anil))) (pname 7) (xbinB cLt (xvar 5) (ycall 1 m__law_power (acons (xbin oIx (xvar 3) (xvar 7)) anil))) (xtup (acons (xvar 7) (acons (xvar 5) anil)))) anil)) (acons (xvar 6) anil))) anil)))
def t__law_counted_1_0 : XS := sseq (sset 6 (xite (xbinB cLt (xbin oAdd (xvar 5) (xlit (.int 1))) (ycall 1 m__law_power (acons (xcall fMax1 (acons (xvar 3) anil)) anil))) (xbin oAdd (xvar 5) (xlit (.int 1))) (xlit .non))) (t__law_counted_1_1)
def t__law_counted_0_2 : XS := (sdsub (xvar 2) (xvar 3) (xvar 4))
def t__law_counted_0_1 : XS := sseq (sfor (irg1 (ycall 1 m__law_power (acons (xvar 1) anil))) (pname 5) l__law_counted_1) (t__law_counted_0_2)
def t__law_counted_0_0 : XS := sseq (sset 4 (xlst anil)) (t__law_counted_0_1)
def t__law_counted_3 : XS := (sret (xtup (acons (ycall 1 m__law_power (acons (xvar 1) anil)) (acons (xvar 2) anil))))
def t__law_counted_2 : XS := sseq (sfor (isq (xvar 0)) (pname 3) l__law_counted_0) (t__law_counted_3)
def t__law_counted_1 : XS := sseq (sset 2 xdict0) (t__law_counted_2)
def t__law_counted_0 : XS := sseq (sset 1 (xcall fMax1 (acons (xcomp [3] (isq (xvar 0)) (pname 3) xyes (xcall fMax1 (acons (xvar 3) anil))) anil))) (t__law_counted_1)
def t__law_bits_0_1 : XS := (sset 0 (xbin oDiv (xvar 0) (xlit (.int 2))))
def t__law_bits_0_0 : XS := sseq (sset 2 (xbin oAdd (xbin oMul (xvar 2) (xlit (.int 2))) (xbin oMod (xcall fInt (acons (xvar 0) anil)) (xlit (.int 2))))) (t__law_bits_0_1)
def t__law_bits_2 : XS := (sret (xvar 2))
def t__law_bits_1 : XS := sseq (sfor (irg1 (xvar 1)) (pname 3) l__law_bits_0) (t__law_bits_2)
def t__law_bits_0 : XS := sseq (sset 2 (xlit (.int 0))) (t__law_bits_1)
def t__law_turned_rule_1_3 : XS := (sexp (xmetL oApp (xvar 5) (acons (xtup (acons (xcall fTup (acons (xvar 9) anil)) (acons (xite (xbinB cLt (xvar 8) (ycall 1 m__law_power (acons (xvar 1) anil))) (ycall 2 m__law_bits (acons (xvar 8) (acons (xvar 1) anil))) (xlit .non)) anil))) anil)))
def t__law_turned_rule_1_2 : XS := sseq (sset 9 (xcomp [10] (isq (ycall 1 m__law_buckets (acons (xvar 3) anil))) (pname 10) (xbinB cEq (xbin oMod (xcall fInt (acons (xbin oIx (xvar 10) (xlit (.int 1))) anil)) (xvar 6)) (xbin oMod (xcall fInt (acons (xvar 4) anil)) (xvar 6))) (xvar 10))) (t__law_turned_rule_1_3)
def t__law_turned_rule_1_1 : XS := sseq (sset 8 (xbin oMul (xbin oAdd (xbin oDiv (ycall 2 m__law_bits (acons (xvar 4) (acons (xvar 1) anil))) (xvar 7)) (xlit (.int 1))) (xvar 7))) (t__law_turned_rule_1_2)
def t__law_turned_rule_1_0 : XS := sseq (sset 7 (ycall 1 m__law_power (acons (xbin oSub (xvar 1) (xcall fMin1 (acons (xvar 3) anil))) anil))) (t__law_turned_rule_1_1)
def t__law_turned_rule_0_2 : XS := (sdsub (xvar 2) (xvar 3) (xvar 5))
def t__law_turned_rule_0_1 : XS := sseq (sfor (irg1 (ycall 1 m__law_power (acons (xvar 1) anil))) (pname 4) l__law_turned_rule_1) (t__law_turned_rule_0_2)
def t__law_turned_rule_0_0 : XS := sseq (sasg (ptup 2 (pcons (pname 5) (pcons (pname 6) pnil))) (xtup (acons (xlst anil) (acons (ycall 1 m__law_power (acons (xcall fMin1 (acons (xvar 3) anil)) anil)) anil)))) (t__law_turned_rule_0_1)
def t__law_turned_rule_3 : XS := (sret (xtup (acons (ycall 1 m__law_power (acons (xvar 1) anil)) (acons (xvar 2) anil))))
def t__law_turned_rule_2 : XS := sseq (sfor (isq (xvar 0)) (pname 3) l__law_turned_rule_0) (t__law_turned_rule_3)
def t__law_turned_rule_1 : XS := sseq (sset 2 xdict0) (t__law_turned_rule_2)
def t__law_turned_rule_0 : XS := sseq (sset 1 (xcall fMax1 (acons (xcomp [3] (isq (xvar 0)) (pname 3) xyes (xcall fMax1 (acons (xvar 3) anil))) anil))) (t__law_turned_rule_1)
def t__law_rule_0_1 : XS := (ssub (xbin oDix (xvar 6) (xvar 7)) (xvar 8) (ycall 4 m__law_call (acons (xvar 0) (acons (xvar 7) (acons (xvar 5) (acons (xvar 8) anil))))))
def t__law_rule_0_0 : XS := sseq (spar [7, 8] (acons (xbin oIx (xvar 1) (ycall 2 m__law_draw (acons (xvar 0) (acons (xcall fLen (acons (xvar 1) anil)) anil)))) (acons (ycall 2 m__law_draw (acons (xvar 0) (acons (xvar 5) anil))) anil))) (t__law_rule_0_1)
def t__law_rule_5 : XS := (sret (xtup (acons (xvar 5) (acons (xvar 6) anil))))
def t__law_rule_4 : XS := sseq (sfor (irg1 (ycall 2 m__law_draw (acons (xvar 0) (acons (xlit (.int 3)) anil)))) (pname 4) l__law_rule_0) (t__law_rule_5)
def t__law_rule_3 : XS := sseq (sif (xbinB cEq (xvar 3) (xlit (.int 2))) (sasg (ptup 2 (pcons (pname 5) (pcons (pname 6) pnil))) (ycall 1 m__law_turned_rule (acons (xvar 1) anil))) snext) (t__law_rule_4)
def t__law_rule_2 : XS := sseq (sasg (ptup 2 (pcons (pname 5) (pcons (pname 6) pnil))) (ycall 1 m__law_counted (acons (xvar 1) anil))) (t__law_rule_3)
def t__law_rule_1 : XS := sseq (sif (xbinB cEq (xvar 3) (xlit (.int 0))) (sret (ycall 3 m__law_drawn (acons (xvar 0) (acons (xvar 1) (acons (xvar 2) anil))))) snext) (t__law_rule_2)
def t__law_rule_0 : XS := sseq (sset 3 (ycall 2 m__law_draw (acons (xvar 0) (acons (xlit (.int 3)) anil)))) (t__law_rule_1)
def t__law_shapes_0_1 : XS := (sset 3 (xbin oAdd (xvar 3) (xslice (xcomp [6] (irg1 (xbin oAdd (xvar 2) (xlit (.int 1)))) (pname 6) (xbinB cEq (xcall fAbs (acons (xbin oSub (xvar 4) (xvar 6)) anil)) (xlit (.int 2))) (xtup (acons (xvar 4) (acons (xvar 6) anil)))) xnop (xpart (xlit (.int 1))))))
def t__law_shapes_0_0 : XS := sseq (sset 3 (xbin oAdd (xvar 3) (xcomp [6] (irg1 (xbin oAdd (xvar 2) (xlit (.int 1)))) (pname 6) (xbinB cEq (xcall fAbs (acons (xbin oSub (xvar 4) (xvar 6)) anil)) (xlit (.int 1))) (xtup (acons (xvar 4) (acons (xvar 6) anil)))))) (t__law_shapes_0_1)
theorem wt__law_shapes_0_0 {δ : Rz.Env} {S : Sto} {N : Rz.Env → Sto → Prop} {K : Ke} (h : wo ((sset 3 (xbin oAdd (xvar 3) (xcomp [6] (irg1 (xbin oAdd (xvar 2) (xlit (.int 1)))) (pname 6) (xbinB cEq (xcall fAbs (acons (xbin oSub (xvar 4) (xvar 6)) anil)) (xlit (.int 1))) (xtup (acons (xvar 4) (acons (xvar 6) anil)))))) δ S) (fun δ T => wo (t__law_shapes_0_1 δ T) N K) K) : wo (t__law_shapes_0_0 δ S) N K := wo_seq (s := (sset 3 (xbin oAdd (xvar 3) (xcomp [6] (irg1 (xbin oAdd (xvar 2) (xlit (.int 1)))) (pname 6) (xbinB cEq (xcall fAbs (acons (xbin oSub (xvar 4) (xvar 6)) anil)) (xlit (.int 1))) (xtup (acons (xvar 4) (acons (xvar 6) anil))))))) (t := t__law_shapes_0_1) h
theorem wt__law_shapes_0_1 {δ : Rz.Env} {S : Sto} {N : Rz.Env → Sto → Prop} {K : Ke} (h : wo ((sset 3 (xbin oAdd (xvar 3) (xslice (xcomp [6] (irg1 (xbin oAdd (xvar 2) (xlit (.int 1)))) (pname 6) (xbinB cEq (xcall fAbs (acons (xbin oSub (xvar 4) (xvar 6)) anil)) (xlit (.int 2))) (xtup (acons (xvar 4) (acons (xvar 6) anil)))) xnop (xpart (xlit (.int 1)))))) δ S) N K) : wo (t__law_shapes_0_1 δ S) N K := h
def t__law_shapes_3 : XS := (sret (xite (xbinB cNe (xvar 5) (xlst anil)) (xvar 5) (xlst (acons (xtup (acons (ycall 2 m__law_draw (acons (xvar 0) (acons (xbin oAdd (xvar 2) (xlit (.int 1))) anil))) anil)) anil))))
def t__law_shapes_2 : XS := sseq (sset 5 (ycall 3 m__law_some (acons (xvar 0) (acons (xvar 3) (acons (xvar 1) anil))))) (t__law_shapes_3)
def t__law_shapes_1 : XS := sseq (sfor (irg1 (xbin oAdd (xvar 2) (xlit (.int 1)))) (pname 4) l__law_shapes_0) (t__law_shapes_2)
def t__law_shapes_0 : XS := sseq (sset 3 (xcomp [4] (irg1 (xbin oAdd (xvar 2) (xlit (.int 1)))) (pname 4) xyes (xtup (acons (xvar 4) anil)))) (t__law_shapes_1)
theorem wt__law_shapes_0 {δ : Rz.Env} {S : Sto} {N : Rz.Env → Sto → Prop} {K : Ke} (h : wo ((sset 3 (xcomp [4] (irg1 (xbin oAdd (xvar 2) (xlit (.int 1)))) (pname 4) xyes (xtup (acons (xvar 4) anil)))) δ S) (fun δ T => wo (t__law_shapes_1 δ T) N K) K) : wo (t__law_shapes_0 δ S) N K := wo_seq (s := (sset 3 (xcomp [4] (irg1 (xbin oAdd (xvar 2) (xlit (.int 1)))) (pname 4) xyes (xtup (acons (xvar 4) anil))))) (t := t__law_shapes_1) h
theorem wt__law_shapes_1 {δ : Rz.Env} {S : Sto} {N : Rz.Env → Sto → Prop} {K : Ke} (h : wo ((sfor (irg1 (xbin oAdd (xvar 2) (xlit (.int 1)))) (pname 4) l__law_shapes_0) δ S) (fun δ T => wo (t__law_shapes_2 δ T) N K) K) : wo (t__law_shapes_1 δ S) N K := wo_seq (s := (sfor (irg1 (xbin oAdd (xvar 2) (xlit (.int 1)))) (pname 4) l__law_shapes_0)) (t := t__law_shapes_2) h
theorem wt__law_shapes_2 {δ : Rz.Env} {S : Sto} {N : Rz.Env → Sto → Prop} {K : Ke} (h : wo ((sset 5 (ycall 3 m__law_some (acons (xvar 0) (acons (xvar 3) (acons (xvar 1) anil))))) δ S) (fun δ T => wo (t__law_shapes_3 δ T) N K) K) : wo (t__law_shapes_2 δ S) N K := wo_seq (s := (sset 5 (ycall 3 m__law_some (acons (xvar 0) (acons (xvar 3) (acons (xvar 1) anil)))))) (t := t__law_shapes_3) h
theorem wt__law_shapes_3 {δ : Rz.Env} {S : Sto} {N : Rz.Env → Sto → Prop} {K : Ke} (h : wo ((sret (xite (xbinB cNe (xvar 5) (xlst anil)) (xvar 5) (xlst (acons (xtup (acons (ycall 2 m__law_draw (acons (xvar 0) (acons (xbin oAdd (xvar 2) (xlit (.int 1))) anil))) anil)) anil)))) δ S) N K) : wo (t__law_shapes_3 δ S) N K := h
def t__law_case_3 : XS := (sret (xtup (acons (xvar 3) (acons (ycall 3 m__law_road (acons (xvar 0) (acons (xorT (ycall 3 m__law_some (acons (xvar 0) (acons (xvar 2) (acons (xlit (.int 3)) anil)))) (xslice (xvar 2) xnop (xpart (xlit (.int 1))))) (acons (xlit (.int 5)) anil)))) anil))))
def t__law_case_2 : XS := sseq (sset 3 (xite (xtru (xvar 1)) (ycall 3 m__law_drawn (acons (xvar 0) (acons (xvar 2) (acons (xlit (.int 3)) anil)))) (ycall 3 m__law_rule (acons (xvar 0) (acons (xvar 2) (acons (xlit (.int 5)) anil)))))) (t__law_case_3)
def t__law_case_1 : XS := sseq (sset 2 (ycall 3 m__law_shapes (acons (xvar 0) (acons (xlit (.int 3)) (acons (xite (xtru (xvar 1)) (xlit (.int 5)) (xlit (.int 2))) anil))))) (t__law_case_2)
def t__law_case_0 : XS := sseq (sset 1 (xboo (xbinB cEq (ycall 2 m__law_draw (acons (xvar 0) (acons (xlit (.int 6)) anil))) (xlit (.int 0))))) (t__law_case_1)
theorem wt__law_case_0 {δ : Rz.Env} {S : Sto} {N : Rz.Env → Sto → Prop} {K : Ke} (h : wo ((sset 1 (xboo (xbinB cEq (ycall 2 m__law_draw (acons (xvar 0) (acons (xlit (.int 6)) anil))) (xlit (.int 0))))) δ S) (fun δ T => wo (t__law_case_1 δ T) N K) K) : wo (t__law_case_0 δ S) N K := wo_seq (s := (sset 1 (xboo (xbinB cEq (ycall 2 m__law_draw (acons (xvar 0) (acons (xlit (.int 6)) anil))) (xlit (.int 0)))))) (t := t__law_case_1) h
theorem wt__law_case_1 {δ : Rz.Env} {S : Sto} {N : Rz.Env → Sto → Prop} {K : Ke} (h : wo ((sset 2 (ycall 3 m__law_shapes (acons (xvar 0) (acons (xlit (.int 3)) (acons (xite (xtru (xvar 1)) (xlit (.int 5)) (xlit (.int 2))) anil))))) δ S) (fun δ T => wo (t__law_case_2 δ T) N K) K) : wo (t__law_case_1 δ S) N K := wo_seq (s := (sset 2 (ycall 3 m__law_shapes (acons (xvar 0) (acons (xlit (.int 3)) (acons (xite (xtru (xvar 1)) (xlit (.int 5)) (xlit (.int 2))) anil)))))) (t := t__law_case_2) h
theorem wt__law_case_2 {δ : Rz.Env} {S : Sto} {N : Rz.Env → Sto → Prop} {K : Ke} (h : wo ((sset 3 (xite (xtru (xvar 1)) (ycall 3 m__law_drawn (acons (xvar 0) (acons (xvar 2) (acons (xlit (.int 3)) anil)))) (ycall 3 m__law_rule (acons (xvar 0) (acons (xvar 2) (acons (xlit (.int 5)) anil)))))) δ S) (fun δ T => wo (t__law_case_3 δ T) N K) K) : wo (t__law_case_2 δ S) N K := wo_seq (s := (sset 3 (xite (xtru (xvar 1)) (ycall 3 m__law_drawn (acons (xvar 0) (acons (xvar 2) (acons (xlit (.int 3)) anil)))) (ycall 3 m__law_rule (acons (xvar 0) (acons (xvar 2) (acons (xlit (.int 5)) anil))))))) (t := t__law_case_3) h
theorem wt__law_case_3 {δ : Rz.Env} {S : Sto} {N : Rz.Env → Sto → Prop} {K : Ke} (h : wo ((sret (xtup (acons (xvar 3) (acons (ycall 3 m__law_road (acons (xvar 0) (acons (xorT (ycall 3 m__law_some (acons (xvar 0) (acons (xvar 2) (acons (xlit (.int 3)) anil)))) (xslice (xvar 2) xnop (xpart (xlit (.int 1))))) (acons (xlit (.int 5)) anil)))) anil)))) δ S) N K) : wo (t__law_case_3 δ S) N K := h
def t__law_later_3 : XS := (sret (xvar 4))
def t__law_later_2 : XS := sseq (sfor (isq (xite (xisN (xvar 3)) (xlst anil) (ycall 2 m__law_after (acons (xvar 1) (acons (xbin oIx (xvar 2) (xlit (.int 0))) anil))))) (pname 5) l__law_later_0) (t__law_later_3)
def t__law_later_1 : XS := sseq (sset 4 (xlst anil)) (t__law_later_2)
def t__law_later_0 : XS := sseq (sset 3 (xbin oIx (xbin oIx (xbin oDix (xbin oIx (xvar 0) (xlit (.int 1))) (xbin oIx (xvar 2) (xlit (.int 0)))) (xbin oIx (xvar 2) (xlit (.int 2)))) (xlit (.int 1)))) (t__law_later_1)
theorem wt__law_later_0 {δ : Rz.Env} {S : Sto} {N : Rz.Env → Sto → Prop} {K : Ke} (h : wo ((sset 3 (xbin oIx (xbin oIx (xbin oDix (xbin oIx (xvar 0) (xlit (.int 1))) (xbin oIx (xvar 2) (xlit (.int 0)))) (xbin oIx (xvar 2) (xlit (.int 2)))) (xlit (.int 1)))) δ S) (fun δ T => wo (t__law_later_1 δ T) N K) K) : wo (t__law_later_0 δ S) N K := wo_seq (s := (sset 3 (xbin oIx (xbin oIx (xbin oDix (xbin oIx (xvar 0) (xlit (.int 1))) (xbin oIx (xvar 2) (xlit (.int 0)))) (xbin oIx (xvar 2) (xlit (.int 2)))) (xlit (.int 1))))) (t := t__law_later_1) h
theorem wt__law_later_1 {δ : Rz.Env} {S : Sto} {N : Rz.Env → Sto → Prop} {K : Ke} (h : wo ((sset 4 (xlst anil)) δ S) (fun δ T => wo (t__law_later_2 δ T) N K) K) : wo (t__law_later_1 δ S) N K := wo_seq (s := (sset 4 (xlst anil))) (t := t__law_later_2) h
theorem wt__law_later_2 {δ : Rz.Env} {S : Sto} {N : Rz.Env → Sto → Prop} {K : Ke} (h : wo ((sfor (isq (xite (xisN (xvar 3)) (xlst anil) (ycall 2 m__law_after (acons (xvar 1) (acons (xbin oIx (xvar 2) (xlit (.int 0))) anil))))) (pname 5) l__law_later_0) δ S) (fun δ T => wo (t__law_later_3 δ T) N K) K) : wo (t__law_later_2 δ S) N K := wo_seq (s := (sfor (isq (xite (xisN (xvar 3)) (xlst anil) (ycall 2 m__law_after (acons (xvar 1) (acons (xbin oIx (xvar 2) (xlit (.int 0))) anil))))) (pname 5) l__law_later_0)) (t := t__law_later_3) h
theorem wt__law_later_3 {δ : Rz.Env} {S : Sto} {N : Rz.Env → Sto → Prop} {K : Ke} (h : wo ((sret (xvar 4)) δ S) N K) : wo (t__law_later_3 δ S) N K := h
def t__law_starts_2 : XS := (sret (xvar 1))
def t__law_starts_1 : XS := sseq (sfor (isq (xcall fSrt (acons (xbin oIx (xvar 0) (xlit (.int 0))) anil))) (pname 2) l__law_starts_0) (t__law_starts_2)
def t__law_starts_0 : XS := sseq (sset 1 (xlst anil)) (t__law_starts_1)
def t__law_situations_0_3 : XS := (sset 5 (ycall 3 m__law_later (acons (xvar 0) (acons (xvar 1) (acons (xbin oIx (xvar 6) (xlit (.int 0))) anil)))))
def t__law_situations_0_2 : XS := sseq (sexp (xmetL oApp (xvar 4) (acons (xbin oIx (xvar 6) (xlit (.int 0))) anil))) (t__law_situations_0_3)
def t__law_situations_0_1 : XS := sseq (sif (xbinB cEqE (xvar 6) (xlst anil)) (sret (xlit .non)) snext) (t__law_situations_0_2)
def t__law_situations_0_0 : XS := sseq (sset 6 (xcomp [7] (isq (xvar 5)) (pname 7) (xbinB cEq (xcall fReprY (acons (xsliceT (xvar 7) xnop (xpart (xlit (.int 2)))) anil)) (xcall fReprY (acons (xvar 3) anil))) (xvar 7))) (t__law_situations_0_1)
theorem wt__law_situations_0_0 {δ : Rz.Env} {S : Sto} {N : Rz.Env → Sto → Prop} {K : Ke} (h : wo ((sset 6 (xcomp [7] (isq (xvar 5)) (pname 7) (xbinB cEq (xcall fReprY (acons (xsliceT (xvar 7) xnop (xpart (xlit (.int 2)))) anil)) (xcall fReprY (acons (xvar 3) anil))) (xvar 7))) δ S) (fun δ T => wo (t__law_situations_0_1 δ T) N K) K) : wo (t__law_situations_0_0 δ S) N K := wo_seq (s := (sset 6 (xcomp [7] (isq (xvar 5)) (pname 7) (xbinB cEq (xcall fReprY (acons (xsliceT (xvar 7) xnop (xpart (xlit (.int 2)))) anil)) (xcall fReprY (acons (xvar 3) anil))) (xvar 7)))) (t := t__law_situations_0_1) h
theorem wt__law_situations_0_1 {δ : Rz.Env} {S : Sto} {N : Rz.Env → Sto → Prop} {K : Ke} (h : wo ((sif (xbinB cEqE (xvar 6) (xlst anil)) (sret (xlit .non)) snext) δ S) (fun δ T => wo (t__law_situations_0_2 δ T) N K) K) : wo (t__law_situations_0_1 δ S) N K := wo_seq (s := (sif (xbinB cEqE (xvar 6) (xlst anil)) (sret (xlit .non)) snext)) (t := t__law_situations_0_2) h
theorem wt__law_situations_0_2 {δ : Rz.Env} {S : Sto} {N : Rz.Env → Sto → Prop} {K : Ke} (h : wo ((sexp (xmetL oApp (xvar 4) (acons (xbin oIx (xvar 6) (xlit (.int 0))) anil))) δ S) (fun δ T => wo (t__law_situations_0_3 δ T) N K) K) : wo (t__law_situations_0_2 δ S) N K := wo_seq (s := (sexp (xmetL oApp (xvar 4) (acons (xbin oIx (xvar 6) (xlit (.int 0))) anil)))) (t := t__law_situations_0_3) h
theorem wt__law_situations_0_3 {δ : Rz.Env} {S : Sto} {N : Rz.Env → Sto → Prop} {K : Ke} (h : wo ((sset 5 (ycall 3 m__law_later (acons (xvar 0) (acons (xvar 1) (acons (xbin oIx (xvar 6) (xlit (.int 0))) anil))))) δ S) N K) : wo (t__law_situations_0_3 δ S) N K := h
def t__law_situations_3 : XS := (sret (xvar 4))
def t__law_situations_2 : XS := sseq (sfor (isq (xvar 2)) (pname 3) l__law_situations_0) (t__law_situations_3)
def t__law_situations_1 : XS := sseq (spar [4, 5] (acons (xlst anil) (acons (ycall 1 m__law_starts (acons (xvar 1) anil)) anil))) (t__law_situations_2)
def t__law_situations_0 : XS := sseq (sif (xor (xnot (xtru (xcall fIsi (acons (xvar 2) (acons (xlit (.ty 5)) anil))))) (xbinB cEqE (xvar 2) (xlst anil))) (sret (xlit .non)) snext) (t__law_situations_1)
theorem wt__law_situations_0 {δ : Rz.Env} {S : Sto} {N : Rz.Env → Sto → Prop} {K : Ke} (h : wo ((sif (xor (xnot (xtru (xcall fIsi (acons (xvar 2) (acons (xlit (.ty 5)) anil))))) (xbinB cEqE (xvar 2) (xlst anil))) (sret (xlit .non)) snext) δ S) (fun δ T => wo (t__law_situations_1 δ T) N K) K) : wo (t__law_situations_0 δ S) N K := wo_seq (s := (sif (xor (xnot (xtru (xcall fIsi (acons (xvar 2) (acons (xlit (.ty 5)) anil))))) (xbinB cEqE (xvar 2) (xlst anil))) (sret (xlit .non)) snext)) (t := t__law_situations_1) h
theorem wt__law_situations_1 {δ : Rz.Env} {S : Sto} {N : Rz.Env → Sto → Prop} {K : Ke} (h : wo ((spar [4, 5] (acons (xlst anil) (acons (ycall 1 m__law_starts (acons (xvar 1) anil)) anil))) δ S) (fun δ T => wo (t__law_situations_2 δ T) N K) K) : wo (t__law_situations_1 δ S) N K := wo_seq (s := (spar [4, 5] (acons (xlst anil) (acons (ycall 1 m__law_starts (acons (xvar 1) anil)) anil)))) (t := t__law_situations_2) h
theorem wt__law_situations_2 {δ : Rz.Env} {S : Sto} {N : Rz.Env → Sto → Prop} {K : Ke} (h : wo ((sfor (isq (xvar 2)) (pname 3) l__law_situations_0) δ S) (fun δ T => wo (t__law_situations_3 δ T) N K) K) : wo (t__law_situations_2 δ S) N K := wo_seq (s := (sfor (isq (xvar 2)) (pname 3) l__law_situations_0)) (t := t__law_situations_3) h
theorem wt__law_situations_3 {δ : Rz.Env} {S : Sto} {N : Rz.Env → Sto → Prop} {K : Ke} (h : wo ((sret (xvar 4)) δ S) N K) : wo (t__law_situations_3 δ S) N K := h
def t__law_is_done_1 : XS := (sret (xandV (xboo (xnot (xisN (xvar 2)))) (xboo (xbinB cEqE (ycall 3 m__law_later (acons (xbin oIx (xvar 0) (xlit (.int 0))) (acons (xbin oIx (xvar 0) (xlit (.int 1))) (acons (xbin oIx (xvar 2) (xun oNeg (xlit (.int 1)))) anil)))) (xlst anil)))))
def t__law_is_done_0 : XS := sseq (sset 2 (ycall 3 m__law_situations (acons (xbin oIx (xvar 0) (xlit (.int 0))) (acons (xbin oIx (xvar 0) (xlit (.int 1))) (acons (xvar 1) anil))))) (t__law_is_done_1)
theorem wt__law_is_done_0 {δ : Rz.Env} {S : Sto} {N : Rz.Env → Sto → Prop} {K : Ke} (h : wo ((sset 2 (ycall 3 m__law_situations (acons (xbin oIx (xvar 0) (xlit (.int 0))) (acons (xbin oIx (xvar 0) (xlit (.int 1))) (acons (xvar 1) anil))))) δ S) (fun δ T => wo (t__law_is_done_1 δ T) N K) K) : wo (t__law_is_done_0 δ S) N K := wo_seq (s := (sset 2 (ycall 3 m__law_situations (acons (xbin oIx (xvar 0) (xlit (.int 0))) (acons (xbin oIx (xvar 0) (xlit (.int 1))) (acons (xvar 1) anil)))))) (t := t__law_is_done_1) h
theorem wt__law_is_done_1 {δ : Rz.Env} {S : Sto} {N : Rz.Env → Sto → Prop} {K : Ke} (h : wo ((sret (xandV (xboo (xnot (xisN (xvar 2)))) (xboo (xbinB cEqE (ycall 3 m__law_later (acons (xbin oIx (xvar 0) (xlit (.int 0))) (acons (xbin oIx (xvar 0) (xlit (.int 1))) (acons (xbin oIx (xvar 2) (xun oNeg (xlit (.int 1)))) anil)))) (xlst anil))))) δ S) N K) : wo (t__law_is_done_1 δ S) N K := h
def t__law_is_listed_1 : XS := (sret (xboo (xbinB cInT (ycall 3 m__law_spot (acons (xvar 3) (acons (xvar 2) (acons (xvar 4) anil)))) (xbin oIx (xbin oIx (xbin oDix (xbin oIx (xvar 0) (xlit (.int 1))) (xvar 3)) (xvar 5)) (xlit (.int 0))))))
def t__law_is_listed_0 : XS := sseq (sasg (ptup 3 (pcons (pname 3) (pcons (pname 4) (pcons (pname 5) pnil)))) (xvar 1)) (t__law_is_listed_1)
theorem wt__law_is_listed_0 {δ : Rz.Env} {S : Sto} {N : Rz.Env → Sto → Prop} {K : Ke} (h : wo ((sasg (ptup 3 (pcons (pname 3) (pcons (pname 4) (pcons (pname 5) pnil)))) (xvar 1)) δ S) (fun δ T => wo (t__law_is_listed_1 δ T) N K) K) : wo (t__law_is_listed_0 δ S) N K := wo_seq (s := (sasg (ptup 3 (pcons (pname 3) (pcons (pname 4) (pcons (pname 5) pnil)))) (xvar 1))) (t := t__law_is_listed_1) h
theorem wt__law_is_listed_1 {δ : Rz.Env} {S : Sto} {N : Rz.Env → Sto → Prop} {K : Ke} (h : wo ((sret (xboo (xbinB cInT (ycall 3 m__law_spot (acons (xvar 3) (acons (xvar 2) (acons (xvar 4) anil)))) (xbin oIx (xbin oIx (xbin oDix (xbin oIx (xvar 0) (xlit (.int 1))) (xvar 3)) (xvar 5)) (xlit (.int 0)))))) δ S) N K) : wo (t__law_is_listed_1 δ S) N K := h
def t__law_reached_0_1 : XS := (sif (xbinB cDnin (xvar 4) (xvar 2)) (sseq (sdsub (xvar 2) (xvar 4) (xlit (.bl true)))
  (sexp (xmetL oExt (xvar 3) (acons (ycall 3 m__law_later (acons (xvar 0) (acons (xvar 1) (acons (xvar 4) anil)))) anil)))) snext)
def t__law_reached_0_0 : XS := sseq (sset 4 (xmetL oPop (xvar 3) (acons (xlit (.int 0)) anil))) (t__law_reached_0_1)
theorem wt__law_reached_0_0 {δ : Rz.Env} {S : Sto} {N : Rz.Env → Sto → Prop} {K : Ke} (h : wo ((sset 4 (xmetL oPop (xvar 3) (acons (xlit (.int 0)) anil))) δ S) (fun δ T => wo (t__law_reached_0_1 δ T) N K) K) : wo (t__law_reached_0_0 δ S) N K := wo_seq (s := (sset 4 (xmetL oPop (xvar 3) (acons (xlit (.int 0)) anil)))) (t := t__law_reached_0_1) h
theorem wt__law_reached_0_1 {δ : Rz.Env} {S : Sto} {N : Rz.Env → Sto → Prop} {K : Ke} (h : wo ((sif (xbinB cDnin (xvar 4) (xvar 2)) (sseq (sdsub (xvar 2) (xvar 4) (xlit (.bl true)))
  (sexp (xmetL oExt (xvar 3) (acons (ycall 3 m__law_later (acons (xvar 0) (acons (xvar 1) (acons (xvar 4) anil)))) anil)))) snext) δ S) N K) : wo (t__law_reached_0_1 δ S) N K := h
def t__law_reached_2 : XS := (sret (xcall fListD (acons (xvar 2) anil)))
def t__law_reached_1 : XS := sseq (swhile (xbinB cNeE (xvar 3) (xlst anil)) l__law_reached_0) (t__law_reached_2)
def t__law_reached_0 : XS := sseq (spar [2, 3] (acons xdict0 (acons (ycall 1 m__law_starts (acons (xvar 1) anil)) anil))) (t__law_reached_1)
theorem wt__law_reached_0 {δ : Rz.Env} {S : Sto} {N : Rz.Env → Sto → Prop} {K : Ke} (h : wo ((spar [2, 3] (acons xdict0 (acons (ycall 1 m__law_starts (acons (xvar 1) anil)) anil))) δ S) (fun δ T => wo (t__law_reached_1 δ T) N K) K) : wo (t__law_reached_0 δ S) N K := wo_seq (s := (spar [2, 3] (acons xdict0 (acons (ycall 1 m__law_starts (acons (xvar 1) anil)) anil)))) (t := t__law_reached_1) h
theorem wt__law_reached_1 {δ : Rz.Env} {S : Sto} {N : Rz.Env → Sto → Prop} {K : Ke} (h : wo ((swhile (xbinB cNeE (xvar 3) (xlst anil)) l__law_reached_0) δ S) (fun δ T => wo (t__law_reached_2 δ T) N K) K) : wo (t__law_reached_1 δ S) N K := wo_seq (s := (swhile (xbinB cNeE (xvar 3) (xlst anil)) l__law_reached_0)) (t := t__law_reached_2) h
theorem wt__law_reached_2 {δ : Rz.Env} {S : Sto} {N : Rz.Env → Sto → Prop} {K : Ke} (h : wo ((sret (xcall fListD (acons (xvar 2) anil))) δ S) N K) : wo (t__law_reached_2 δ S) N K := h
def t__law_least_0_5 : XS := (sexp (xmetL oApp (xvar 3) (acons (xite (xbinB cGe (xvar 8) (xvar 10)) (xlit .non) (xvar 8)) anil)))
def t__law_least_0_4 : XS := sseq (sset 8 (xcall fMin1 (acons (xcomp [11] (isq (ycall 1 m__law_starts (acons (xbin oIx (xvar 0) (xlit (.int 1))) anil))) (pname 11) xyes (xbin oDix (xvar 6) (xvar 11))) anil))) (t__law_least_0_5)
def t__law_least_0_3 : XS := sseq (sfor (irg1 (xcall fLenD (acons (xvar 2) anil))) (pname 7) l__law_least_1) (t__law_least_0_4)
def t__law_least_0_2 : XS := sseq (sset 6 (xcall fDictP (acons (xlock (xvar 2) (xcomp [5] (ikeys (xvar 2)) (pname 5) xyes (xtup (acons (xvar 5) (acons (xite (xbinB cEqE (xbin oDix (xvar 2) (xvar 5)) (xlst anil)) (xbin oDix (xvar 9) (xvar 5)) (xvar 10)) anil))))) anil))) (t__law_least_0_3)
def t__law_least_0_1 : XS := sseq (slock (xvar 2) (sfor (ikeys (xvar 2)) (pname 5) l__law_least_3)) (t__law_least_0_2)
def t__law_least_0_0 : XS := sseq (sasg (ptup 2 (pcons (pname 9) (pcons (pname 10) pnil))) (xtup (acons xdict0 (acons (xbin oPow (xlit (.int 10)) (xlit (.int 6))) anil)))) (t__law_least_0_1)
theorem wt__law_least_0_0 {δ : Rz.Env} {S : Sto} {N : Rz.Env → Sto → Prop} {K : Ke} (h : wo ((sasg (ptup 2 (pcons (pname 9) (pcons (pname 10) pnil))) (xtup (acons xdict0 (acons (xbin oPow (xlit (.int 10)) (xlit (.int 6))) anil)))) δ S) (fun δ T => wo (t__law_least_0_1 δ T) N K) K) : wo (t__law_least_0_0 δ S) N K := wo_seq (s := (sasg (ptup 2 (pcons (pname 9) (pcons (pname 10) pnil))) (xtup (acons xdict0 (acons (xbin oPow (xlit (.int 10)) (xlit (.int 6))) anil))))) (t := t__law_least_0_1) h
theorem wt__law_least_0_1 {δ : Rz.Env} {S : Sto} {N : Rz.Env → Sto → Prop} {K : Ke} (h : wo ((slock (xvar 2) (sfor (ikeys (xvar 2)) (pname 5) l__law_least_3)) δ S) (fun δ T => wo (t__law_least_0_2 δ T) N K) K) : wo (t__law_least_0_1 δ S) N K := wo_seq (s := (slock (xvar 2) (sfor (ikeys (xvar 2)) (pname 5) l__law_least_3))) (t := t__law_least_0_2) h
theorem wt__law_least_0_2 {δ : Rz.Env} {S : Sto} {N : Rz.Env → Sto → Prop} {K : Ke} (h : wo ((sset 6 (xcall fDictP (acons (xlock (xvar 2) (xcomp [5] (ikeys (xvar 2)) (pname 5) xyes (xtup (acons (xvar 5) (acons (xite (xbinB cEqE (xbin oDix (xvar 2) (xvar 5)) (xlst anil)) (xbin oDix (xvar 9) (xvar 5)) (xvar 10)) anil))))) anil))) δ S) (fun δ T => wo (t__law_least_0_3 δ T) N K) K) : wo (t__law_least_0_2 δ S) N K := wo_seq (s := (sset 6 (xcall fDictP (acons (xlock (xvar 2) (xcomp [5] (ikeys (xvar 2)) (pname 5) xyes (xtup (acons (xvar 5) (acons (xite (xbinB cEqE (xbin oDix (xvar 2) (xvar 5)) (xlst anil)) (xbin oDix (xvar 9) (xvar 5)) (xvar 10)) anil))))) anil)))) (t := t__law_least_0_3) h
theorem wt__law_least_0_3 {δ : Rz.Env} {S : Sto} {N : Rz.Env → Sto → Prop} {K : Ke} (h : wo ((sfor (irg1 (xcall fLenD (acons (xvar 2) anil))) (pname 7) l__law_least_1) δ S) (fun δ T => wo (t__law_least_0_4 δ T) N K) K) : wo (t__law_least_0_3 δ S) N K := wo_seq (s := (sfor (irg1 (xcall fLenD (acons (xvar 2) anil))) (pname 7) l__law_least_1)) (t := t__law_least_0_4) h
theorem wt__law_least_0_4 {δ : Rz.Env} {S : Sto} {N : Rz.Env → Sto → Prop} {K : Ke} (h : wo ((sset 8 (xcall fMin1 (acons (xcomp [11] (isq (ycall 1 m__law_starts (acons (xbin oIx (xvar 0) (xlit (.int 1))) anil))) (pname 11) xyes (xbin oDix (xvar 6) (xvar 11))) anil))) δ S) (fun δ T => wo (t__law_least_0_5 δ T) N K) K) : wo (t__law_least_0_4 δ S) N K := wo_seq (s := (sset 8 (xcall fMin1 (acons (xcomp [11] (isq (ycall 1 m__law_starts (acons (xbin oIx (xvar 0) (xlit (.int 1))) anil))) (pname 11) xyes (xbin oDix (xvar 6) (xvar 11))) anil)))) (t := t__law_least_0_5) h
theorem wt__law_least_0_5 {δ : Rz.Env} {S : Sto} {N : Rz.Env → Sto → Prop} {K : Ke} (h : wo ((sexp (xmetL oApp (xvar 3) (acons (xite (xbinB cGe (xvar 8) (xvar 10)) (xlit .non) (xvar 8)) anil))) δ S) N K) : wo (t__law_least_0_5 δ S) N K := h
def t__law_least_3 : XS := (sret (xvar 3))
def t__law_least_2 : XS := sseq (sfor (irg1 (xlit (.int 2))) (pname 4) l__law_least_0) (t__law_least_3)
def t__law_least_1 : XS := sseq (sset 3 (xlst anil)) (t__law_least_2)
def t__law_least_0 : XS := sseq (sset 2 (xcall fDictP (acons (xcomp [5] (isq (ycall 2 m__law_reached (acons (xbin oIx (xvar 0) (xlit (.int 0))) (acons (xbin oIx (xvar 0) (xlit (.int 1))) anil)))) (pname 5) xyes (xtup (acons (xvar 5) (acons (ycall 3 m__law_later (acons (xbin oIx (xvar 0) (xlit (.int 0))) (acons (xbin oIx (xvar 0) (xlit (.int 1))) (acons (xvar 5) anil)))) anil)))) anil))) (t__law_least_1)
theorem wt__law_least_0 {δ : Rz.Env} {S : Sto} {N : Rz.Env → Sto → Prop} {K : Ke} (h : wo ((sset 2 (xcall fDictP (acons (xcomp [5] (isq (ycall 2 m__law_reached (acons (xbin oIx (xvar 0) (xlit (.int 0))) (acons (xbin oIx (xvar 0) (xlit (.int 1))) anil)))) (pname 5) xyes (xtup (acons (xvar 5) (acons (ycall 3 m__law_later (acons (xbin oIx (xvar 0) (xlit (.int 0))) (acons (xbin oIx (xvar 0) (xlit (.int 1))) (acons (xvar 5) anil)))) anil)))) anil))) δ S) (fun δ T => wo (t__law_least_1 δ T) N K) K) : wo (t__law_least_0 δ S) N K := wo_seq (s := (sset 2 (xcall fDictP (acons (xcomp [5] (isq (ycall 2 m__law_reached (acons (xbin oIx (xvar 0) (xlit (.int 0))) (acons (xbin oIx (xvar 0) (xlit (.int 1))) anil)))) (pname 5) xyes (xtup (acons (xvar 5) (acons (ycall 3 m__law_later (acons (xbin oIx (xvar 0) (xlit (.int 0))) (acons (xbin oIx (xvar 0) (xlit (.int 1))) (acons (xvar 5) anil)))) anil)))) anil)))) (t := t__law_least_1) h
theorem wt__law_least_1 {δ : Rz.Env} {S : Sto} {N : Rz.Env → Sto → Prop} {K : Ke} (h : wo ((sset 3 (xlst anil)) δ S) (fun δ T => wo (t__law_least_2 δ T) N K) K) : wo (t__law_least_1 δ S) N K := wo_seq (s := (sset 3 (xlst anil))) (t := t__law_least_2) h
theorem wt__law_least_2 {δ : Rz.Env} {S : Sto} {N : Rz.Env → Sto → Prop} {K : Ke} (h : wo ((sfor (irg1 (xlit (.int 2))) (pname 4) l__law_least_0) δ S) (fun δ T => wo (t__law_least_3 δ T) N K) K) : wo (t__law_least_2 δ S) N K := wo_seq (s := (sfor (irg1 (xlit (.int 2))) (pname 4) l__law_least_0)) (t := t__law_least_3) h
theorem wt__law_least_3 {δ : Rz.Env} {S : Sto} {N : Rz.Env → Sto → Prop} {K : Ke} (h : wo ((sret (xvar 3)) δ S) N K) : wo (t__law_least_3 δ S) N K := h
def t_check_match_2 : XS := (sif (xnot (xtru (xcall fAll (acons (xcomp [3] (isq (yprop 41 m_Road_shapes (xvar 1))) (pname 3) xyes (xboo (xbinB cIn (xvar 3) (xvar 2)))) anil)))) (sraise 15) snext)
def t_check_match_1 : XS := sseq (sset 2 (yprop 40 m_Rule_shapes (xvar 0))) (t_check_match_2)
def t_check_match_0 : XS := sseq (sif (xor (xnot (xtru (xcall (fIsC 40) (acons (xvar 0) (acons (xlit (.cl 40)) anil))))) (xnot (xtru (xcall (fIsC 41) (acons (xvar 1) (acons (xlit (.cl 41)) anil)))))) (sraise 15) snext) (t_check_match_1)
theorem wt_check_match_0 {δ : Rz.Env} {S : Sto} {N : Rz.Env → Sto → Prop} {K : Ke} (h : wo ((sif (xor (xnot (xtru (xcall (fIsC 40) (acons (xvar 0) (acons (xlit (.cl 40)) anil))))) (xnot (xtru (xcall (fIsC 41) (acons (xvar 1) (acons (xlit (.cl 41)) anil)))))) (sraise 15) snext) δ S) (fun δ T => wo (t_check_match_1 δ T) N K) K) : wo (t_check_match_0 δ S) N K := wo_seq (s := (sif (xor (xnot (xtru (xcall (fIsC 40) (acons (xvar 0) (acons (xlit (.cl 40)) anil))))) (xnot (xtru (xcall (fIsC 41) (acons (xvar 1) (acons (xlit (.cl 41)) anil)))))) (sraise 15) snext)) (t := t_check_match_1) h
theorem wt_check_match_1 {δ : Rz.Env} {S : Sto} {N : Rz.Env → Sto → Prop} {K : Ke} (h : wo ((sset 2 (yprop 40 m_Rule_shapes (xvar 0))) δ S) (fun δ T => wo (t_check_match_2 δ T) N K) K) : wo (t_check_match_1 δ S) N K := wo_seq (s := (sset 2 (yprop 40 m_Rule_shapes (xvar 0)))) (t := t_check_match_2) h
theorem wt_check_match_2 {δ : Rz.Env} {S : Sto} {N : Rz.Env → Sto → Prop} {K : Ke} (h : wo ((sif (xnot (xtru (xcall fAll (acons (xcomp [3] (isq (yprop 41 m_Road_shapes (xvar 1))) (pname 3) xyes (xboo (xbinB cIn (xvar 3) (xvar 2)))) anil)))) (sraise 15) snext) δ S) N K) : wo (t_check_match_2 δ S) N K := h
def t__way_to_2 : XS := (sret (xun oRev (xvar 2)))
def t__way_to_1 : XS := sseq (swhile (xnot (xisN (xbin oDix (xvar 1) (xbin oIx (xvar 2) (xun oNeg (xlit (.int 1))))))) l__way_to_0) (t__way_to_2)
def t__way_to_0 : XS := sseq (sset 2 (xlst (acons (xvar 0) anil))) (t__way_to_1)
theorem wt__way_to_0 {δ : Rz.Env} {S : Sto} {N : Rz.Env → Sto → Prop} {K : Ke} (h : wo ((sset 2 (xlst (acons (xvar 0) anil))) δ S) (fun δ T => wo (t__way_to_1 δ T) N K) K) : wo (t__way_to_0 δ S) N K := wo_seq (s := (sset 2 (xlst (acons (xvar 0) anil)))) (t := t__way_to_1) h
theorem wt__way_to_1 {δ : Rz.Env} {S : Sto} {N : Rz.Env → Sto → Prop} {K : Ke} (h : wo ((swhile (xnot (xisN (xbin oDix (xvar 1) (xbin oIx (xvar 2) (xun oNeg (xlit (.int 1))))))) l__way_to_0) δ S) (fun δ T => wo (t__way_to_2 δ T) N K) K) : wo (t__way_to_1 δ S) N K := wo_seq (s := (swhile (xnot (xisN (xbin oDix (xvar 1) (xbin oIx (xvar 2) (xun oNeg (xlit (.int 1))))))) l__way_to_0)) (t := t__way_to_2) h
theorem wt__way_to_2 {δ : Rz.Env} {S : Sto} {N : Rz.Env → Sto → Prop} {K : Ke} (h : wo ((sret (xun oRev (xvar 2))) δ S) N K) : wo (t__way_to_2 δ S) N K := h
def t_first_way_0_3 : XS := (sset 5 (xbin oInc (xvar 5) (xlit (.int 1))))
def t_first_way_0_2 : XS := sseq (sfor (isq (xbin oDix (xvar 1) (xvar 6))) (pname 7) l_first_way_1) (t_first_way_0_3)
def t_first_way_0_1 : XS := sseq (sif (xbinB cDin (xvar 6) (xvar 2)) (sret (ycall 2 m__way_to (acons (xvar 6) (acons (xvar 3) anil)))) snext) (t_first_way_0_2)
def t_first_way_0_0 : XS := sseq (sset 6 (xbin oIx (xvar 4) (xvar 5))) (t_first_way_0_1)
theorem wt_first_way_0_0 {δ : Rz.Env} {S : Sto} {N : Rz.Env → Sto → Prop} {K : Ke} (h : wo ((sset 6 (xbin oIx (xvar 4) (xvar 5))) δ S) (fun δ T => wo (t_first_way_0_1 δ T) N K) K) : wo (t_first_way_0_0 δ S) N K := wo_seq (s := (sset 6 (xbin oIx (xvar 4) (xvar 5)))) (t := t_first_way_0_1) h
theorem wt_first_way_0_1 {δ : Rz.Env} {S : Sto} {N : Rz.Env → Sto → Prop} {K : Ke} (h : wo ((sif (xbinB cDin (xvar 6) (xvar 2)) (sret (ycall 2 m__way_to (acons (xvar 6) (acons (xvar 3) anil)))) snext) δ S) (fun δ T => wo (t_first_way_0_2 δ T) N K) K) : wo (t_first_way_0_1 δ S) N K := wo_seq (s := (sif (xbinB cDin (xvar 6) (xvar 2)) (sret (ycall 2 m__way_to (acons (xvar 6) (acons (xvar 3) anil)))) snext)) (t := t_first_way_0_2) h
theorem wt_first_way_0_2 {δ : Rz.Env} {S : Sto} {N : Rz.Env → Sto → Prop} {K : Ke} (h : wo ((sfor (isq (xbin oDix (xvar 1) (xvar 6))) (pname 7) l_first_way_1) δ S) (fun δ T => wo (t_first_way_0_3 δ T) N K) K) : wo (t_first_way_0_2 δ S) N K := wo_seq (s := (sfor (isq (xbin oDix (xvar 1) (xvar 6))) (pname 7) l_first_way_1)) (t := t_first_way_0_3) h
theorem wt_first_way_0_3 {δ : Rz.Env} {S : Sto} {N : Rz.Env → Sto → Prop} {K : Ke} (h : wo ((sset 5 (xbin oInc (xvar 5) (xlit (.int 1)))) δ S) N K) : wo (t_first_way_0_3 δ S) N K := h
def t_first_way_4 : XS := (sret (xlit .non))
def t_first_way_3 : XS := sseq (swhile (xbinB cLt (xvar 5) (xcall fLen (acons (xvar 4) anil))) l_first_way_0) (t_first_way_4)
def t_first_way_2 : XS := sseq (sset 5 (xlit (.int 0))) (t_first_way_3)
def t_first_way_1 : XS := sseq (sset 4 (xcall fList (acons (xvar 0) anil))) (t_first_way_2)
def t_first_way_0 : XS := sseq (sset 3 (xdcomp [6] (isq (xvar 0)) (pname 6) xyes (xvar 6) (xlit .non))) (t_first_way_1)
theorem wt_first_way_0 {δ : Rz.Env} {S : Sto} {N : Rz.Env → Sto → Prop} {K : Ke} (h : wo ((sset 3 (xdcomp [6] (isq (xvar 0)) (pname 6) xyes (xvar 6) (xlit .non))) δ S) (fun δ T => wo (t_first_way_1 δ T) N K) K) : wo (t_first_way_0 δ S) N K := wo_seq (s := (sset 3 (xdcomp [6] (isq (xvar 0)) (pname 6) xyes (xvar 6) (xlit .non)))) (t := t_first_way_1) h
theorem wt_first_way_1 {δ : Rz.Env} {S : Sto} {N : Rz.Env → Sto → Prop} {K : Ke} (h : wo ((sset 4 (xcall fList (acons (xvar 0) anil))) δ S) (fun δ T => wo (t_first_way_2 δ T) N K) K) : wo (t_first_way_1 δ S) N K := wo_seq (s := (sset 4 (xcall fList (acons (xvar 0) anil)))) (t := t_first_way_2) h
theorem wt_first_way_2 {δ : Rz.Env} {S : Sto} {N : Rz.Env → Sto → Prop} {K : Ke} (h : wo ((sset 5 (xlit (.int 0))) δ S) (fun δ T => wo (t_first_way_3 δ T) N K) K) : wo (t_first_way_2 δ S) N K := wo_seq (s := (sset 5 (xlit (.int 0)))) (t := t_first_way_3) h
theorem wt_first_way_3 {δ : Rz.Env} {S : Sto} {N : Rz.Env → Sto → Prop} {K : Ke} (h : wo ((swhile (xbinB cLt (xvar 5) (xcall fLen (acons (xvar 4) anil))) l_first_way_0) δ S) (fun δ T => wo (t_first_way_4 δ T) N K) K) : wo (t_first_way_3 δ S) N K := wo_seq (s := (swhile (xbinB cLt (xvar 5) (xcall fLen (acons (xvar 4) anil))) l_first_way_0)) (t := t_first_way_4) h
theorem wt_first_way_4 {δ : Rz.Env} {S : Sto} {N : Rz.Env → Sto → Prop} {K : Ke} (h : wo ((sret (xlit .non)) δ S) N K) : wo (t_first_way_4 δ S) N K := h
def t_Road_behind_1 : XS := (sret (xcall fSrt (acons (xbin oAdd (xlst (acons (xvar 1) anil)) (xcomp [2, 3] (isq (xfld 41 1 (xvar 0))) (ptup 2 (pcons (pname 2) (pcons (pname 3) pnil))) (xbinB cEq (xvar 2) (xvar 1)) (xvar 3))) anil)))
def t_Road_behind_0 : XS := sseq (sif (xor (xnot (xtru (ycall 1 m_is_shape (acons (xvar 1) anil)))) (xbinB cNin (xvar 1) (xfld 41 2 (xvar 0)))) (sraise 11) snext) (t_Road_behind_1)
def t_states_behind_0_1 : XS := (sfor (ienum (xbin oDix (xvar 2) (xvar 4))) (ptup 2 (pcons (pname 6) (pcons (ptup 2 (pcons (pname 7) (pcons (pname 8) pnil))) pnil))) l_states_behind_1)
def t_states_behind_0_0 : XS := sseq (sset 5 (ymeth 41 2 m_Road_behind (xvar 1) (acons (xvar 4) anil))) (t_states_behind_0_1)
theorem wt_states_behind_0_0 {δ : Rz.Env} {S : Sto} {N : Rz.Env → Sto → Prop} {K : Ke} (h : wo ((sset 5 (ymeth 41 2 m_Road_behind (xvar 1) (acons (xvar 4) anil))) δ S) (fun δ T => wo (t_states_behind_0_1 δ T) N K) K) : wo (t_states_behind_0_0 δ S) N K := wo_seq (s := (sset 5 (ymeth 41 2 m_Road_behind (xvar 1) (acons (xvar 4) anil)))) (t := t_states_behind_0_1) h
theorem wt_states_behind_0_1 {δ : Rz.Env} {S : Sto} {N : Rz.Env → Sto → Prop} {K : Ke} (h : wo ((sfor (ienum (xbin oDix (xvar 2) (xvar 4))) (ptup 2 (pcons (pname 6) (pcons (ptup 2 (pcons (pname 7) (pcons (pname 8) pnil))) pnil))) l_states_behind_1) δ S) N K) : wo (t_states_behind_0_1 δ S) N K := h
def t_states_behind_3 : XS := (sret (xvar 3))
def t_states_behind_2 : XS := sseq (sfor (isq (yprop 41 m_Road_shapes (xvar 1))) (pname 4) l_states_behind_0) (t_states_behind_3)
def t_states_behind_1 : XS := sseq (sset 3 xdict0) (t_states_behind_2)
def t_states_behind_0 : XS := sseq (sset 2 (yprop 40 m_Rule_calls (xvar 0))) (t_states_behind_1)
theorem wt_states_behind_0 {δ : Rz.Env} {S : Sto} {N : Rz.Env → Sto → Prop} {K : Ke} (h : wo ((sset 2 (yprop 40 m_Rule_calls (xvar 0))) δ S) (fun δ T => wo (t_states_behind_1 δ T) N K) K) : wo (t_states_behind_0 δ S) N K := wo_seq (s := (sset 2 (yprop 40 m_Rule_calls (xvar 0)))) (t := t_states_behind_1) h
theorem wt_states_behind_1 {δ : Rz.Env} {S : Sto} {N : Rz.Env → Sto → Prop} {K : Ke} (h : wo ((sset 3 xdict0) δ S) (fun δ T => wo (t_states_behind_2 δ T) N K) K) : wo (t_states_behind_1 δ S) N K := wo_seq (s := (sset 3 xdict0)) (t := t_states_behind_2) h
theorem wt_states_behind_2 {δ : Rz.Env} {S : Sto} {N : Rz.Env → Sto → Prop} {K : Ke} (h : wo ((sfor (isq (yprop 41 m_Road_shapes (xvar 1))) (pname 4) l_states_behind_0) δ S) (fun δ T => wo (t_states_behind_3 δ T) N K) K) : wo (t_states_behind_2 δ S) N K := wo_seq (s := (sfor (isq (yprop 41 m_Road_shapes (xvar 1))) (pname 4) l_states_behind_0)) (t := t_states_behind_3) h
theorem wt_states_behind_3 {δ : Rz.Env} {S : Sto} {N : Rz.Env → Sto → Prop} {K : Ke} (h : wo ((sret (xvar 3)) δ S) N K) : wo (t_states_behind_3 δ S) N K := h
def t_fewest_calls_4 : XS := (sret (xtup (acons (xcall fLen (acons (xvar 3) anil)) (acons (xcomp [4, 5] (isq (xvar 3)) (ptup 2 (pcons (pname 4) (pcons (pname 5) pnil))) xyes (xtup (acons (xvar 4) (acons (xlit (.bl false)) anil)))) anil))))
def t_fewest_calls_3 : XS := sseq (sif (xisN (xvar 3)) (sret (xlit .non)) snext) (t_fewest_calls_4)
def t_fewest_calls_2 : XS := sseq (sset 3 (ycall 3 m_first_way (acons (ycall 1 m_states_at_begin (acons (xvar 1) anil)) (acons (xvar 2) (acons (ycall 1 m_ends_of (acons (xvar 2) anil)) anil))))) (t_fewest_calls_3)
def t_fewest_calls_1 : XS := sseq (sset 2 (ycall 2 m_states_behind (acons (xvar 0) (acons (xvar 1) anil)))) (t_fewest_calls_2)
def t_fewest_calls_0 : XS := sseq (sexp (ycall 2 m_check_match (acons (xvar 0) (acons (xvar 1) anil)))) (t_fewest_calls_1)
theorem wt_fewest_calls_0 {δ : Rz.Env} {S : Sto} {N : Rz.Env → Sto → Prop} {K : Ke} (h : wo ((sexp (ycall 2 m_check_match (acons (xvar 0) (acons (xvar 1) anil)))) δ S) (fun δ T => wo (t_fewest_calls_1 δ T) N K) K) : wo (t_fewest_calls_0 δ S) N K := wo_seq (s := (sexp (ycall 2 m_check_match (acons (xvar 0) (acons (xvar 1) anil))))) (t := t_fewest_calls_1) h
theorem wt_fewest_calls_1 {δ : Rz.Env} {S : Sto} {N : Rz.Env → Sto → Prop} {K : Ke} (h : wo ((sset 2 (ycall 2 m_states_behind (acons (xvar 0) (acons (xvar 1) anil)))) δ S) (fun δ T => wo (t_fewest_calls_2 δ T) N K) K) : wo (t_fewest_calls_1 δ S) N K := wo_seq (s := (sset 2 (ycall 2 m_states_behind (acons (xvar 0) (acons (xvar 1) anil))))) (t := t_fewest_calls_2) h
theorem wt_fewest_calls_2 {δ : Rz.Env} {S : Sto} {N : Rz.Env → Sto → Prop} {K : Ke} (h : wo ((sset 3 (ycall 3 m_first_way (acons (ycall 1 m_states_at_begin (acons (xvar 1) anil)) (acons (xvar 2) (acons (ycall 1 m_ends_of (acons (xvar 2) anil)) anil))))) δ S) (fun δ T => wo (t_fewest_calls_3 δ T) N K) K) : wo (t_fewest_calls_2 δ S) N K := wo_seq (s := (sset 3 (ycall 3 m_first_way (acons (ycall 1 m_states_at_begin (acons (xvar 1) anil)) (acons (xvar 2) (acons (ycall 1 m_ends_of (acons (xvar 2) anil)) anil)))))) (t := t_fewest_calls_3) h
theorem wt_fewest_calls_3 {δ : Rz.Env} {S : Sto} {N : Rz.Env → Sto → Prop} {K : Ke} (h : wo ((sif (xisN (xvar 3)) (sret (xlit .non)) snext) δ S) (fun δ T => wo (t_fewest_calls_4 δ T) N K) K) : wo (t_fewest_calls_3 δ S) N K := wo_seq (s := (sif (xisN (xvar 3)) (sret (xlit .non)) snext)) (t := t_fewest_calls_4) h
theorem wt_fewest_calls_4 {δ : Rz.Env} {S : Sto} {N : Rz.Env → Sto → Prop} {K : Ke} (h : wo ((sret (xtup (acons (xcall fLen (acons (xvar 3) anil)) (acons (xcomp [4, 5] (isq (xvar 3)) (ptup 2 (pcons (pname 4) (pcons (pname 5) pnil))) xyes (xtup (acons (xvar 4) (acons (xlit (.bl false)) anil)))) anil)))) δ S) N K) : wo (t_fewest_calls_4 δ S) N K := h
def t__law_right_0_2 : XS := (sif (xnot (xisN (xvar 4))) (sseq (sif (xor (xnot (xtru (xcall fIsi (acons (xvar 4) (acons (xlit (.ty 4)) anil))))) (xor (xbinB cNe (xcall fLen (acons (xvar 4) anil)) (xlit (.int 2))) (xbinB cNe (xcall fReprY (acons (xbin oIx (xvar 4) (xlit (.int 0))) anil)) (xcall fReprY (acons (xvar 2) anil))))) (sret (xlit (.bl false))) snext)
  (sseq (sif (xor (xnot (xtru (ycall 2 m__law_is_done (acons (xvar 1) (acons (xbin oIx (xvar 4) (xlit (.int 1))) anil))))) (xbinB cNe (xcall fLen (acons (xbin oIx (xvar 4) (xlit (.int 1))) anil)) (xvar 2))) (sret (xlit (.bl false))) snext)
  (sexp (xmetL oApp (xbin oIx (xvar 4) (xlit (.int 1))) (acons (xlit .non) anil))))) snext)
def t__law_right_0_1 : XS := sseq (sif (xbinB cNe (xboo (xisN (xvar 4))) (xboo (xisN (xvar 2)))) (sret (xlit (.bl false))) snext) (t__law_right_0_2)
def t__law_right_0_0 : XS := sseq (sset 4 (ycall 2 m_fewest_calls (acons (xbin oIx (xvar 0) (xlit (.int 0))) (acons (xbin oIx (xvar 0) (xlit (.int 1))) anil)))) (t__law_right_0_1)
theorem wt__law_right_0_0 {δ : Rz.Env} {S : Sto} {N : Rz.Env → Sto → Prop} {K : Ke} (h : wo ((sset 4 (ycall 2 m_fewest_calls (acons (xbin oIx (xvar 0) (xlit (.int 0))) (acons (xbin oIx (xvar 0) (xlit (.int 1))) anil)))) δ S) (fun δ T => wo (t__law_right_0_1 δ T) N K) K) : wo (t__law_right_0_0 δ S) N K := wo_seq (s := (sset 4 (ycall 2 m_fewest_calls (acons (xbin oIx (xvar 0) (xlit (.int 0))) (acons (xbin oIx (xvar 0) (xlit (.int 1))) anil))))) (t := t__law_right_0_1) h
theorem wt__law_right_0_1 {δ : Rz.Env} {S : Sto} {N : Rz.Env → Sto → Prop} {K : Ke} (h : wo ((sif (xbinB cNe (xboo (xisN (xvar 4))) (xboo (xisN (xvar 2)))) (sret (xlit (.bl false))) snext) δ S) (fun δ T => wo (t__law_right_0_2 δ T) N K) K) : wo (t__law_right_0_1 δ S) N K := wo_seq (s := (sif (xbinB cNe (xboo (xisN (xvar 4))) (xboo (xisN (xvar 2)))) (sret (xlit (.bl false))) snext)) (t := t__law_right_0_2) h
theorem wt__law_right_0_2 {δ : Rz.Env} {S : Sto} {N : Rz.Env → Sto → Prop} {K : Ke} (h : wo ((sif (xnot (xisN (xvar 4))) (sseq (sif (xor (xnot (xtru (xcall fIsi (acons (xvar 4) (acons (xlit (.ty 4)) anil))))) (xor (xbinB cNe (xcall fLen (acons (xvar 4) anil)) (xlit (.int 2))) (xbinB cNe (xcall fReprY (acons (xbin oIx (xvar 4) (xlit (.int 0))) anil)) (xcall fReprY (acons (xvar 2) anil))))) (sret (xlit (.bl false))) snext)
  (sseq (sif (xor (xnot (xtru (ycall 2 m__law_is_done (acons (xvar 1) (acons (xbin oIx (xvar 4) (xlit (.int 1))) anil))))) (xbinB cNe (xcall fLen (acons (xbin oIx (xvar 4) (xlit (.int 1))) anil)) (xvar 2))) (sret (xlit (.bl false))) snext)
  (sexp (xmetL oApp (xbin oIx (xvar 4) (xlit (.int 1))) (acons (xlit .non) anil))))) snext) δ S) N K) : wo (t__law_right_0_2 δ S) N K := h
def t__law_right_2 : XS := (sret (xboo (xbinB (cEqP 40 m_Rule___eq__ 41 m_Road___eq__) (xvar 0) (xtup (acons (ycall 1 m__law_rule_of (acons (xbin oIx (xvar 1) (xlit (.int 0))) anil)) (acons (ycall 1 m__law_road_of (acons (xbin oIx (xvar 1) (xlit (.int 1))) anil)) anil))))))
def t__law_right_1 : XS := sseq (sfor (irg1 (xlit (.int 2))) (pname 3) l__law_right_0) (t__law_right_2)
def t__law_right_0 : XS := sseq (sset 2 (xbin oIx (ycall 2 m__law_least (acons (xvar 1) (acons (xlit (.int 0)) anil))) (xlit (.int 0)))) (t__law_right_1)
theorem wt__law_right_0 {δ : Rz.Env} {S : Sto} {N : Rz.Env → Sto → Prop} {K : Ke} (h : wo ((sset 2 (xbin oIx (ycall 2 m__law_least (acons (xvar 1) (acons (xlit (.int 0)) anil))) (xlit (.int 0)))) δ S) (fun δ T => wo (t__law_right_1 δ T) N K) K) : wo (t__law_right_0 δ S) N K := wo_seq (s := (sset 2 (xbin oIx (ycall 2 m__law_least (acons (xvar 1) (acons (xlit (.int 0)) anil))) (xlit (.int 0))))) (t := t__law_right_1) h
theorem wt__law_right_1 {δ : Rz.Env} {S : Sto} {N : Rz.Env → Sto → Prop} {K : Ke} (h : wo ((sfor (irg1 (xlit (.int 2))) (pname 3) l__law_right_0) δ S) (fun δ T => wo (t__law_right_2 δ T) N K) K) : wo (t__law_right_1 δ S) N K := wo_seq (s := (sfor (irg1 (xlit (.int 2))) (pname 3) l__law_right_0)) (t := t__law_right_2) h
theorem wt__law_right_2 {δ : Rz.Env} {S : Sto} {N : Rz.Env → Sto → Prop} {K : Ke} (h : wo ((sret (xboo (xbinB (cEqP 40 m_Rule___eq__ 41 m_Road___eq__) (xvar 0) (xtup (acons (ycall 1 m__law_rule_of (acons (xbin oIx (xvar 1) (xlit (.int 0))) anil)) (acons (ycall 1 m__law_road_of (acons (xbin oIx (xvar 1) (xlit (.int 1))) anil)) anil)))))) δ S) N K) : wo (t__law_right_2 δ S) N K := h
def t_law_0_3 : XS := (sset 2 (xtup (acons (xvar 5) (acons (xvar 4) anil))))
def t_law_0_2 : XS := sseq (sif (xor (xnot (xtru (ycall 2 m__law_right (acons (xvar 5) (acons (xvar 4) anil))))) (xand (xnot (xisN (xvar 2))) (xnot (xtru (ycall 2 m__law_right (acons (xbin oIx (xvar 2) (xlit (.int 0))) (acons (xbin oIx (xvar 2) (xlit (.int 1))) anil))))))) (sret (xlit (.bl false))) snext) (t_law_0_3)
def t_law_0_1 : XS := sseq (sset 5 (xtup (acons (ycall 1 m__law_rule_of (acons (xbin oIx (xvar 4) (xlit (.int 0))) anil)) (acons (ycall 1 m__law_road_of (acons (xbin oIx (xvar 4) (xlit (.int 1))) anil)) anil)))) (t_law_0_2)
def t_law_0_0 : XS := sseq (sset 4 (ycall 1 m__law_case (acons (xvar 1) anil))) (t_law_0_1)
theorem wt_law_0_0 {δ : Rz.Env} {S : Sto} {N : Rz.Env → Sto → Prop} {K : Ke} (h : wo ((sset 4 (ycall 1 m__law_case (acons (xvar 1) anil))) δ S) (fun δ T => wo (t_law_0_1 δ T) N K) K) : wo (t_law_0_0 δ S) N K := wo_seq (s := (sset 4 (ycall 1 m__law_case (acons (xvar 1) anil)))) (t := t_law_0_1) h
theorem wt_law_0_1 {δ : Rz.Env} {S : Sto} {N : Rz.Env → Sto → Prop} {K : Ke} (h : wo ((sset 5 (xtup (acons (ycall 1 m__law_rule_of (acons (xbin oIx (xvar 4) (xlit (.int 0))) anil)) (acons (ycall 1 m__law_road_of (acons (xbin oIx (xvar 4) (xlit (.int 1))) anil)) anil)))) δ S) (fun δ T => wo (t_law_0_2 δ T) N K) K) : wo (t_law_0_1 δ S) N K := wo_seq (s := (sset 5 (xtup (acons (ycall 1 m__law_rule_of (acons (xbin oIx (xvar 4) (xlit (.int 0))) anil)) (acons (ycall 1 m__law_road_of (acons (xbin oIx (xvar 4) (xlit (.int 1))) anil)) anil))))) (t := t_law_0_2) h
theorem wt_law_0_2 {δ : Rz.Env} {S : Sto} {N : Rz.Env → Sto → Prop} {K : Ke} (h : wo ((sif (xor (xnot (xtru (ycall 2 m__law_right (acons (xvar 5) (acons (xvar 4) anil))))) (xand (xnot (xisN (xvar 2))) (xnot (xtru (ycall 2 m__law_right (acons (xbin oIx (xvar 2) (xlit (.int 0))) (acons (xbin oIx (xvar 2) (xlit (.int 1))) anil))))))) (sret (xlit (.bl false))) snext) δ S) (fun δ T => wo (t_law_0_3 δ T) N K) K) : wo (t_law_0_2 δ S) N K := wo_seq (s := (sif (xor (xnot (xtru (ycall 2 m__law_right (acons (xvar 5) (acons (xvar 4) anil))))) (xand (xnot (xisN (xvar 2))) (xnot (xtru (ycall 2 m__law_right (acons (xbin oIx (xvar 2) (xlit (.int 0))) (acons (xbin oIx (xvar 2) (xlit (.int 1))) anil))))))) (sret (xlit (.bl false))) snext)) (t := t_law_0_3) h
theorem wt_law_0_3 {δ : Rz.Env} {S : Sto} {N : Rz.Env → Sto → Prop} {K : Ke} (h : wo ((sset 2 (xtup (acons (xvar 5) (acons (xvar 4) anil)))) δ S) N K) : wo (t_law_0_3 δ S) N K := h
def t_law_3 : XS := (sret (xboo (xisN (ycall 2 m_fewest_calls (acons (ynew 40 3 m_Rule___init__ (acons (xlit (.int 1)) (acons (xdict1 (xtup (acons (xlit (.int 0)) anil)) (xlst (acons (xtup (acons (xtup anil) (acons (xlit (.int 0)) anil))) anil))) anil))) (acons (ynew 41 3 m_Road___init__ (acons (xlst (acons (xtup (acons (xlit (.int 0)) anil)) anil)) (acons (xlst anil) anil))) anil))))))
def t_law_2 : XS := sseq (sfor (irg1 (xlit (.int 16))) (pname 3) l_law_0) (t_law_3)
def t_law_1 : XS := sseq (sset 2 (xlit .non)) (t_law_2)
def t_law_0 : XS := sseq (sset 1 (ycall 1 m__law_pen (acons (xvar 0) anil))) (t_law_1)
theorem wt_law_0 {δ : Rz.Env} {S : Sto} {N : Rz.Env → Sto → Prop} {K : Ke} (h : wo ((sset 1 (ycall 1 m__law_pen (acons (xvar 0) anil))) δ S) (fun δ T => wo (t_law_1 δ T) N K) K) : wo (t_law_0 δ S) N K := wo_seq (s := (sset 1 (ycall 1 m__law_pen (acons (xvar 0) anil)))) (t := t_law_1) h
theorem wt_law_1 {δ : Rz.Env} {S : Sto} {N : Rz.Env → Sto → Prop} {K : Ke} (h : wo ((sset 2 (xlit .non)) δ S) (fun δ T => wo (t_law_2 δ T) N K) K) : wo (t_law_1 δ S) N K := wo_seq (s := (sset 2 (xlit .non))) (t := t_law_2) h
theorem wt_law_2 {δ : Rz.Env} {S : Sto} {N : Rz.Env → Sto → Prop} {K : Ke} (h : wo ((sfor (irg1 (xlit (.int 16))) (pname 3) l_law_0) δ S) (fun δ T => wo (t_law_3 δ T) N K) K) : wo (t_law_2 δ S) N K := wo_seq (s := (sfor (irg1 (xlit (.int 16))) (pname 3) l_law_0)) (t := t_law_3) h
theorem wt_law_3 {δ : Rz.Env} {S : Sto} {N : Rz.Env → Sto → Prop} {K : Ke} (h : wo ((sret (xboo (xisN (ycall 2 m_fewest_calls (acons (ynew 40 3 m_Rule___init__ (acons (xlit (.int 1)) (acons (xdict1 (xtup (acons (xlit (.int 0)) anil)) (xlst (acons (xtup (acons (xtup anil) (acons (xlit (.int 0)) anil))) anil))) anil))) (acons (ynew 41 3 m_Road___init__ (acons (xlst (acons (xtup (acons (xlit (.int 0)) anil)) anil)) (acons (xlst anil) anil))) anil)))))) δ S) N K) : wo (t_law_3 δ S) N K := h
theorem w__law_call {a0 a1 a2 a3 : Va} {S : Sto} {Q : Va → Sto → Prop} {E : Xp} (h : wo ((sseq (sset 4 (ycall 1 m__law_buckets (acons (xvar 1) anil)))
  (sseq (sset 5 (ycall 2 m__law_draw (acons (xvar 0) (acons (xlit (.int 8)) anil))))
  (sseq (sset 6 (xite (xbinB cLt (xvar 5) (xlit (.int 4))) (xite (xbinB cLt (xbin oAdd (xvar 3) (xlit (.int 1))) (xvar 2)) (xbin oAdd (xvar 3) (xlit (.int 1))) (xlit .non)) (xite (xbinB cLt (xvar 5) (xlit (.int 7))) (ycall 2 m__law_draw (acons (xvar 0) (acons (xvar 2) anil))) (xlit .non))))
  (sseq (sset 7 (ycall 3 m__law_some (acons (xvar 0) (acons (xvar 4) (acons (xlit (.int 3)) anil)))))
  (sseq (sif (xbinB cEq (ycall 2 m__law_draw (acons (xvar 0) (acons (xlit (.int 3)) anil))) (xlit (.int 0))) (sset 7 (xcomp [8] (isq (xvar 4)) (pname 8) (xbinB cEq (xbin oMod (xcall fInt (acons (xbin oIx (xvar 8) (xlit (.int 1))) anil)) (xlit (.int 2))) (xbin oMod (xcall fInt (acons (xvar 3) anil)) (xlit (.int 2)))) (xvar 8))) snext)
  (sret (xtup (acons (xcall fTup (acons (xcall fSrt (acons (xvar 7) anil)) anil)) (acons (xvar 6) anil))))))))) [some a0, some a1, some a2, some a3, none, none, none, none, none] S) (fun _ S1 => Q .non S1) (fnK Q E)) : wr (m__law_call [a0, a1, a2, a3] S) Q E := fn_wo (k := 9) (b := b__law_call) rfl h
theorem w__law_drawn {a0 a1 a2 : Va} {S : Sto} {Q : Va → Sto → Prop} {E : Xp} (h : wo ((sseq (sasg (ptup 2 (pcons (pname 4) (pcons (pname 5) pnil))) (xtup (acons (xbin oAdd (xlit (.int 1)) (ycall 2 m__law_draw (acons (xvar 0) (acons (xvar 2) anil)))) (acons xdict0 anil))))
  (sseq (sfor (isq (xvar 1)) (pname 3) l__law_drawn_0)
  (sret (xtup (acons (xvar 4) (acons (xvar 5) anil)))))) [some a0, some a1, some a2, none, none, none, none] S) (fun _ S1 => Q .non S1) (fnK Q E)) : wr (m__law_drawn [a0, a1, a2] S) Q E := fn_wo (k := 7) (b := b__law_drawn) rfl h
theorem w__law_counted {a0 : Va} {S : Sto} {Q : Va → Sto → Prop} {E : Xp} (h : wo ((sseq (sset 1 (xcall fMax1 (acons (xcomp [3] (isq (xvar 0)) (pname 3) xyes (xcall fMax1 (acons (xvar 3) anil))) anil)))
  (sseq (sset 2 xdict0)
  (sseq (sfor (isq (xvar 0)) (pname 3) l__law_counted_0)
  (sret (xtup (acons (ycall 1 m__law_power (acons (xvar 1) anil)) (acons (xvar 2) anil))))))) [some a0, none, none, none, none, none, none, none] S) (fun _ S1 => Q .non S1) (fnK Q E)) : wr (m__law_counted [a0] S) Q E := fn_wo (k := 8) (b := b__law_counted) rfl h
theorem w__law_rule {a0 a1 a2 : Va} {S : Sto} {Q : Va → Sto → Prop} {E : Xp} (h : wo ((sseq (sset 3 (ycall 2 m__law_draw (acons (xvar 0) (acons (xlit (.int 3)) anil))))
  (sseq (sif (xbinB cEq (xvar 3) (xlit (.int 0))) (sret (ycall 3 m__law_drawn (acons (xvar 0) (acons (xvar 1) (acons (xvar 2) anil))))) snext)
  (sseq (sasg (ptup 2 (pcons (pname 5) (pcons (pname 6) pnil))) (ycall 1 m__law_counted (acons (xvar 1) anil)))
  (sseq (sif (xbinB cEq (xvar 3) (xlit (.int 2))) (sasg (ptup 2 (pcons (pname 5) (pcons (pname 6) pnil))) (ycall 1 m__law_turned_rule (acons (xvar 1) anil))) snext)
  (sseq (sfor (irg1 (ycall 2 m__law_draw (acons (xvar 0) (acons (xlit (.int 3)) anil)))) (pname 4) l__law_rule_0)
  (sret (xtup (acons (xvar 5) (acons (xvar 6) anil))))))))) [some a0, some a1, some a2, none, none, none, none, none, none] S) (fun _ S1 => Q .non S1) (fnK Q E)) : wr (m__law_rule [a0, a1, a2] S) Q E := fn_wo (k := 9) (b := b__law_rule) rfl h
theorem w__law_shapes {a0 a1 a2 : Va} {S : Sto} {Q : Va → Sto → Prop} {E : Xp} (h : wo ((sseq (sset 3 (xcomp [4] (irg1 (xbin oAdd (xvar 2) (xlit (.int 1)))) (pname 4) xyes (xtup (acons (xvar 4) anil))))
  (sseq (sfor (irg1 (xbin oAdd (xvar 2) (xlit (.int 1)))) (pname 4) l__law_shapes_0)
  (sseq (sset 5 (ycall 3 m__law_some (acons (xvar 0) (acons (xvar 3) (acons (xvar 1) anil)))))
  (sret (xite (xbinB cNe (xvar 5) (xlst anil)) (xvar 5) (xlst (acons (xtup (acons (ycall 2 m__law_draw (acons (xvar 0) (acons (xbin oAdd (xvar 2) (xlit (.int 1))) anil))) anil)) anil))))))) [some a0, some a1, some a2, none, none, none, none] S) (fun _ S1 => Q .non S1) (fnK Q E)) : wr (m__law_shapes [a0, a1, a2] S) Q E := fn_wo (k := 7) (b := b__law_shapes) rfl h
theorem v__law_case {a0 : Va} {S : Sto} {Q : Va → Sto → Prop} {E : Xp} (h : wo (t__law_case_0 [some a0, none, none, none] S) (fun _ S1 => Q .non S1) (fnK Q E)) : wr (m__law_case [a0] S) Q E := fn_wo (k := 4) (b := b__law_case) rfl h
theorem w__law_after {a0 a1 : Va} {S : Sto} {Q : Va → Sto → Prop} {E : Xp} (h : wo ((sret (xcall fSrt (acons (xbin oAdd (xlst (acons (xvar 1) anil)) (xcomp [2] (isq (xbin oIx (xvar 0) (xlit (.int 1)))) (pname 2) (xbinB cEq (xbin oIx (xvar 2) (xlit (.int 0))) (xvar 1)) (xbin oIx (xvar 2) (xlit (.int 1))))) anil))) [some a0, some a1, none] S) (fun _ S1 => Q .non S1) (fnK Q E)) : wr (m__law_after [a0, a1] S) Q E := fn_wo (k := 3) (b := b__law_after) rfl h
theorem w__law_sides {a0 : Va} {S : Sto} {Q : Va → Sto → Prop} {E : Xp} (h : wo ((sret (xslice (xlst (acons (xlit (.bl false)) (acons (xlit (.bl true)) anil))) xnop (xpart (xcall fLen (acons (xvar 0) anil))))) [some a0] S) (fun _ S1 => Q .non S1) (fnK Q E)) : wr (m__law_sides [a0] S) Q E := fn_wo (k := 1) (b := b__law_sides) rfl h
theorem v__law_later {a0 a1 a2 : Va} {S : Sto} {Q : Va → Sto → Prop} {E : Xp} (h : wo (t__law_later_0 [some a0, some a1, some a2, none, none, none, none] S) (fun _ S1 => Q .non S1) (fnK Q E)) : wr (m__law_later [a0, a1, a2] S) Q E := fn_wo (k := 7) (b := b__law_later) rfl h
theorem w__law_starts {a0 : Va} {S : Sto} {Q : Va → Sto → Prop} {E : Xp} (h : wo ((sseq (sset 1 (xlst anil))
  (sseq (sfor (isq (xcall fSrt (acons (xbin oIx (xvar 0) (xlit (.int 0))) anil))) (pname 2) l__law_starts_0)
  (sret (xvar 1)))) [some a0, none, none, none] S) (fun _ S1 => Q .non S1) (fnK Q E)) : wr (m__law_starts [a0] S) Q E := fn_wo (k := 4) (b := b__law_starts) rfl h
theorem v__law_situations {a0 a1 a2 : Va} {S : Sto} {Q : Va → Sto → Prop} {E : Xp} (h : wo (t__law_situations_0 [some a0, some a1, some a2, none, none, none, none, none] S) (fun _ S1 => Q .non S1) (fnK Q E)) : wr (m__law_situations [a0, a1, a2] S) Q E := fn_wo (k := 8) (b := b__law_situations) rfl h
theorem v__law_is_done {a0 a1 : Va} {S : Sto} {Q : Va → Sto → Prop} {E : Xp} (h : wo (t__law_is_done_0 [some a0, some a1, none] S) (fun _ S1 => Q .non S1) (fnK Q E)) : wr (m__law_is_done [a0, a1] S) Q E := fn_wo (k := 3) (b := b__law_is_done) rfl h
theorem w__law_spot {a0 a1 a2 : Va} {S : Sto} {Q : Va → Sto → Prop} {E : Xp} (h : wo ((sret (xtup (acons (xcall fInt (acons (xvar 2) anil)) (acons (xbin oMod (xcall fInt (acons (xvar 1) anil)) (ycall 1 m__law_power (acons (xbin oIx (xvar 0) (xcall fInt (acons (xvar 2) anil))) anil))) anil)))) [some a0, some a1, some a2] S) (fun _ S1 => Q .non S1) (fnK Q E)) : wr (m__law_spot [a0, a1, a2] S) Q E := fn_wo (k := 3) (b := b__law_spot) rfl h
theorem v__law_is_listed {a0 a1 a2 : Va} {S : Sto} {Q : Va → Sto → Prop} {E : Xp} (h : wo (t__law_is_listed_0 [some a0, some a1, some a2, none, none, none] S) (fun _ S1 => Q .non S1) (fnK Q E)) : wr (m__law_is_listed [a0, a1, a2] S) Q E := fn_wo (k := 6) (b := b__law_is_listed) rfl h
theorem v__law_reached {a0 a1 : Va} {S : Sto} {Q : Va → Sto → Prop} {E : Xp} (h : wo (t__law_reached_0 [some a0, some a1, none, none, none] S) (fun _ S1 => Q .non S1) (fnK Q E)) : wr (m__law_reached [a0, a1] S) Q E := fn_wo (k := 5) (b := b__law_reached) rfl h
theorem v__law_least {a0 a1 : Va} {S : Sto} {Q : Va → Sto → Prop} {E : Xp} (h : wo (t__law_least_0 [some a0, some a1, none, none, none, none, none, none, none, none, none, none, none] S) (fun _ S1 => Q .non S1) (fnK Q E)) : wr (m__law_least [a0, a1] S) Q E := fn_wo (k := 13) (b := b__law_least) rfl h
theorem w__law_rule_of {a0 : Va} {S : Sto} {Q : Va → Sto → Prop} {E : Xp} (h : wo ((sret (ynew 40 3 m_Rule___init__ (acons (xbin oIx (xvar 0) (xlit (.int 0))) (acons (xbin oIx (xvar 0) (xlit (.int 1))) anil)))) [some a0] S) (fun _ S1 => Q .non S1) (fnK Q E)) : wr (m__law_rule_of [a0] S) Q E := fn_wo (k := 1) (b := b__law_rule_of) rfl h
theorem w_Rule_shapes {a0 : Va} {S : Sto} {Q : Va → Sto → Prop} {E : Xp} (h : wo ((sret (xcall fListD (acons (xfld 40 1 (xvar 0)) anil))) [some a0] S) (fun _ S1 => Q .non S1) (fnK Q E)) : wr (m_Rule_shapes [a0] S) Q E := fn_wo (k := 1) (b := b_Rule_shapes) rfl h
theorem v_check_match {a0 a1 : Va} {S : Sto} {Q : Va → Sto → Prop} {E : Xp} (h : wo (t_check_match_0 [some a0, some a1, none, none] S) (fun _ S1 => Q .non S1) (fnK Q E)) : wr (m_check_match [a0, a1] S) Q E := fn_wo (k := 4) (b := b_check_match) rfl h
theorem w_ends_of {a0 : Va} {S : Sto} {Q : Va → Sto → Prop} {E : Xp} (h : wo ((sret (xlock (xvar 0) (xdcomp [1] (ikeys (xvar 0)) (pname 1) (xnot (xtru (xbin oDix (xvar 0) (xvar 1)))) (xvar 1) (xlit (.bl true))))) [some a0, none] S) (fun _ S1 => Q .non S1) (fnK Q E)) : wr (m_ends_of [a0] S) Q E := fn_wo (k := 2) (b := b_ends_of) rfl h
theorem v__way_to {a0 a1 : Va} {S : Sto} {Q : Va → Sto → Prop} {E : Xp} (h : wo (t__way_to_0 [some a0, some a1, none] S) (fun _ S1 => Q .non S1) (fnK Q E)) : wr (m__way_to [a0, a1] S) Q E := fn_wo (k := 3) (b := b__way_to) rfl h
theorem v_first_way {a0 a1 a2 : Va} {S : Sto} {Q : Va → Sto → Prop} {E : Xp} (h : wo (t_first_way_0 [some a0, some a1, some a2, none, none, none, none, none] S) (fun _ S1 => Q .non S1) (fnK Q E)) : wr (m_first_way [a0, a1, a2] S) Q E := fn_wo (k := 8) (b := b_first_way) rfl h
theorem w_states_at_begin {a0 : Va} {S : Sto} {Q : Va → Sto → Prop} {E : Xp} (h : wo ((sret (xcomp [1] (isq (yprop 41 m_Road_begin (xvar 0))) (pname 1) xyes (xtup (acons (xvar 1) (acons (xlit (.int 0)) anil))))) [some a0, none] S) (fun _ S1 => Q .non S1) (fnK Q E)) : wr (m_states_at_begin [a0] S) Q E := fn_wo (k := 2) (b := b_states_at_begin) rfl h
theorem w_Rule_calls {a0 : Va} {S : Sto} {Q : Va → Sto → Prop} {E : Xp} (h : wo ((sret (xlock (xfld 40 1 (xvar 0)) (xdcomp [1, 2] (iitems (xfld 40 1 (xvar 0))) (ptup 2 (pcons (pname 1) (pcons (pname 2) pnil))) xyes (xvar 1) (xcall fList (acons (xvar 2) anil))))) [some a0, none, none] S) (fun _ S1 => Q .non S1) (fnK Q E)) : wr (m_Rule_calls [a0] S) Q E := fn_wo (k := 3) (b := b_Rule_calls) rfl h
theorem v_states_behind {a0 a1 : Va} {S : Sto} {Q : Va → Sto → Prop} {E : Xp} (h : wo (t_states_behind_0 [some a0, some a1, none, none, none, none, none, none, none, none] S) (fun _ S1 => Q .non S1) (fnK Q E)) : wr (m_states_behind [a0, a1] S) Q E := fn_wo (k := 10) (b := b_states_behind) rfl h
theorem v_fewest_calls {a0 a1 : Va} {S : Sto} {Q : Va → Sto → Prop} {E : Xp} (h : wo (t_fewest_calls_0 [some a0, some a1, none, none, none, none] S) (fun _ S1 => Q .non S1) (fnK Q E)) : wr (m_fewest_calls [a0, a1] S) Q E := fn_wo (k := 6) (b := b_fewest_calls) rfl h
theorem v__law_right {a0 a1 : Va} {S : Sto} {Q : Va → Sto → Prop} {E : Xp} (h : wo (t__law_right_0 [some a0, some a1, none, none, none] S) (fun _ S1 => Q .non S1) (fnK Q E)) : wr (m__law_right [a0, a1] S) Q E := fn_wo (k := 5) (b := b__law_right) rfl h
theorem v_law {a0 : Va} {S : Sto} {Q : Va → Sto → Prop} {E : Xp} (h : wo (t_law_0 [some a0, none, none, none, none, none] S) (fun _ S1 => Q .non S1) (fnK Q E)) : wr (m_law [a0] S) Q E := fn_wo (k := 6) (b := b_law) rfl h
theorem wl__law_drawn_0 {δ : Rz.Env} {S : Sto} {N : Rz.Env → Sto → Prop} {K : Ke} (h : wo ((sdsub (xvar 5) (xvar 3) (xcomp [6] (irg1 (xvar 4)) (pname 6) xyes (ycall 4 m__law_call (acons (xvar 0) (acons (xvar 3) (acons (xvar 4) (acons (xvar 6) anil))))))) δ S) N K) : wo (l__law_drawn_0 δ S) N K := h
theorem wl__law_counted_1 {δ : Rz.Env} {S : Sto} {N : Rz.Env → Sto → Prop} {K : Ke} (h : wo ((sseq (sset 6 (xite (xbinB cLt (xbin oAdd (xvar 5) (xlit (.int 1))) (ycall 1 m__law_power (acons (xcall fMax1 (acons (xvar 3) anil)) anil))) (xbin oAdd (xvar 5) (xlit (.int 1))) (xlit .non)))
  (sexp (xmetL oApp (xvar 4) (acons (xtup (acons (xcall fTup (acons (xcomp [7] (irg1 (xcall fLen (acons (xvar 3) anil))) (pname 7) (xbinB cLt (xvar 5) (ycall 1 m__law_power (acons (xbin oIx (xvar 3) (xvar 7)) anil))) (xtup (acons (xvar 7) (acons (xvar 5) anil)))) anil)) (acons (xvar 6) anil))) anil)))) δ S) N K) : wo (l__law_counted_1 δ S) N K := h
theorem wl__law_counted_0 {δ : Rz.Env} {S : Sto} {N : Rz.Env → Sto → Prop} {K : Ke} (h : wo ((sseq (sset 4 (xlst anil))
  (sseq (sfor (irg1 (ycall 1 m__law_power (acons (xvar 1) anil))) (pname 5) l__law_counted_1)
  (sdsub (xvar 2) (xvar 3) (xvar 4)))) δ S) N K) : wo (l__law_counted_0 δ S) N K := h
theorem wl__law_rule_0 {δ : Rz.Env} {S : Sto} {N : Rz.Env → Sto → Prop} {K : Ke} (h : wo ((sseq (spar [7, 8] (acons (xbin oIx (xvar 1) (ycall 2 m__law_draw (acons (xvar 0) (acons (xcall fLen (acons (xvar 1) anil)) anil)))) (acons (ycall 2 m__law_draw (acons (xvar 0) (acons (xvar 5) anil))) anil)))
  (ssub (xbin oDix (xvar 6) (xvar 7)) (xvar 8) (ycall 4 m__law_call (acons (xvar 0) (acons (xvar 7) (acons (xvar 5) (acons (xvar 8) anil))))))) δ S) N K) : wo (l__law_rule_0 δ S) N K := h
theorem wl__law_shapes_0 {δ : Rz.Env} {S : Sto} {N : Rz.Env → Sto → Prop} {K : Ke} (h : wo ((sseq (sset 3 (xbin oAdd (xvar 3) (xcomp [6] (irg1 (xbin oAdd (xvar 2) (xlit (.int 1)))) (pname 6) (xbinB cEq (xcall fAbs (acons (xbin oSub (xvar 4) (xvar 6)) anil)) (xlit (.int 1))) (xtup (acons (xvar 4) (acons (xvar 6) anil))))))
  (sset 3 (xbin oAdd (xvar 3) (xslice (xcomp [6] (irg1 (xbin oAdd (xvar 2) (xlit (.int 1)))) (pname 6) (xbinB cEq (xcall fAbs (acons (xbin oSub (xvar 4) (xvar 6)) anil)) (xlit (.int 2))) (xtup (acons (xvar 4) (acons (xvar 6) anil)))) xnop (xpart (xlit (.int 1))))))) δ S) N K) : wo (l__law_shapes_0 δ S) N K := h
theorem vl__law_later_0 {δ : Rz.Env} {S : Sto} {N : Rz.Env → Sto → Prop} {K : Ke} (h : wo ((sset 4 (xbin oAdd (xvar 4) (xcomp [6] (isq (ycall 1 m__law_sides (acons (xvar 5) anil))) (pname 6) xyes (xtup (acons (xvar 5) (acons (xvar 6) (acons (xvar 3) anil))))))) δ S) N K) : wo (l__law_later_0 δ S) N K := h
theorem wl__law_starts_0 {δ : Rz.Env} {S : Sto} {N : Rz.Env → Sto → Prop} {K : Ke} (h : wo ((sset 1 (xbin oAdd (xvar 1) (xcomp [3] (isq (ycall 1 m__law_sides (acons (xvar 2) anil))) (pname 3) xyes (xtup (acons (xvar 2) (acons (xvar 3) (acons (xlit (.int 0)) anil))))))) δ S) N K) : wo (l__law_starts_0 δ S) N K := h
theorem vl__law_situations_0 {δ : Rz.Env} {S : Sto} {N : Rz.Env → Sto → Prop} {K : Ke} (h : wo (t__law_situations_0_0 δ S) N K) : wo (l__law_situations_0 δ S) N K := h
theorem vl__law_reached_0 {δ : Rz.Env} {S : Sto} {N : Rz.Env → Sto → Prop} {K : Ke} (h : wo (t__law_reached_0_0 δ S) N K) : wo (l__law_reached_0 δ S) N K := h
theorem wl__law_least_2 {δ : Rz.Env} {S : Sto} {N : Rz.Env → Sto → Prop} {K : Ke} (h : wo ((sdsub (xvar 6) (xvar 5) (xcall fMin1 (acons (xbin oAdd (xlst (acons (xbin oDix (xvar 6) (xvar 5)) anil)) (xcomp [12] (isq (xbin oDix (xvar 2) (xvar 5))) (pname 12) xyes (xbin oAdd (xbin oDix (xvar 9) (xvar 5)) (xbin oDix (xvar 6) (xvar 12))))) anil))) δ S) N K) : wo (l__law_least_2 δ S) N K := h
theorem vl__law_least_1 {δ : Rz.Env} {S : Sto} {N : Rz.Env → Sto → Prop} {K : Ke} (h : wo ((slock (xvar 2) (sfor (ikeys (xvar 2)) (pname 5) l__law_least_2)) δ S) N K) : wo (l__law_least_1 δ S) N K := h
theorem wl__law_least_3 {δ : Rz.Env} {S : Sto} {N : Rz.Env → Sto → Prop} {K : Ke} (h : wo ((sdsub (xvar 9) (xvar 5) (xite (xbinB cEq (xvar 4) (xlit (.int 0))) (xlit (.int 1)) (xcall fInt (acons (ycall 3 m__law_is_listed (acons (xbin oIx (xvar 0) (xlit (.int 0))) (acons (xvar 5) (acons (xvar 1) anil)))) anil)))) δ S) N K) : wo (l__law_least_3 δ S) N K := h
theorem vl__law_least_0 {δ : Rz.Env} {S : Sto} {N : Rz.Env → Sto → Prop} {K : Ke} (h : wo (t__law_least_0_0 δ S) N K) : wo (l__law_least_0 δ S) N K := h
theorem vl__way_to_0 {δ : Rz.Env} {S : Sto} {N : Rz.Env → Sto → Prop} {K : Ke} (h : wo ((sexp (xmetL oApp (xvar 2) (acons (xbin oDix (xvar 1) (xbin oIx (xvar 2) (xun oNeg (xlit (.int 1))))) anil))) δ S) N K) : wo (l__way_to_0 δ S) N K := h
theorem vl_first_way_1 {δ : Rz.Env} {S : Sto} {N : Rz.Env → Sto → Prop} {K : Ke} (h : wo ((sif (xbinB cDnin (xvar 7) (xvar 3)) (sseq (sdsub (xvar 3) (xvar 7) (xvar 6))
  (sexp (xmetL oApp (xvar 4) (acons (xvar 7) anil)))) snext) δ S) N K) : wo (l_first_way_1 δ S) N K := h
theorem vl_first_way_0 {δ : Rz.Env} {S : Sto} {N : Rz.Env → Sto → Prop} {K : Ke} (h : wo (t_first_way_0_0 δ S) N K) : wo (l_first_way_0 δ S) N K := h
theorem wl_states_behind_1 {δ : Rz.Env} {S : Sto} {N : Rz.Env → Sto → Prop} {K : Ke} (h : wo ((sdsub (xvar 3) (xtup (acons (xvar 4) (acons (xvar 6) anil))) (xite (xisN (xvar 8)) (xlst anil) (xcomp [9] (isq (xvar 5)) (pname 9) xyes (xtup (acons (xvar 9) (acons (xvar 8) anil)))))) δ S) N K) : wo (l_states_behind_1 δ S) N K := h
theorem vl_states_behind_0 {δ : Rz.Env} {S : Sto} {N : Rz.Env → Sto → Prop} {K : Ke} (h : wo (t_states_behind_0_0 δ S) N K) : wo (l_states_behind_0 δ S) N K := h
theorem vl__law_right_0 {δ : Rz.Env} {S : Sto} {N : Rz.Env → Sto → Prop} {K : Ke} (h : wo (t__law_right_0_0 δ S) N K) : wo (l__law_right_0 δ S) N K := h
theorem vl_law_0 {δ : Rz.Env} {S : Sto} {N : Rz.Env → Sto → Prop} {K : Ke} (h : wo (t_law_0_0 δ S) N K) : wo (l_law_0 δ S) N K := h
end Law
namespace Law
open PySem L2 Rz
def Pen (S : Sto) (p n : Nat) : Prop := ∃ (l : Nat) (cs : List Int) (idx d : Int), l < p ∧ S[p]? = some (.lst [.loc l, .int idx, .int d]) ∧ S[l]? = some (.lst (cs.map .int)) ∧ 0 ≤ idx ∧ idx ≤ n
theorem Pen.keep {S S' : Sto} {p n : Nat} (h : Pen S p n) (k : Keep S S') : Pen S' p n := by
  obtain ⟨l, cs, idx, d, h1, h2, h3, h4⟩ := h
  exact ⟨l, cs, idx, d, h1, k _ _ h2, k _ _ h3, h4⟩
theorem pen2 {ws : List Va} {l : Nat} {i d : Int} : atI [Va.loc l, .int i, .int d] 2 = some (.int d) := rfl
theorem mulc {i j : Int} (S : Sto) (h1 : -(2 ^ 64) < j) (h2 : j < 2 ^ 64) : oMul (.int i) (.int j) S = .ok (.int (i * j)) S := oMul_r S h1 h2
theorem next_tail (p : Nat) (idx c : Int) (h0 : 0 ≤ idx) (h1 : idx < 4294967296) (S : Sto) (d3 d4 d5 : Option Va) : ∃ v : Int, (sseq (sset 3 (xbin oMod (xcall fInt (acons (xbin oAdd (xbin oAdd (xbin oMod (xcall fInt (acons (xvar 2) anil)) (xlit (.int 2147483587))) (xbin oMul (xvar 1) (xlit (.int 30103)))) (xlit (.int 79))) anil)) (xlit (.int 2147483587))))
  (sseq (sset 4 (xbin oMod (xcall fInt (acons (xbin oAdd (xbin oAdd (xbin oMul (xvar 3) (xvar 3)) (xbin oMul (xvar 1) (xlit (.int 70039)))) (xlit (.int 61))) anil)) (xlit (.int 2147483563))))
  (sseq (sset 5 (xbin oMod (xcall fInt (acons (xbin oAdd (xbin oAdd (xbin oMul (xvar 4) (xvar 4)) (xvar 3)) (xbin oMul (xbin oMul (xvar 1) (xvar 1)) (xlit (.int 37)))) anil)) (xlit (.int 2147483549))))
  (sret (xbin oAdd (xbin oMul (xbin oAdd (xbin oMul (xvar 5) (xlit (.int 2147483587))) (xvar 4)) (xlit (.int 2147483563))) (xvar 3)))))) [some (.loc p), some (.int idx), some (.int c), d3, d4, d5] S = .rt (.int v) S ∧ 0 ≤ v := by
  generalize e3 : (c % 2147483587 + idx * 30103 + 79) % 2147483587 = s
  have b3 : 0 ≤ s ∧ s < 2147483587 := by rw [← e3]; exact ⟨Int.emod_nonneg _ (by decide), Int.emod_lt_of_pos _ (by decide)⟩
  generalize e4 : (s * s + idx * 70039 + 61) % 2147483563 = m
  have b4 : 0 ≤ m ∧ m < 2147483563 := by rw [← e4]; exact ⟨Int.emod_nonneg _ (by decide), Int.emod_lt_of_pos _ (by decide)⟩
  generalize e5 : (m * m + s + idx * idx * 37) % 2147483549 = t
  have b5 : 0 ≤ t ∧ t < 2147483549 := by rw [← e5]; exact ⟨Int.emod_nonneg _ (by decide), Int.emod_lt_of_pos _ (by decide)⟩
  refine ⟨(t * 2147483587 + m) * 2147483563 + s, ?_, by omega⟩
  refine seq_at (δ1 := [some (.loc p), some (.int idx), some (.int c), some (.int s), d4, d5]) (S1 := S) ?_ (seq_at (δ1 := [some (.loc p), some (.int idx), some (.int c), some (.int s), some (.int m), d5]) (S1 := S) ?_ (seq_at (δ1 := [some (.loc p), some (.int idx), some (.int c), some (.int s), some (.int m), some (.int t)]) (S1 := S) ?_ ?_))
  · exact set_at (bin_at (call_at (one_at (bin_at (bin_at (bin_at (call_at (one_at (var_at rfl)) rfl) lit_at (mod_at (by decide))) (bin_at (var_at rfl) lit_at (mulc S (by decide) (by decide))) add_at) lit_at add_at)) rfl) lit_at ((mod_at (by decide)).trans (by rw [e3])))
  · exact set_at (bin_at (call_at (one_at (bin_at (bin_at (bin_at (var_at rfl) (var_at rfl) (mulc S (by omega) (by omega))) (bin_at (var_at rfl) lit_at (mulc S (by decide) (by decide))) add_at) lit_at add_at)) rfl) lit_at ((mod_at (by decide)).trans (by rw [e4])))
  · exact set_at (bin_at (call_at (one_at (bin_at (bin_at (bin_at (var_at rfl) (var_at rfl) (mulc S (by omega) (by omega))) (var_at rfl) add_at) (bin_at (bin_at (var_at rfl) (var_at rfl) (mulc S (by omega) (by omega))) lit_at (mulc S (by decide) (by decide))) add_at)) rfl) lit_at ((mod_at (by decide)).trans (by rw [e5])))
  · exact ret_at (bin_at (bin_at (bin_at (bin_at (var_at rfl) lit_at (mulc S (by decide) (by decide))) (var_at rfl) add_at) lit_at (mulc S (by decide) (by decide))) (var_at rfl) add_at)
end Law
namespace Law
open PySem L2 Rz
theorem lt_at {i j : Int} {S : Sto} : cLt (.int i) (.int j) S = .ok (decide (i < j)) S := rfl
theorem ge_at {i j : Int} {S : Sto} : cGe (.int i) (.int j) S = .ok (decide (j ≤ i)) S := rfl
theorem pow18 (S : Sto) : oPow (.int 10) (.int 18) S = .ok (.int 1000000000000000000) S := rfl
theorem next_ok (p n : Nat) (hn : n < 4294967296) (S : Sto) (h : Pen S p n) : ∃ (v : Int) (S' : Sto), m__law_next [.loc p] S = .ok (.int v) S' ∧ 0 ≤ v ∧ Pen S' p (n + 1) ∧ KeepB p S S' := by
  obtain ⟨l, cs, idx, d, hlp, hp, hl, h0, h1⟩ := h
  have plt : p < S.length := (List.getElem?_eq_some_iff.mp hp).1
  have llt : l < S.length := (List.getElem?_eq_some_iff.mp hl).1
  generalize eS1 : S.set p (.lst [.loc l, .int (idx + 1), .int d]) = S1
  have hp1 : S1[p]? = some (.lst [.loc l, .int (idx + 1), .int d]) := by rw [← eS1]; exact List.getElem?_set_self plt
  have hl1 : S1[l]? = some (.lst (cs.map .int)) := by rw [← eS1, List.getElem?_set_ne (Nat.ne_of_gt hlp)]; exact hl
  have k1 : KeepB p S S1 := by rw [← eS1]; exact KeepB.set _ _ _
  generalize eS2 : S1 ++ [Ob.lst []] = S2
  have k2 : Keep S1 S2 := by rw [← eS2]; exact Keep.app _ _
  have hp2 := k2 _ _ hp1
  have hl2 := k2 _ _ hl1
  have pen2' : Pen S2 p (n + 1) := ⟨l, cs, idx + 1, d, hlp, hp2, hl2, by omega, by omega⟩
  have kk : KeepB p S S2 := k1.trans k2.but
  have q1 : sset 1 (xbin oIx (xvar 0) (xlit (.int 1))) [some (.loc p), none, none, none, none, none] S = .nx [some (.loc p), some (.int idx), none, none, none, none] S :=
    set_at (bin_at (var_at rfl) lit_at (ix_at (getL_lst hp) rfl))
  have q2 : ssub (xvar 0) (xlit (.int 1)) (xbin oAdd (xvar 1) (xlit (.int 1))) [some (.loc p), some (.int idx), none, none, none, none] S = .nx [some (.loc p), some (.int idx), none, none, none, none] S1 :=
    sub_at (bin_at (var_at rfl) lit_at add_at) (var_at rfl) lit_at ((put_at (m := 1) hp rfl).trans (by rw [← eS1]; rfl))
  have q3 : sset 2 (xbin oAdd (xbin oMul (xvar 1) (xlit (.int 1051))) (xlit (.int 53))) [some (.loc p), some (.int idx), none, none, none, none] S1 = .nx [some (.loc p), some (.int idx), some (.int (idx * 1051 + 53)), none, none, none] S1 :=
    set_at (bin_at (bin_at (var_at rfl) lit_at (mulc S1 (by decide) (by decide))) lit_at add_at)
  have q4 : ∃ c : Int, sif (xbinB cNe (xbin oIx (xvar 0) (xlit (.int 0))) (xlst anil)) (sset 2 (xbin oIx (xbin oIx (xvar 0) (xlit (.int 0))) (xbin oMod (xcall fInt (acons (xvar 1) anil)) (xcall fLen (acons (xbin oIx (xvar 0) (xlit (.int 0))) anil))))) snext [some (.loc p), some (.int idx), some (.int (idx * 1051 + 53)), none, none, none] S1 = .nx [some (.loc p), some (.int idx), some (.int c), none, none, none] S2 := by
    have gl : getL S2 l = some (cs.map .int) := getL_lst hl2
    have gm : getL S2 S1.length = some (([] : List Int).map .int) := by rw [← eS2]; exact getL_new _ _
    obtain ⟨b, hb, hb2⟩ := cEq_some gl gm
    have t : xbinB cNe (xbin oIx (xvar 0) (xlit (.int 0))) (xlst anil) [some (.loc p), some (.int idx), some (.int (idx * 1051 + 53)), none, none, none] S1 = .ok (!b) S2 :=
      cmp_at (bin_at (var_at rfl) lit_at (ix_at (getL_lst hp1) rfl)) (lst_at nil_at (Nat.zero_le _)) (by rw [eS2]; unfold cNe; rw [hb]; rfl)
    cases b with
    | true => exact ⟨idx * 1051 + 53, if_f t rfl⟩
    | false =>
      have ne : cs ≠ [] := fun z => by cases hb2 z
      have pos : 0 < cs.length := List.length_pos_iff.mpr ne
      have em0 : 0 ≤ idx % ((cs.map Va.int).length : Nat) := Int.emod_nonneg _ (by rw [List.length_map]; omega)
      have em1 : idx % ((cs.map Va.int).length : Nat) < cs.length := by
        have := Int.emod_lt_of_pos idx (b := ((cs.map Va.int).length : Nat)) (by rw [List.length_map]; omega)
        rw [List.length_map] at this ⊢
        exact this
      obtain ⟨c, hc⟩ := atI_ints em0 em1
      have lp := bin_at (δ := [some (.loc p), some (.int idx), some (.int (idx * 1051 + 53)), none, none, none]) (S := S2) (f := oIx) (x := xvar 0) (y := xlit (.int 0)) (var_at rfl) lit_at (ix_at (getL_lst hp2) rfl)
      refine ⟨c, if_t t (set_at (bin_at lp (bin_at (call_at (one_at (var_at rfl)) rfl) (call_at (one_at lp) (len_at gl)) (mod_at (by rw [List.length_map]; omega))) (ix_at gl hc)))⟩
  obtain ⟨c, q4⟩ := q4
  have gl : getL S2 l = some (cs.map .int) := getL_lst hl2
  have lp := bin_at (δ := [some (.loc p), some (.int idx), some (.int c), none, none, none]) (S := S2) (f := oIx) (x := xvar 0) (y := xlit (.int 0)) (var_at rfl) lit_at (ix_at (getL_lst hp2) rfl)
  obtain ⟨v, tl1, tl2⟩ := next_tail p idx c h0 (by omega) S2 none none none
  have lt := cmp_at (δ := [some (.loc p), some (.int idx), some (.int c), none, none, none]) (S := S2) (f := cLt) (x := xvar 1) (y := xcall fLen (acons (xbin oIx (xvar 0) (xlit (.int 0))) anil)) (var_at rfl) (call_at (one_at lp) (len_at gl)) lt_at
  have ge := cmp_at (δ := [some (.loc p), some (.int idx), some (.int c), none, none, none]) (S := S2) (f := cGe) (x := xvar 2) (y := xbin oPow (xlit (.int 10)) (xlit (.int 18))) (var_at rfl) (bin_at lit_at lit_at (pow18 S2)) ge_at
  have fin : ∀ {w : Int}, b__law_next [some (.loc p), none, none, none, none, none] S = .rt (.int w) S2 → m__law_next [.loc p] S = .ok (.int w) S2 := fun {w} e => by
    show (b__law_next [some (.loc p), none, none, none, none, none] S).fin = _
    rw [e]
    rfl
  by_cases c1 : idx < ((cs.map Va.int).length : Nat)
  · rw [decide_eq_true c1] at lt
    by_cases c2 : (1000000000000000000 : Int) ≤ c
    · rw [decide_eq_true c2] at ge
      refine ⟨c, S2, fin ?_, by omega, pen2', kk⟩
      unfold b__law_next
      exact seq_at q1 (seq_at q2 (seq_at q3 (seq_at q4 (seq_rt (if_t (and_t lt ge) (ret_at (var_at rfl)))))))
    · rw [decide_eq_false c2] at ge
      refine ⟨v, S2, fin ?_, tl2, pen2', kk⟩
      unfold b__law_next
      exact seq_at q1 (seq_at q2 (seq_at q3 (seq_at q4 (seq_at (if_f (and_t lt ge) rfl) tl1))))
  · rw [decide_eq_false c1] at lt
    refine ⟨v, S2, fin ?_, tl2, pen2', kk⟩
    unfold b__law_next
    exact seq_at q1 (seq_at q2 (seq_at q3 (seq_at q4 (seq_at (if_f (and_f lt) rfl) tl1))))
theorem draw_ok (p n : Nat) (hn : n < 4294967296) (S : Sto) (h : Pen S p n) (u : Int) (hu : 0 < u) (hu2 : u < 1073741824) : ∃ (v : Int) (S' : Sto), m__law_draw [.loc p, .int u] S = .ok (.int v) S' ∧ 0 ≤ v ∧ v < u ∧ Pen S' p (n + 1) ∧ KeepB p S S' := by
  have main : ∀ (S1 : Sto), Pen S1 p (n + 1) → ∃ (v : Int) (S' : Sto), (sseq (sset 2 (xbin oMod (xcall fInt (acons (xbin oIx (xvar 0) (xlit (.int 2))) anil)) (xvar 1)))
      (sseq (ssub (xvar 0) (xlit (.int 2)) (xbin oDiv (xbin oIx (xvar 0) (xlit (.int 2))) (xvar 1))) (sret (xvar 2)))) [some (.loc p), some (.int u), none] S1 = .rt (.int v) S' ∧ 0 ≤ v ∧ v < u ∧ Pen S' p (n + 1) ∧ KeepB p S1 S' := fun S1 ⟨l, cs, idx, d, hlp, hp, hl, h0, h1⟩ => by
    have plt : p < S1.length := (List.getElem?_eq_some_iff.mp hp).1
    refine ⟨d % u, S1.set p (.lst [.loc l, .int idx, .int (d / u)]), ?_, Int.emod_nonneg _ (by omega), Int.emod_lt_of_pos _ hu, ⟨l, cs, idx, d / u, hlp, List.getElem?_set_self plt, by rw [List.getElem?_set_ne (Nat.ne_of_gt hlp)]; exact hl, h0, h1⟩, KeepB.set _ _ _⟩
    exact seq_at (set_at (bin_at (call_at (one_at (bin_at (var_at rfl) lit_at (ix_at (getL_lst hp) rfl))) rfl) (var_at rfl) (mod_at hu)))
      (seq_at (sub_at (bin_at (bin_at (var_at rfl) lit_at (ix_at (getL_lst hp) rfl)) (var_at rfl) (div_at hu hu2)) (var_at rfl) lit_at (put_at (m := 2) hp rfl)) (ret_at (var_at rfl)))
  have fin : ∀ {w : Int} {S2 : Sto}, b__law_draw [some (.loc p), some (.int u), none] S = .rt (.int w) S2 → m__law_draw [.loc p, .int u] S = .ok (.int w) S2 := fun {w S2} e => by
    show (b__law_draw [some (.loc p), some (.int u), none] S).fin = _
    rw [e]
    rfl
  obtain ⟨l, cs, idx, d, hlp, hp, hl, h0, h1⟩ := h
  have lt := cmp_at (δ := [some (.loc p), some (.int u), none]) (S := S) (f := cLt) (x := xbin oIx (xvar 0) (xlit (.int 2))) (y := xvar 1) (bin_at (var_at rfl) lit_at (ix_at (getL_lst hp) rfl)) (var_at rfl) lt_at
  by_cases c : d < u
  · rw [decide_eq_true c] at lt
    obtain ⟨w, S1, e1, e2, e3, e4⟩ := next_ok p n hn S ⟨l, cs, idx, d, hlp, hp, hl, h0, h1⟩
    obtain ⟨l', cs', idx', d', hlp', hp', hl', h0', h1'⟩ := e3
    have plt : p < S1.length := (List.getElem?_eq_some_iff.mp hp').1
    obtain ⟨v, S2, f1, f2, f3, f4, f5⟩ := main (S1.set p (.lst [.loc l', .int idx', .int w])) ⟨l', cs', idx', w, hlp', List.getElem?_set_self plt, by rw [List.getElem?_set_ne (Nat.ne_of_gt hlp')]; exact hl', h0', h1'⟩
    refine ⟨v, S2, fin ?_, f2, f3, f4, e4.trans ((KeepB.set _ _ _).trans f5)⟩
    unfold b__law_draw
    exact seq_at (if_t lt (sub_at (fn_at (one_at (var_at rfl)) rfl e1) (var_at rfl) lit_at (put_at (m := 2) hp' rfl))) f1
  · rw [decide_eq_false c] at lt
    obtain ⟨v, S2, f1, f2, f3, f4, f5⟩ := main S ⟨l, cs, idx, d, hlp, hp, hl, h0, by omega⟩
    refine ⟨v, S2, fin ?_, f2, f3, f4, f5⟩
    unfold b__law_draw
    exact seq_at (if_f lt rfl) f1
end Law
namespace Law
open PySem PySem.Spec PyProof.Rows L2 Rz PySem.W
theorem isi (i : Int) (S : Sto) : m_is_integer [.int i] S = .ok (.bl true) S := by
  simp [m_is_integer, b_is_integer]
theorem isb (i lo hi : Int) (S : Sto) : m_is_between [.int i, .int lo, .int hi] S = .ok (.bl (decide (lo ≤ i) && decide (i ≤ hi))) S := by
  simp [m_is_between, b_is_between, isi, Bool.if_false_right]
theorem isw (i : Int) (S : Sto) : m_is_width [.int i] S = .ok (.bl (decide (0 ≤ i) && decide (i ≤ 5))) S := by
  simp [m_is_width, b_is_width, isb]
theorem tup0 {a : Va} {ws : List Va} : atI (a :: ws) 0 = some a := by
  have := atI_nat (xs := a :: ws) (j := 0) (v := a) rfl
  simpa using this
theorem tup1 {a b : Va} {ws : List Va} : atI (a :: b :: ws) 1 = some b := by
  have := atI_nat (xs := a :: b :: ws) (j := 1) (v := b) rfl
  simpa using this
theorem shp1 (a : Int) (S : Sto) (h : 0 ≤ a ∧ a ≤ 5) : m_is_shape [.tup [.int a]] S = .ok (.bl true) S := by
  simp [m_is_shape, b_is_shape, tup0, isw, h, cEq_int, kind]
theorem shp2 (a b : Int) (S : Sto) (h : 0 ≤ a ∧ a ≤ 5) (h' : 0 ≤ b ∧ b ≤ 5) : m_is_shape [.tup [.int a, .int b]] S = .ok (.bl (decide (a ≠ b))) S := by
  simp [m_is_shape, b_is_shape, tup0, tup1, isw, h, h', cEq_int, kind]
inductive Sh : List Int → Prop
  | one (a : Int) (h : 0 ≤ a ∧ a ≤ 5) : Sh [a]
  | two (a b : Int) (h : 0 ≤ a ∧ a ≤ 5) (h' : 0 ≤ b ∧ b ≤ 5) (n : a ≠ b) : Sh [a, b]
abbrev tI' (ns : List Int) : Va := .tup (ns.map .int)
theorem shp {ns : List Int} (h : Sh ns) (S : Sto) : m_is_shape [tI' ns] S = .ok (.bl true) S := by
  cases h with
  | one a h => exact shp1 a S h
  | two a b h h' n =>
    have := shp2 a b S h h'
    rw [decide_eq_true n] at this
    exact this
theorem Sh.ne {ns : List Int} (h : Sh ns) : ns ≠ [] := by cases h <;> simp
def allSh : List (List Int) := [[0], [1], [2], [3], [4], [5], [0, 1], [0, 2], [0, 3], [0, 4], [0, 5], [1, 0], [1, 2], [1, 3], [1, 4], [1, 5], [2, 0], [2, 1], [2, 3], [2, 4], [2, 5], [3, 0], [3, 1], [3, 2], [3, 4], [3, 5], [4, 0], [4, 1], [4, 2], [4, 3], [4, 5], [5, 0], [5, 1], [5, 2], [5, 3], [5, 4]]
theorem six {a : Int} (h : 0 ≤ a ∧ a ≤ 5) : a = 0 ∨ a = 1 ∨ a = 2 ∨ a = 3 ∨ a = 4 ∨ a = 5 := by omega
theorem Sh.all {ns : List Int} (h : Sh ns) : ns ∈ allSh := by
  cases h with
  | one a h => rcases six h with rfl | rfl | rfl | rfl | rfl | rfl <;> decide
  | two a b h h' n => rcases six h with rfl | rfl | rfl | rfl | rfl | rfl <;> rcases six h' with rfl | rfl | rfl | rfl | rfl | rfl <;> first | decide | exact absurd rfl n
theorem purs_ints : ∀ ns : List Int, purs (ns.map Va.int) = true
  | [] => rfl
  | n :: ns => by
    have := purs_ints ns
    simp [purs, pur, this]
theorem dats_ints : ∀ ns : List Int, dats (ns.map Va.int) = ns.map PyData.int
  | [] => rfl
  | n :: ns => by
    have := dats_ints ns
    simp [dats, dat, this]
theorem pur_tI (ns : List Int) : pur (tI' ns) = true := by simp [pur, purs_ints]
theorem dat_tI (ns : List Int) : dat (tI' ns) = .tuple (ns.map .int) := by simp [dat, dats_ints]
theorem alike_ints : ∀ ns ms : List Int, alikeAll (ns.map PyData.int) (ms.map PyData.int) = true
  | [], ms => by simp [alikeAll]
  | n :: ns, [] => by simp [alikeAll]
  | n :: ns, m :: ms => by
    have := alike_ints ns ms
    simp [alikeAll, alike, this]
theorem alike_tI (a b : List Int) : alike (dat (tI' a)) (dat (tI' b)) = true := by
  rw [dat_tI, dat_tI]
  simp [alike, alike_ints]
theorem depth_tI (a : List Int) : (dat (tI' a)).depth = 1 := by
  rw [dat_tI]
  simp [PyData.depth, depth_ints]
theorem num_ints : ∀ ns : List Int, Sx.numDs (ns.map PyData.int) = true
  | [] => by simp [Sx.numDs]
  | n :: ns => by
    have := num_ints ns
    simp [Sx.numDs, Sx.numD, this]
theorem num_tI (a : List Int) : Sx.numD (dat (tI' a)) = true := by
  rw [dat_tI]
  simp [Sx.numD, num_ints]
theorem eqv_ints2 : ∀ xs ys : List Int, PyData.eqvAll (xs.map .int) (ys.map .int) = decide (xs = ys)
  | [], [] => by simp [PyData.eqvAll]
  | [], y :: ys => by simp [PyData.eqvAll]
  | x :: xs, [] => by simp [PyData.eqvAll]
  | x :: xs, y :: ys => by
    have := eqv_ints2 xs ys
    simp only [List.map_cons, PyData.eqvAll, PyData.eqv, this, List.cons.injEq, Bool.decide_and]
    rfl
theorem eqv_tI (a b : List Int) : PyData.eqv (dat (tI' a)) (dat (tI' b)) = decide (a = b) := by
  rw [dat_tI, dat_tI]
  simp only [PyData.eqv]
  exact eqv_ints2 a b
theorem shaped_tI (a : List Int) : SeqAt.shaped (dat (tI' a)) = true := by
  rw [dat_tI]
  unfold SeqAt.shaped
  rw [Bool.and_eq_true]
  refine ⟨by simp only [PyData.canLay0]; exact lay_ints a, decide_eq_true ?_⟩
  simp only [PyData.depth]
  rw [depth_ints]
  omega
theorem toD_tI (a : List Int) (n : Nat) (S : Sto) : toD S (n + 2) (tI' a) = some (dat (tI' a)) := toD_pur S _ _ (pur_tI a) (by rw [depth_tI]; omega)
theorem cEq_tI (a b : List Int) (S : Sto) : cEq (tI' a) (tI' b) S = .ok (decide (a = b)) S := by
  unfold cEq
  show deepE (tI' a) (tI' b) S = _
  unfold deepE
  rw [toD_tI a 62, toD_tI b 62]
  dsimp only
  rw [shaped_tI, shaped_tI, eqv_tI]
  rfl
theorem cNe_tI (a b : List Int) (S : Sto) : cNe (tI' a) (tI' b) S = .ok (!decide (a = b)) S := by
  unfold cNe
  rw [cEq_tI]
  rfl
theorem tI_inj {a b : List Int} (h : tI' a = tI' b) : a = b := by
  have : (PyData.eqv (dat (tI' a)) (dat (tI' b))) = true := by
    rw [h, eqv_tI]
    exact decide_eq_true rfl
  rw [eqv_tI] at this
  exact of_decide_eq_true this
structure Ch (c : List Int × List Int) : Prop where
  fst : Sh c.1
  snd : Sh c.2
  ne : c.1 ≠ c.2
abbrev cI (c : List Int × List Int) : Va := .tup [tI' c.1, tI' c.2]
theorem pur_cI (c : List Int × List Int) : pur (cI c) = true := by
  have h1 := pur_tI c.1
  have h2 := pur_tI c.2
  simp only [pur] at h1 h2
  simp [pur, purs, h1, h2]
theorem dat_cI (c : List Int × List Int) : dat (cI c) = .tuple [dat (tI' c.1), dat (tI' c.2)] := by simp [dat, dats]
theorem depth_cI (c : List Int × List Int) : (dat (cI c)).depth = 2 := by
  rw [dat_cI]
  simp only [PyData.depth, PyData.depthAll, depth_tI]
  rfl
theorem alike_cI (a b : List Int × List Int) : alike (dat (cI a)) (dat (cI b)) = true := by
  rw [dat_cI, dat_cI]
  simp only [alike, alikeAll, alike_tI]
  rfl
theorem num_cI (a : List Int × List Int) : Sx.numD (dat (cI a)) = true := by
  rw [dat_cI]
  simp only [Sx.numD, Sx.numDs, num_tI]
  rfl
theorem cI_inj {a b : List Int × List Int} (h : cI a = cI b) : a = b := by
  have h1 := Va.tup.inj h
  have h2 := List.cons.inj h1
  have h3 := List.cons.inj h2.2
  exact Prod.ext (tI_inj h2.1) (tI_inj h3.1)
theorem purs_map {α : Type} (f : α → Va) (h : ∀ a, pur (f a) = true) : ∀ L : List α, purs (L.map f) = true
  | [] => rfl
  | a :: L => by rw [List.map_cons]; simp only [purs, h a, purs_map f h L, Bool.and_self]
theorem alikeV_map {α : Type} (f : α → Va) (h : ∀ a, pur (f a) = true) (h2 : ∀ a b, alike (dat (f a)) (dat (f b)) = true) (L : List α) : alikeV (L.map f) = true :=
  alikeV_iff.mpr ⟨purs_map f h L, fun a ha b hb => by
    obtain ⟨x, _, rfl⟩ := List.mem_map.mp ha
    obtain ⟨y, _, rfl⟩ := List.mem_map.mp hb
    exact h2 x y⟩
theorem tp_tI {a : List Int} (h : a ≠ []) : isTp (tI' a) = true := by
  cases a with
  | nil => exact absurd rfl h
  | cons x r => rfl
theorem sortV_shs {L : List (List Int)} (h : ∀ s ∈ L, s ≠ []) : sortV (L.map tI') = true := by
  unfold sortV
  rw [alikeV_map tI' pur_tI alike_tI]
  have h1 : (L.map tI').all isTp = true := by
    rw [List.all_eq_true]
    intro w hw
    obtain ⟨x, hx, rfl⟩ := List.mem_map.mp hw
    exact tp_tI (h x hx)
  have h2 : ((L.map tI').all fun w => decide ((dat w).depth ≤ 100)) = true := by
    rw [List.all_eq_true]
    intro w hw
    obtain ⟨x, hx, rfl⟩ := List.mem_map.mp hw
    rw [depth_tI]
    rfl
  rw [h1, h2]
  rfl
theorem sortV_chs (C : List (List Int × List Int)) : sortV (C.map cI) = true := by
  unfold sortV
  rw [alikeV_map cI pur_cI alike_cI]
  have h1 : (C.map cI).all isTp = true := by
    rw [List.all_eq_true]
    intro w hw
    obtain ⟨x, hx, rfl⟩ := List.mem_map.mp hw
    rfl
  have h2 : ((C.map cI).all fun w => decide ((dat w).depth ≤ 100)) = true := by
    rw [List.all_eq_true]
    intro w hw
    obtain ⟨x, hx, rfl⟩ := List.mem_map.mp hw
    rw [depth_cI]
    rfl
  rw [h1, h2]
  rfl
theorem keyV_shs {L : List (List Int)} (h : ∀ s ∈ L, s ≠ []) (hn : (nub (L.map tI')).length < 64) : keyV (L.map tI') = true := by
  unfold keyV
  rw [alikeV_map tI' pur_tI alike_tI]
  have h1 : (L.map tI').all isTp = true := by
    rw [List.all_eq_true]
    intro w hw
    obtain ⟨x, hx, rfl⟩ := List.mem_map.mp hw
    exact tp_tI (h x hx)
  have h2 : ((L.map tI').all fun w => Sx.numD (dat w) && decide ((dat w).depth ≤ 8)) = true := by
    rw [List.all_eq_true]
    intro w hw
    obtain ⟨x, hx, rfl⟩ := List.mem_map.mp hw
    rw [depth_tI, num_tI]
    rfl
  rw [h1, h2, decide_eq_true hn]
  rfl
theorem keyV_chs {C : List (List Int × List Int)} (hn : (nub (C.map cI)).length < 64) : keyV (C.map cI) = true := by
  unfold keyV
  rw [alikeV_map cI pur_cI alike_cI]
  have h1 : (C.map cI).all isTp = true := by
    rw [List.all_eq_true]
    intro w hw
    obtain ⟨x, hx, rfl⟩ := List.mem_map.mp hw
    rfl
  have h2 : ((C.map cI).all fun w => Sx.numD (dat w) && decide ((dat w).depth ≤ 8)) = true := by
    rw [List.all_eq_true]
    intro w hw
    obtain ⟨x, hx, rfl⟩ := List.mem_map.mp hw
    rw [depth_cI, num_cI]
    rfl
  rw [h1, h2, decide_eq_true hn]
  rfl
theorem nd_map {α β : Type} {f : α → β} (inj : ∀ {a b}, f a = f b → a = b) : ∀ {L : List α}, L.Nodup → (L.map f).Nodup
  | [], _ => List.nodup_nil
  | a :: L, h => by
    have h' := List.nodup_cons.mp h
    rw [List.map_cons]
    refine List.nodup_cons.mpr ⟨fun m => ?_, nd_map inj h'.2⟩
    obtain ⟨b, hb, e⟩ := List.mem_map.mp m
    rw [inj e] at hb
    exact h'.1 hb
theorem nub_same {ws : List Va} (al : alikeV ws = true) (nd : ws.Nodup) : ws.Perm (nub ws) := nub_perm al (fun c h => h) nd fun w h => ⟨w, h, rfl⟩
theorem nub_shs {L : List (List Int)} (h : ∀ s ∈ L, Sh s) : (nub (L.map tI')).length ≤ 36 := by
  have := nd_len (nub (L.map tI')) (allSh.map tI') (nd_of_map (nub_nd _)) fun x hx => by
    obtain ⟨s, hs, rfl⟩ := List.mem_map.mp (nub_mem hx)
    exact List.mem_map.mpr ⟨s, (h s hs).all, rfl⟩
  exact this
end Law
namespace Law
open PySem PySem.Spec PyProof.Rows L2 Rz PySem.W
theorem Pen.mono {S : Sto} {p n m : Nat} (h : Pen S p n) (hm : n ≤ m) : Pen S p m := by
  obtain ⟨l, cs, idx, d, h1, h2, h3, h4, h5⟩ := h
  exact ⟨l, cs, idx, d, h1, h2, h3, h4, by omega⟩
theorem Pen.set {S : Sto} {p n r : Nat} {o : Ob} (h : Pen S p n) (hr : p < r) : Pen (S.set r o) p n := by
  obtain ⟨l, cs, idx, d, h1, h2, h3, h4, h5⟩ := h
  exact ⟨l, cs, idx, d, h1, by rw [List.getElem?_set_ne (by omega)]; exact h2, by rw [List.getElem?_set_ne (by omega)]; exact h3, h4, h5⟩
theorem Pen.lt {S : Sto} {p n : Nat} (h : Pen S p n) : p < S.length := by
  obtain ⟨l, cs, idx, d, h1, h2, h3, h4, h5⟩ := h
  exact (List.getElem?_eq_some_iff.mp h2).1
theorem kbSet {S S' : Sto} {p r : Nat} {o : Ob} (k : KeepB p S S') (h : S.length ≤ r) : KeepB p S (S'.set r o) := fun j u n e => by
  have := (List.getElem?_eq_some_iff.mp e).1
  rw [List.getElem?_set_ne (by omega)]
  exact k j u n e
theorem kbLen {S S' : Sto} {p : Nat} (k : KeepB p S S') (hp : p < S'.length) : S.length ≤ S'.length := by
  rcases Nat.lt_or_ge S'.length S.length with h | h
  · have e : S[S'.length]? = some S[S'.length] := List.getElem?_eq_getElem h
    have := (List.getElem?_eq_some_iff.mp (k _ _ (by omega) e)).1
    omega
  · exact h
theorem kbApp {S S' : Sto} {p : Nat} (k : KeepB p S S') (r : Sto) : KeepB p S (S' ++ r) := k.trans (Keep.app _ _).but
theorem min2_at {i j : Int} {S : Sto} : fMin2 [.int i, .int j] S = .ok (.int (if j < i then j else i)) S := rfl
theorem pop_at {S : Sto} {r k : Nat} {xs : List Va} {y : Va} {w : Int} (h : S[r]? = some (.lst xs)) (hk : ixN xs.length w = some k) (hb : big w = true) (hy : xs[k]? = some y) : oPop (.loc r) [.int w] S = .ok y (S.set r (.lst (xs.eraseIdx k))) := by
  unfold oPop
  dsimp only
  rw [h]
  dsimp only
  rw [hk]
  dsimp only
  rw [hb]
  dsimp only [cond_true]
  rw [hy]
theorem ixN_of {n k : Nat} (h : k < n) : ixN n (k : Int) = some k := by
  unfold ixN
  first | (simp; omega) | (rw [if_pos (by omega)]; simp)
theorem erase_perm {α : Type} : ∀ {l : List α} {i : Nat} (h : i < l.length), (l[i] :: l.eraseIdx i).Perm l
  | a :: l, 0, _ => List.Perm.refl _
  | a :: l, i + 1, h => by
    have hi : i < l.length := by simpa using h
    have ih := erase_perm (l := l) (i := i) hi
    exact (List.Perm.swap a l[i] (l.eraseIdx i)).trans (ih.cons a)
theorem some_ok {pool : List Va} (hz : pool.length ≤ 2000) (p n : Nat) (hn : n + 3000 < 4294967296) (S : Sto) (hp : Pen S p n) (l : Nat) (hl : S[l]? = some (.lst pool)) (most : Int) (h0 : 0 ≤ most) (hm : most ≤ 2000) :
    ∃ q S' ws rest, m__law_some [.loc p, .loc l, .int most] S = .ok (.loc q) S' ∧ S'[q]? = some (.lst ws) ∧ (ws ++ rest).Perm pool ∧ (ws.length : Int) ≤ most ∧ Pen S' p (n + 2001) ∧ KeepB p S S' ∧ S.length ≤ q := by
  have plt := hp.lt
  generalize eS1 : S ++ [Ob.lst pool] = S1
  have k1 : Keep S S1 := by rw [← eS1]; exact Keep.app _ _
  have a1 : S1[S.length]? = some (.lst pool) := by rw [← eS1]; exact get_new _ _ _
  have q1 : sset 3 (xcall fList (acons (xvar 1) anil)) [some (.loc p), some (.loc l), some (.int most), none, none] S = .nx [some (.loc p), some (.loc l), some (.int most), some (.loc S.length), none] S1 := by
    have := list_at (getL_lst hl) (by omega)
    rw [eS1] at this
    exact set_at (call_at (one_at (var_at rfl)) this)
  generalize eu : (if (pool.length : Int) < most then (pool.length : Int) else most) = u
  have u0 : 0 ≤ u ∧ u ≤ pool.length ∧ u ≤ most := by rw [← eu]; split <;> omega
  obtain ⟨v, S2, e2, v0, v1, pen2, k2⟩ := draw_ok p n (by omega) S1 (hp.keep k1) (u + 1) (by omega) (by omega)
  have a2 := k2 _ _ (by omega) a1
  have kk2 : KeepB p S S2 := k1.but.trans k2
  have l2 := kbLen kk2 pen2.lt
  have l12 := kbLen k2 pen2.lt
  have l1 : S1.length = S.length + 1 := by rw [← eS1]; simp
  have rg : irg1 (ycall 2 m__law_draw (acons (xvar 0) (acons (xbin oAdd (xcall fMin2 (acons (xvar 2) (acons (xcall fLen (acons (xvar 3) anil)) anil))) (xlit (.int 1))) anil))) [some (.loc p), some (.loc l), some (.int most), some (.loc S.length), none] S1 = .ok (v.toNat + 1, nrng 0 v.toNat) S2 := by
    refine irg1_at (fn_at (cons_at (var_at rfl) (one_at (bin_at (call_at (cons_at (var_at rfl) (one_at (call_at (one_at (var_at rfl)) (len_at (getL_lst a1))))) min2_at) lit_at add_at))) rfl ?_) ?_ rfl
    · rw [eu]
      exact e2
    · unfold big
      simp
      omega
  obtain ⟨ws, S', f1, f2, rest, g1, g2, g3, g4, g5⟩ := compG_inv (nth := nrng 0 v.toNat) (put := pname 4) (cond := xyes) (elt := xmetL oPop (xvar 3) (acons (ycall 2 m__law_draw (acons (xvar 0) (acons (xcall fLen (acons (xvar 3) anil)) anil))) anil)) (D := S2.length) (δ := [some (.loc p), some (.loc l), some (.int most), some (.loc S.length), none]) (n := v.toNat)
    (fun i acc S' => ∃ rest, S'[S.length]? = some (.lst rest) ∧ (acc ++ rest).Perm pool ∧ acc.length = i ∧ Pen S' p (n + 1 + i) ∧ KeepB p S S') v.toNat 0 [] (S2 ++ [.lst []]) (by omega) (get_new _ _ _)
    ⟨pool, (Keep.app _ _) _ _ a2, List.Perm.refl _, rfl, pen2.keep (Keep.app _ _), kbApp kk2 _⟩ (fun i acc T hi hD ⟨rest, g1, g2, g3, g4, g5⟩ => by
      have ln := g2.length_eq
      rw [List.length_append] at ln
      obtain ⟨w, T2, d1, d2, d3, d4, d5⟩ := draw_ok p (n + 1 + i) (by omega) T g4 (rest.length : Int) (by omega) (by omega)
      have r2 := d5 _ _ (by omega) g1
      have D2 := d5 _ _ (by omega) hD
      obtain ⟨kw, rfl⟩ := Int.eq_ofNat_of_zero_le d2
      have kl : kw < rest.length := by omega
      have T2l : S.length < T2.length := (List.getElem?_eq_some_iff.mp r2).1
      have bg : big (kw : Int) = true := by unfold big; simp; omega
      have po := pop_at r2 (ixN_of kl) bg (List.getElem?_eq_getElem kl)
      refine ⟨_, _, true, T, by unfold nrng; rw [if_pos hi], rfl, rfl, ?_⟩
      rw [if_pos rfl]
      refine ⟨rest[kw], T2.set S.length (.lst (rest.eraseIdx kw)), met_at (var_at rfl) g1 (one_at (fn_at (cons_at (var_at rfl) (one_at (call_at (one_at (var_at rfl)) (len_at (getL_lst g1))))) rfl d1)) po, ?_, ?_, rest.eraseIdx kw, ?_, ?_, ?_, ?_, ?_⟩
      · rw [List.getElem?_set_ne (by omega)]
        exact D2
      · rw [sizeLine_eq]
        omega
      · rw [List.getElem?_set_ne (by omega)]
        exact List.getElem?_set_self T2l
      · rw [List.append_assoc]
        exact ((erase_perm kl).append_left acc).trans g2
      · rw [List.length_append, g3]
        rfl
      · exact (Pen.set (Pen.set (d4.mono (by omega)) (by omega)) (by omega))
      · exact kbSet (kbSet (g5.trans d5) (Nat.le_refl _)) (by omega)) (fun acc T _ => by unfold nrng; rw [if_neg (by omega)])
  refine ⟨S2.length, S', ws, rest, ?_, f2, g2, by omega, g4.mono (by omega), g5, by omega⟩
  have r : b__law_some [some (.loc p), some (.loc l), some (.int most), none, none] S = .rt (.loc S2.length) S' := by
    unfold b__law_some
    refine seq_at q1 (ret_at ?_)
    rw [xcomp_at rg]
    exact f1
  show (b__law_some [some (.loc p), some (.loc l), some (.int most), none, none] S).fin = _
  rw [r]
  rfl
end Law
namespace Law
open PySem PySem.Spec PyProof.Rows L2 Rz PySem.W
theorem perm_map {α : Type} {f : α → Va} (inj : ∀ {a b}, f a = f b → a = b) {l : List Va} {L : List α} (p : l.Perm (L.map f)) : ∃ L' : List α, l = L'.map f ∧ L'.Perm L := by
  obtain ⟨es, pe, e⟩ := Sx.map_perm_ex f l L p
  exact ⟨es, e, pe⟩
theorem lay_tps : ∀ rs : List (List Int), PyData.canLayAll0 (tpd rs) = true
  | [] => by simp [PyData.canLayAll0]
  | r :: rs => by
    have ih := lay_tps rs
    have h := lay_ints r
    show PyData.canLayAll0 (.tuple (r.map .int) :: tpd rs) = true
    generalize tpd rs = q at *
    simp only [PyData.canLayAll0, PyData.canLay0, h, ih]
    rfl
theorem shaped_tps (rs : List (List Int)) : SeqAt.shaped (.list (tpd rs)) = true := by
  unfold SeqAt.shaped
  rw [Bool.and_eq_true]
  refine ⟨by simp only [PyData.canLay0]; exact lay_tps rs, decide_eq_true ?_⟩
  have := depth_tps rs
  simp only [PyData.depth]
  omega
theorem eqv_tps : ∀ rs : List (List Int), PyData.eqvAll (tpd rs) (tpd rs) = true
  | [] => by simp [PyData.eqvAll]
  | r :: rs => by
    have ih := eqv_tps rs
    have h := eqv_ints2 r r
    rw [decide_eq_true rfl] at h
    show PyData.eqvAll (.tuple (r.map .int) :: tpd rs) (.tuple (r.map .int) :: tpd rs) = true
    generalize tpd rs = q at *
    simp only [PyData.eqvAll, PyData.eqv, h, ih]
    rfl
theorem cut1 (ws : List Va) : cutA ws none (some 1) = ws.take 1 := by
  unfold cutA
  rw [show (some (1 : Int)) = some ((1 : Nat) : Int) from rfl, HT.sIx_nat, HT.sIx_none]
  cases ws with
  | nil => rfl
  | cons a r => simp
theorem slice1_at {x : XE} {δ : Rz.Env} {S S1 : Sto} {l : Nat} {ws : List Va} (h : x δ S = .ok (.loc l) S1) (h2 : getL S1 l = some ws) (hz : ws.length ≤ 16777216) : xslice x xnop (xpart (xlit (.int 1))) δ S = .ok (.loc S1.length) (S1 ++ [.lst (ws.take 1)]) := by
  unfold xslice
  rw [h]
  show oCut (.loc l) none (some 1) S1 = _
  unfold oCut
  dsimp only
  rw [h2]
  dsimp only
  rw [cut1, llst_eq]
  rw [List.length_take]
  omega
theorem cNe_emp {S : Sto} {l m : Nat} {rs : List (List Int)} (h : getL S l = some (rs.map tI')) (h2 : getL S m = some []) : cNe (.loc l) (.loc m) S = .ok (!rs.isEmpty) S := by
  have e : cEq (.loc l) (.loc m) S = .ok rs.isEmpty S := by
    unfold cEq
    show deepE (.loc l) (.loc m) S = _
    unfold deepE
    rw [toD_list h (allD_tps S 61 rs), toD_list (ds := tpd []) (n := 63) h2 (allD_tps S 61 [])]
    dsimp only
    rw [shaped_tps, shaped_tps]
    cases rs <;> simp [PyData.eqv, PyData.eqvAll]
  unfold cNe
  rw [e]
  rfl
def rg (n : Nat) : List Int := (List.range n).map fun (k : Nat) => (k : Int)
theorem rg_len (n : Nat) : (rg n).length = n := by simp [rg]
theorem rg_get (n i : Nat) : (rg n)[i]? = if i < n then some (i : Int) else none := by
  unfold rg
  rw [List.getElem?_map]
  by_cases h : i < n
  · rw [if_pos h, List.getElem?_range h]; rfl
  · rw [if_neg h, List.getElem?_eq_none (by simp; omega)]; rfl
theorem nrng_rg (n : Nat) (S : Sto) (i : Nat) : nrng 0 n S i = some (((rg n).map Va.int)[i]?) := by
  unfold nrng
  rw [List.getElem?_map, rg_get]
  by_cases h : i < n
  · rw [if_pos h, if_pos h]; simp
  · rw [if_neg h, if_neg h]; rfl
theorem comp_rg {vs : List Nat} {x : XE} {put : XP} {cond : XT} {elt : XE} {δ : Rz.Env} {S S0 : Sto} {n : Nat} (f : Int → Option Va) (hx : irg1 x δ S = .ok (n + 1, nrng 0 n) S0) (hz : n ≤ 16777216)
    (hs : ∀ i : Int, i ∈ rg n → ∃ δ1, put (.int i) (wipeE δ vs) = some δ1 ∧ ∀ S', Keep S0 S' → (∃ y, f i = some y ∧ cond δ1 S' = .ok true S' ∧ elt δ1 S' = .ok y S') ∨ (f i = none ∧ cond δ1 S' = .ok false S')) :
    xcomp vs (irg1 x) put cond elt δ S = .ok (.loc S0.length) (S0 ++ [.lst ((rg n).filterMap f)]) := by
  rw [xcomp_at hx]
  have e : (rg n).filterMap f = ((rg n).map Va.int).filterMap (fun w => match w with | .int i => f i | _ => none) := by rw [List.filterMap_map]; rfl
  rw [e]
  have := compG_pure (nth := nrng 0 n) (put := put) (cond := cond) (elt := elt) (δ := wipeE δ vs) (ws := (rg n).map Va.int) (fun w => match w with | .int i => f i | _ => none) S0 (by rw [List.length_map, rg_len]; exact hz) (fun S' i _ => nrng_rg n S' i) fun w hw => by
    obtain ⟨i, hi, rfl⟩ := List.mem_map.mp hw
    exact hs i hi
  rw [List.length_map, rg_len] at this
  exact this
def adjI (a k : Int) (j : Int) : Option (List Int) := if (if a - j < 0 then -(a - j) else a - j) = k then some [a, j] else none
def adj (g : Nat) (a : Nat) (k : Int) : List (List Int) := (rg (g + 1)).filterMap (adjI (a : Int) k)
def poolN (g : Nat) : Nat → List (List Int)
  | 0 => (rg (g + 1)).map fun a => [a]
  | i + 1 => poolN g i ++ adj g i 1 ++ (adj g i 2).take 1
theorem Sh.of {s : List Int} (h : s ∈ allSh) : Sh s := by
  unfold allSh at h
  simp only [List.mem_cons, List.not_mem_nil, or_false] at h
  repeat' (rcases h with h | h)
  all_goals first | exact .one _ (by omega) | exact .two _ _ (by omega) (by omega) (by decide)
theorem part_of {α : Type} {f : α → Va} (inj : ∀ {a b}, f a = f b → a = b) {ws rest : List Va} {P : List α} (p : (ws ++ rest).Perm (P.map f)) (nd : P.Nodup) : ∃ L : List α, ws = L.map f ∧ L.Nodup ∧ ∀ s ∈ L, s ∈ P := by
  obtain ⟨L', e, pL⟩ := perm_map inj p
  have e2 : ws = (L'.take ws.length).map f := by
    have := congrArg (List.take ws.length) e
    rw [List.take_left', ← List.map_take] at this
    · exact this
    · rfl
  exact ⟨L'.take ws.length, e2, (pL.nodup_iff.mpr nd).sublist (List.take_sublist _ _), fun s hs => pL.mem_iff.mp (List.mem_of_mem_take hs)⟩
end Law
namespace Law
open PySem PySem.Spec PyProof.Rows L2 Rz PySem.W
theorem comp_keep {nth : Nth} {put : XP} {elt : XE} {δ : Rz.Env} {ws : List Va} (f : Va → Va) (S0 : Sto) (hz : ws.length ≤ 16777216) (hn : ∀ T i, Keep S0 T → nth T i = some ws[i]?) (hs : ∀ w, w ∈ ws → ∃ δ1, put w δ = some δ1 ∧ ∀ T, Keep S0 T → ∃ T', elt δ1 T = .ok (f w) T' ∧ Keep T T') :
    ∃ T, compG nth put xyes elt S0.length δ (ws.length + 1) 0 (S0 ++ [.lst []]) = .ok (.loc S0.length) T ∧ T[S0.length]? = some (.lst (ws.map f)) ∧ Keep S0 T := by
  obtain ⟨acc, T, f1, f2, f3, f4⟩ := compG_inv (nth := nth) (put := put) (cond := xyes) (elt := elt) (D := S0.length) (δ := δ) (n := ws.length) (fun i acc T => Keep S0 T ∧ acc = (ws.take i).map f) ws.length 0 [] (S0 ++ [.lst []]) (by omega) (get_new _ _ _) ⟨Keep.app _ _, rfl⟩ (fun i acc T hi hD ⟨g1, g2⟩ => by
    have hw : ws[i]? = some ws[i] := List.getElem?_eq_getElem hi
    obtain ⟨δ1, h1, h2⟩ := hs ws[i] (List.getElem_mem hi)
    obtain ⟨T', h3, h4⟩ := h2 T g1
    refine ⟨ws[i], δ1, true, T, by rw [hn _ _ g1, hw], h1, rfl, ?_⟩
    rw [if_pos rfl]
    refine ⟨f ws[i], T', h3, h4 _ _ hD, ?_, (g1.trans h4).set (Nat.le_refl _), ?_⟩
    · rw [g2, List.length_map, List.length_take, sizeLine_eq]
      omega
    · rw [List.take_succ, hw, List.map_append, ← g2]
      rfl) (fun acc T ⟨g1, _⟩ => by rw [hn _ _ g1, List.getElem?_eq_none (Nat.le_refl _)])
  rw [List.take_length] at f4
  exact ⟨T, f1, by rw [f2, f4], f3⟩
theorem Sh.wid {s : List Int} (h : Sh s) : ∀ w ∈ s, 0 ≤ w ∧ w ≤ 5 := by
  intro w hw
  cases h with
  | one a h => rw [List.mem_singleton.mp hw]; exact h
  | two a b h h' n =>
    rcases List.mem_cons.mp hw with z | z
    · rw [z]; exact h
    · rw [List.mem_singleton.mp z]; exact h'
theorem getD_mem {s : List Int} {t : Nat} (h : t < s.length) : s.getD t 0 ∈ s := by
  rw [List.getD_eq_getElem?_getD, List.getElem?_eq_getElem h]
  exact List.getElem_mem h
def six' : List Va := [.int 1, .int 2, .int 4, .int 8, .int 16, .int 32]
theorem power_ok {w : Int} (h : 0 ≤ w ∧ w ≤ 5) (S : Sto) : ∃ T, m__law_power [.int w] S = .ok (.int (2 ^ w.toNat)) T ∧ Keep S T := by
  have l : xlst (acons (xlit (.int 1)) (acons (xlit (.int 2)) (acons (xlit (.int 4)) (acons (xlit (.int 8)) (acons (xlit (.int 16)) (acons (xlit (.int 32)) anil)))))) [some (.int w)] S = .ok (.loc S.length) (S ++ [.lst six']) :=
    lst_at (us := six') (cons_at lit_at (cons_at lit_at (cons_at lit_at (cons_at lit_at (cons_at lit_at (one_at lit_at)))))) (by show 6 ≤ _; omega)
  have e : atI six' w = some (.int (2 ^ w.toNat)) := by
    rcases six h with rfl | rfl | rfl | rfl | rfl | rfl <;> rfl
  refine ⟨S ++ [.lst six'], ?_, Keep.app _ _⟩
  show (sret (xbin oIx (xlst (acons (xlit (.int 1)) (acons (xlit (.int 2)) (acons (xlit (.int 4)) (acons (xlit (.int 8)) (acons (xlit (.int 16)) (acons (xlit (.int 32)) anil))))))) (xvar 0)) [some (.int w)] S).fin = _
  rw [ret_at (bin_at l (var_at rfl) (ix_at (getL_new _ _) e))]
  rfl
def bitsF : Nat → Nat → Nat → Nat
  | 0, _, acc => acc
  | w + 1, n, acc => bitsF w (n / 2) (acc * 2 + n % 2)
def bitsN (n w : Nat) : Nat := bitsF w n 0
theorem mod2 (a : Nat) : ((a : Int)) % 2 = ((a % 2 : Nat) : Int) := by omega
theorem div2 (a : Nat) : ((a : Int)) / 2 = ((a / 2 : Nat) : Int) := by omega
theorem law_bits_ok (n w : Nat) (hw : w ≤ 100) (S : Sto) : m__law_bits [.int (n : Int), .int (w : Int)] S = .ok (.int (bitsN n w : Int)) S := by
  obtain ⟨δ2, S2, f2, a, acc, d3, rfl, e, es⟩ := for_rng (put := pname 3) (body := l__law_bits_0) (lo := 0) (n := w) (δ := [some (.int (n : Int)), some (.int (w : Int)), some (.int 0), none]) (S := S)
    (fun j δ S' => ∃ (a acc : Nat) (d3 : Option Va), δ = [some (.int (a : Int)), some (.int (w : Int)), some (.int (acc : Int)), d3] ∧ bitsF (w - j) a acc = bitsN n w ∧ S' = S)
    ⟨n, 0, none, rfl, rfl, rfl⟩ (fun j δ S' hj ⟨a, acc, d3, ed, e, es⟩ => by
      subst ed es
      have q1 : sset 2 (xbin oAdd (xbin oMul (xvar 2) (xlit (.int 2))) (xbin oMod (xcall fInt (acons (xvar 0) anil)) (xlit (.int 2)))) [some (.int (a : Int)), some (.int (w : Int)), some (.int (acc : Int)), some (.int (0 + (j : Nat)))] S' = .nx [some (.int (a : Int)), some (.int (w : Int)), some (.int ((acc * 2 + a % 2 : Nat) : Int)), some (.int (0 + (j : Nat)))] S' := by
        have := set_at (i := 2) (δ := [some (.int (a : Int)), some (.int (w : Int)), some (.int (acc : Int)), some (.int (0 + (j : Nat)))]) (S := S') (bin_at (bin_at (var_at (i := 2) rfl) lit_at (mulc (j := 2) S' (by decide) (by decide))) (bin_at (call_at (one_at (var_at (i := 0) rfl)) (show fInt [.int (a : Int)] S' = .ok (.int (a : Int)) S' from rfl)) lit_at (mod_at (j := 2) (by decide))) add_at)
        rw [mod2, show ((acc : Int)) * 2 + ((a % 2 : Nat) : Int) = ((acc * 2 + a % 2 : Nat) : Int) by push_cast; rfl] at this
        exact this
      have q2 : sset 0 (xbin oDiv (xvar 0) (xlit (.int 2))) [some (.int (a : Int)), some (.int (w : Int)), some (.int ((acc * 2 + a % 2 : Nat) : Int)), some (.int (0 + (j : Nat)))] S' = .nx [some (.int ((a / 2 : Nat) : Int)), some (.int (w : Int)), some (.int ((acc * 2 + a % 2 : Nat) : Int)), some (.int (0 + (j : Nat)))] S' := by
        have := set_at (i := 0) (δ := [some (.int (a : Int)), some (.int (w : Int)), some (.int ((acc * 2 + a % 2 : Nat) : Int)), some (.int (0 + (j : Nat)))]) (S := S') (bin_at (var_at (i := 0) rfl) lit_at (div_at (j := 2) (by decide) (by decide)))
        rw [div2] at this
        exact this
      refine ⟨_, rfl, _, S', .inl (seq_at q1 q2), a / 2, acc * 2 + a % 2, _, rfl, ?_, rfl⟩
      rw [← e, show w - j = (w - (j + 1)) + 1 by omega]
      rfl)
  subst es
  have e2 : acc = bitsN n w := by
    rw [Nat.sub_self] at e
    exact e
  subst e2
  have r : b__law_bits [some (.int (n : Int)), some (.int (w : Int)), none, none] S2 = .rt (.int (bitsN n w : Int)) S2 := by
    unfold b__law_bits
    exact seq_at (set_at lit_at) (seq_at ((sfor_at (irg1_at (n := w) (var_at rfl) (by unfold big; simp; omega) (by omega))).trans f2) (ret_at (var_at rfl)))
  show (b__law_bits [some (.int (n : Int)), some (.int (w : Int)), none, none] S2).fin = _
  rw [r]
  rfl
theorem bko (i : Int) (S : Sto) (h : 0 ≤ i ∧ i ≤ 5) : m_buckets_of [.int i] S = .ok (.int (2 ^ i.toNat)) S := by
  have h1 : powOk 1 i = true := by unfold powOk; simp; omega
  simp [m_buckets_of, b_buckets_of, h1]
end Law
namespace Law
open PySem PySem.Spec PyProof.Rows L2 Rz PySem.W
def mnN : List Int → Nat
  | n :: ns => (ns.foldl min n).toNat
  | [] => 0
def mxN : List Int → Nat
  | n :: ns => (ns.foldl max n).toNat
  | [] => 0
theorem min1_tup {s : List Int} (h : Sh s) (S : Sto) : fMin1 [tI' s] S = .ok (.int (mnN s : Int)) S := by
  have e : intsV (s.map Va.int) = some s := intsV_map s
  unfold fMin1
  show (match intsV (s.map Va.int) with | some (n :: ns) => Rs.ok (Va.int (ns.foldl min n)) S | _ => .bad) = _
  rw [e]
  cases h with
  | one a h => show Rs.ok (Va.int a) S = .ok (.int (a.toNat : Int)) S; rw [Int.toNat_of_nonneg h.1]
  | two a b h h' n => show Rs.ok (Va.int (min a b)) S = .ok (.int ((min a b).toNat : Int)) S; rw [Int.toNat_of_nonneg (by omega)]
theorem max1_tup {s : List Int} (h : Sh s) (S : Sto) : fMax1 [tI' s] S = .ok (.int (mxN s : Int)) S := by
  have e : intsV (s.map Va.int) = some s := intsV_map s
  unfold fMax1
  show (match intsV (s.map Va.int) with | some (n :: ns) => Rs.ok (Va.int (ns.foldl max n)) S | _ => .bad) = _
  rw [e]
  cases h with
  | one a h => show Rs.ok (Va.int a) S = .ok (.int (a.toNat : Int)) S; rw [Int.toNat_of_nonneg h.1]
  | two a b h h' n => show Rs.ok (Va.int (max a b)) S = .ok (.int ((max a b).toNat : Int)) S; rw [Int.toNat_of_nonneg (by omega)]
theorem mn_le {s : List Int} (h : Sh s) : (∀ w ∈ s, mnN s ≤ w.toNat) ∧ mnN s ≤ mxN s ∧ mxN s ≤ 5 ∧ ∃ w ∈ s, w.toNat = mnN s := by
  cases h with
  | one a h => exact ⟨fun w hw => by rw [List.mem_singleton.mp hw]; exact Nat.le_refl _, Nat.le_refl _, by show a.toNat ≤ 5; omega, a, List.mem_cons_self, rfl⟩
  | two a b h h' n =>
    have e1 : mnN [a, b] = (min a b).toNat := rfl
    have e2 : mxN [a, b] = (max a b).toNat := rfl
    rw [e1, e2]
    refine ⟨fun w hw => ?_, by omega, by omega, ?_⟩
    · simp only [List.mem_cons, List.not_mem_nil, or_false] at hw
      rcases hw with rfl | rfl <;> omega
    · rcases Int.le_total a b with c | c
      · exact ⟨a, by simp, by rw [Int.min_eq_left c]⟩
      · exact ⟨b, by simp, by rw [Int.min_eq_right c]⟩
theorem tru_at {x : XE} {δ : Rz.Env} {S S1 : Sto} {b : Bool} (h : x δ S = .ok (.bl b) S1) : xtru x δ S = .ok b S1 := by
  unfold xtru
  rw [h]
  rfl
theorem pw_pos (k : Nat) : 0 < 2 ^ k := Nat.pow_pos (by decide)
theorem pw_le {k : Nat} (h : k ≤ 5) : 2 ^ k ≤ 32 := Nat.le_trans (Nat.pow_le_pow_right (by decide) h) (by decide)
theorem bits_lt : ∀ w, w < 6 → ∀ k, k < 2 ^ w → bitsN k w < 2 ^ w := by decide +kernel
end Law
namespace Law
open PySem PySem.Spec PyProof.Rows L2 Rz PySem.W
theorem powN_ok {w : Nat} (h : w ≤ 5) (S : Sto) : ∃ T, m__law_power [.int (w : Int)] S = .ok (.int ((2 ^ w : Nat) : Int)) T ∧ Keep S T := by
  obtain ⟨T, e, k⟩ := power_ok (w := (w : Int)) ⟨by omega, by omega⟩ S
  exact ⟨T, by rw [e]; simp, k⟩
theorem bigN {n : Nat} (h : n ≤ 100000) : big (n : Int) = true := by unfold big; simp; omega
theorem filter_map' {α : Type} (F : α → Va) (f : Va → Option Va) (p : α → Bool) : ∀ xs : List α, (∀ a ∈ xs, f (F a) = if p a = true then some (F a) else none) → (xs.map F).filterMap f = (xs.filter p).map F
  | [], _ => rfl
  | a :: xs, h => by
    have h1 := h a List.mem_cons_self
    have ih := filter_map' F f p xs fun b hb => h b (List.mem_cons_of_mem _ hb)
    rw [List.map_cons, List.filterMap_cons, h1, List.filter_cons]
    by_cases c : p a = true
    · rw [if_pos c, if_pos c, List.map_cons, ih]
    · rw [if_neg c, if_neg c, ih]
theorem comp_filter {α : Type} {vs : List Nat} {x : XE} {put : XP} {cond : XT} {elt : XE} {δ : Rz.Env} {S S0 : Sto} {l : Nat} {xs : List α} (F : α → Va) (inj : ∀ {a b}, F a = F b → a = b) (p : α → Bool) (hx : x δ S = .ok (.loc l) S0) (hl : getL S0 l = some (xs.map F)) (hz : xs.length ≤ 16777216)
    (hs : ∀ a, a ∈ xs → ∃ δ1, put (F a) (wipeE δ vs) = some δ1 ∧ ∀ S', Keep S0 S' → cond δ1 S' = .ok (p a) S' ∧ elt δ1 S' = .ok (F a) S') :
    xcomp vs (isq x) put cond elt δ S = .ok (.loc S0.length) (S0 ++ [.lst ((xs.filter p).map F)]) := by
  classical
  let f : Va → Option Va := fun w => if ∃ a, F a = w ∧ p a = true then some w else none
  have ff : ∀ a, f (F a) = if p a = true then some (F a) else none := fun a => by
    show (if ∃ b, F b = F a ∧ p b = true then some (F a) else none) = _
    by_cases c : p a = true
    · rw [if_pos ⟨a, rfl, c⟩, if_pos c]
    · rw [if_neg (fun ⟨b, e, q⟩ => c (by rw [← inj e]; exact q)), if_neg c]
  rw [← filter_map' F f p xs fun a _ => ff a]
  refine comp_list f hx hl (by rw [List.length_map]; exact hz) fun w hw => ?_
  obtain ⟨a, ha, rfl⟩ := List.mem_map.mp hw
  obtain ⟨δ1, h1, h2⟩ := hs a ha
  refine ⟨δ1, h1, fun S' kp => ?_⟩
  obtain ⟨h3, h4⟩ := h2 S' kp
  rw [ff]
  by_cases c : p a = true
  · rw [c] at h3
    exact .inl ⟨F a, if_pos c, h3, h4⟩
  · rw [Bool.not_eq_true _ |>.mp c] at h3
    exact .inr ⟨if_neg c, h3⟩
def plcT (s : List Int) (t : Nat) : List (List Int) := (rg (2 ^ (s.getD t 0).toNat)).map fun k => [(t : Int), k]
def plcP (s : List Int) (j : Nat) : List (List Int) := (List.range j).flatMap (plcT s)
def plc (s : List Int) : List (List Int) := plcP s s.length
theorem plcP_succ (s : List Int) (j : Nat) : plcP s (j + 1) = plcP s j ++ plcT s j := by
  unfold plcP
  rw [List.range_succ, List.flatMap_append]
  simp
theorem plcT_len {s : List Int} (h : Sh s) {t : Nat} (ht : t < s.length) : (plcT s t).length ≤ 32 := by
  unfold plcT
  rw [List.length_map, rg_len]
  have := h.wid _ (getD_mem ht)
  exact pw_le (by omega)
theorem plcP_len {s : List Int} (h : Sh s) : ∀ j, j ≤ s.length → (plcP s j).length ≤ 32 * j
  | 0, _ => Nat.le_refl _
  | j + 1, hj => by
    have ih := plcP_len h j (by omega)
    have := plcT_len h (t := j) (by omega)
    rw [plcP_succ, List.length_append]
    omega
theorem Sh.len2 {s : List Int} (h : Sh s) : 0 < s.length ∧ s.length ≤ 2 := by cases h <;> exact ⟨by simp, by simp⟩
theorem bk_turn {s : List Int} (h : Sh s) {j : Nat} (hj : j < s.length) {S : Sto} {e : Nat} (he : S[e]? = some (.lst ((plcP s j).map tI'))) :
    ∃ e' T, l__law_buckets_0 [some (tI' s), some (.loc e), some (.int (0 + (j : Nat))), none] S = .nx [some (tI' s), some (.loc e'), some (.int (0 + (j : Nat))), none] T ∧ T[e']? = some (.lst ((plcP s (j + 1)).map tI')) ∧ Keep S T := by
  have hw := h.wid _ (getD_mem hj)
  obtain ⟨T1, p1, k1⟩ := power_ok hw S
  have ei : atI (s.map Va.int) ((0 : Int) + (j : Nat)) = some (.int (s.getD j 0)) := by
    rw [Int.zero_add]
    refine atI_nat ?_
    rw [List.getElem?_map, List.getElem?_eq_getElem hj, List.getD_eq_getElem?_getD, List.getElem?_eq_getElem hj]
    rfl
  have pl : 2 ^ (s.getD j 0).toNat ≤ 32 := pw_le (by omega)
  have cc : ((2 : Int) ^ (s.getD j 0).toNat) = ((2 ^ (s.getD j 0).toNat : Nat) : Int) := by simp
  have bg : big ((2 : Int) ^ (s.getD j 0).toNat) = true := by rw [cc]; exact bigN (by omega)
  have tn : ((2 : Int) ^ (s.getD j 0).toNat).toNat = 2 ^ (s.getD j 0).toNat := by rw [cc]; exact Int.toNat_natCast _
  have cm := comp_rg (vs := [3]) (put := pname 3) (cond := xyes) (elt := xtup (acons (xvar 2) (acons (xvar 3) anil))) (δ := [some (tI' s), some (.loc e), some (.int (0 + (j : Nat))), none]) (S := S) (S0 := T1) (n := 2 ^ (s.getD j 0).toNat) (x := ycall 1 m__law_power (acons (xbin oIx (xvar 0) (xvar 2)) anil)) (fun k => some (tI' [(j : Int), k]))
    (irg1_at (fn_at (one_at (bin_at (var_at rfl) (var_at rfl) (ixT_at ei))) rfl p1) bg tn) (by omega)
    fun k hk => ⟨_, rfl, fun S' _ => .inl ⟨_, rfl, rfl, by
      have := tup_at (δ := [some (tI' s), some (.loc e), some (.int (0 + (j : Nat))), some (.int k)]) (S := S') (cons_at (var_at (i := 2) rfl) (one_at (var_at (i := 3) rfl))) (by show 2 ≤ _; omega)
      rw [Int.zero_add] at this ⊢
      exact this⟩⟩
  have em : (rg (2 ^ (s.getD j 0).toNat)).filterMap (fun k => some (tI' [(j : Int), k])) = (plcT s j).map tI' := by
    unfold plcT
    rw [List.filterMap_eq_map', List.map_map]
    rfl
  rw [em] at cm
  generalize eT2 : T1 ++ [Ob.lst ((plcT s j).map tI')] = T2 at cm
  have k2 : Keep T1 T2 := by rw [← eT2]; exact Keep.app _ _
  have a2 : T2[T1.length]? = some (.lst ((plcT s j).map tI')) := by rw [← eT2]; exact get_new _ _ _
  have l1 := plcP_len h j (by omega)
  have l2 := plcT_len h hj
  have l3 := h.len2
  have ct := cat_at ((k1.trans k2) _ _ he) a2 (by rw [List.length_append, List.length_map, List.length_map]; omega)
  rw [← List.map_append, ← plcP_succ] at ct
  exact ⟨T2.length, _, set_at (bin_at (var_at rfl) cm ct), get_new _ _ _, (k1.trans k2).trans (Keep.app _ _)⟩
theorem buckets_ok {s : List Int} (h : Sh s) (S : Sto) : ∃ q T, m__law_buckets [tI' s] S = .ok (.loc q) T ∧ T[q]? = some (.lst ((plc s).map tI')) ∧ Keep S T := by
  generalize eS1 : S ++ [Ob.lst []] = S1
  have k1 : Keep S S1 := by rw [← eS1]; exact Keep.app _ _
  have a1 : S1[S.length]? = some (.lst []) := by rw [← eS1]; exact get_new _ _ _
  have q1 : sset 1 (xlst anil) [some (tI' s), none, none, none] S = .nx [some (tI' s), some (.loc S.length), none, none] S1 := by
    have := set_at (i := 1) (lst_at (δ := [some (tI' s), none, none, none]) (S := S) nil_at (Nat.zero_le _))
    rw [eS1] at this
    exact this
  obtain ⟨δ2, T, f2, ⟨e, d2, rfl, he⟩, k2⟩ := for_rng (put := pname 2) (body := l__law_buckets_0) (lo := 0) (n := s.length) (δ := [some (tI' s), some (.loc S.length), none, none]) (S := S1)
    (fun j δ S' => (∃ e d2, δ = [some (tI' s), some (.loc e), d2, none] ∧ S'[e]? = some (.lst ((plcP s j).map tI'))) ∧ Keep S1 S')
    ⟨⟨_, _, rfl, a1⟩, Keep.refl _⟩ (fun j δ S' hj ⟨⟨e, d2, ed, he⟩, kp⟩ => by
      subst ed
      obtain ⟨e', S'', t1, t2, t3⟩ := bk_turn h hj he
      exact ⟨_, rfl, _, S'', .inl t1, ⟨_, _, rfl, t2⟩, kp.trans t3⟩)
  have ln := h.len2
  have r : b__law_buckets [some (tI' s), none, none, none] S = .rt (.loc e) T := by
    unfold b__law_buckets
    refine seq_at q1 (seq_at ((sfor_at (irg1_at (n := s.length) (call_at (one_at (var_at rfl)) lenT_at) ?_ ?_)).trans f2) (ret_at (var_at rfl)))
    · rw [List.length_map]; exact bigN (by omega)
    · rw [List.length_map]; rfl
  refine ⟨e, T, ?_, he, k1.trans k2⟩
  show (b__law_buckets [some (tI' s), none, none, none] S).fin = _
  rw [r]
  rfl
end Law
namespace Law
open PySem PySem.Spec PyProof.Rows L2 Rz PySem.W
theorem map_choose {α : Type} (F G : α → Va) (f : Va → Option Va) : ∀ xs : List α, (∀ a ∈ xs, f (F a) = some (G a)) → (xs.map F).filterMap f = xs.map G
  | [], _ => rfl
  | a :: xs, h => by
    rw [List.map_cons, List.filterMap_cons, h a List.mem_cons_self, List.map_cons, map_choose F G f xs fun b hb => h b (List.mem_cons_of_mem _ hb)]
theorem comp_map {α : Type} {vs : List Nat} {x : XE} {put : XP} {elt : XE} {δ : Rz.Env} {S S0 : Sto} {l : Nat} {xs : List α} (F G : α → Va) (inj : ∀ {a b}, F a = F b → a = b) (hx : x δ S = .ok (.loc l) S0) (hl : getL S0 l = some (xs.map F)) (hz : xs.length ≤ 16777216)
    (hs : ∀ a, a ∈ xs → ∃ δ1, put (F a) (wipeE δ vs) = some δ1 ∧ ∀ S', Keep S0 S' → elt δ1 S' = .ok (G a) S') :
    xcomp vs (isq x) put xyes elt δ S = .ok (.loc S0.length) (S0 ++ [.lst (xs.map G)]) := by
  classical
  let f : Va → Option Va := fun w => if h : ∃ a, F a = w then some (G h.choose) else none
  have ff : ∀ a, f (F a) = some (G a) := fun a => by
    have ex : ∃ b, F b = F a := ⟨a, rfl⟩
    show (if h : ∃ b, F b = F a then some (G h.choose) else none) = _
    rw [dif_pos ex, inj ex.choose_spec]
  rw [← map_choose F G f xs fun a _ => ff a]
  refine comp_list f hx hl (by rw [List.length_map]; exact hz) fun w hw => ?_
  obtain ⟨a, ha, rfl⟩ := List.mem_map.mp hw
  obtain ⟨δ1, h1, h2⟩ := hs a ha
  exact ⟨δ1, h1, fun S' kp => .inl ⟨G a, ff a, rfl, h2 S' kp⟩⟩
def topN (L : List (List Int)) : Nat := match L.map fun s => (mxN s : Int) with
  | n :: ns => (ns.foldl max n).toNat
  | [] => 0
theorem topN_spec {L : List (List Int)} (sh : ∀ s ∈ L, Sh s) (ne : L ≠ []) : (∀ s ∈ L, mxN s ≤ topN L) ∧ topN L ≤ 5 ∧ ∃ n ns, (L.map fun s => (mxN s : Int)) = n :: ns ∧ ns.foldl max n = (topN L : Int) := by
  cases L with
  | nil => exact absurd rfl ne
  | cons a r =>
    obtain ⟨h1, h2, h3⟩ := Rz.fold_max (r.map fun s => (mxN s : Int)) (mxN a : Int)
    have e : topN (a :: r) = ((r.map fun s => (mxN s : Int)).foldl max (mxN a : Int)).toNat := rfl
    have nn : 0 ≤ (r.map fun s => (mxN s : Int)).foldl max (mxN a : Int) := by omega
    have a5 := (mn_le (sh a List.mem_cons_self)).2.2.1
    refine ⟨fun s hs => ?_, ?_, (mxN a : Int), r.map (fun s => (mxN s : Int)), rfl, by rw [e]; omega⟩
    · rcases List.mem_cons.mp hs with z | z
      · rw [z, e]; omega
      · have := h2 _ (List.mem_map.mpr ⟨s, z, rfl⟩)
        rw [e]; omega
    · rcases h3 with z | z
      · rw [e, z]; omega
      · obtain ⟨s, hs, q⟩ := List.mem_map.mp z
        have s5 := (mn_le (sh s (List.mem_cons_of_mem _ hs))).2.2.1
        rw [e, ← q]; omega
theorem top_ok {L : List (List Int)} (sh : ∀ s ∈ L, Sh s) (ne : L ≠ []) (hz : L.length ≤ 1000) {v : Nat} {x : XE} {δ : Rz.Env} {S : Sto} {l : Nat} (hx : x δ S = .ok (.loc l) S) (hl : S[l]? = some (.lst (L.map tI'))) (hv : ∀ w S', xvar v ((wipeE δ [v]).set v (some w)) S' = .ok w S') :
    ∃ T, xcall fMax1 (acons (xcomp [v] (isq x) (pname v) xyes (xcall fMax1 (acons (xvar v) anil))) anil) δ S = .ok (.int (topN L : Int)) T ∧ Keep S T := by
  have cm := comp_map (vs := [v]) (put := pname v) (elt := xcall fMax1 (acons (xvar v) anil)) tI' (fun s => .int (mxN s : Int)) tI_inj hx (getL_lst hl) (by omega) fun s hs => ⟨_, rfl, fun S' kp => call_at (one_at (hv _ _)) (max1_tup (sh s hs) S')⟩
  obtain ⟨_, _, n, ns, e1, e2⟩ := topN_spec sh ne
  refine ⟨S ++ [Ob.lst (L.map fun s => .int (mxN s : Int))], call_at (one_at cm) ?_, Keep.app _ _⟩
  have e : (L.map fun s => Va.int (mxN s : Int)) = (n :: ns).map Va.int := by
    rw [← e1, List.map_map]
    rfl
  unfold fMax1
  dsimp only [itm]
  rw [getL_new]
  dsimp only
  rw [e, intsV_map]
  dsimp only
  rw [e2]
abbrev E11 (d0 d1 d2 d3 d4 d5 d6 d7 d8 d9 d10 : Option Va) : Rz.Env := [d0, d1, d2, d3, d4, d5, d6, d7, d8, d9, d10]
def spt (s : List Int) (k : Nat) : List (List Int) := (plc s).filter fun r => decide (r.getD 1 0 % ((2 ^ mnN s : Nat) : Int) = (k : Int) % ((2 ^ mnN s : Nat) : Int))
def farN (s : List Int) (top k : Nat) : Nat := (bitsN k top / 2 ^ (top - mnN s) + 1) * 2 ^ (top - mnN s)
def ltr (s : List Int) (top k : Nat) : Va := if farN s top k < 2 ^ top then .int (bitsN (farN s top k) top : Int) else .non
def callV (s : List Int) (top k : Nat) : Va := .tup [.tup ((spt s k).map tI'), ltr s top k]
theorem mem_plc {s a : List Int} (h : a ∈ plc s) : ∃ (t : Nat) (j : Nat), a = [(t : Int), (j : Int)] ∧ t < s.length ∧ j < 2 ^ (s.getD t 0).toNat := by
  unfold plc plcP at h
  obtain ⟨t, ht, h2⟩ := List.mem_flatMap.mp h
  unfold plcT rg at h2
  rw [List.map_map] at h2
  obtain ⟨j, hj, rfl⟩ := List.mem_map.mp h2
  exact ⟨t, j, rfl, List.mem_range.mp ht, List.mem_range.mp hj⟩
theorem row_turn {s : List Int} (h : Sh s) {top : Nat} (ht : top ≤ 5) (hm : mxN s ≤ top) {k : Nat} (hk : k < 2 ^ top) {S : Sto} {r : Nat} {xs : List Va} (hr : S[r]? = some (.lst xs)) (hz : xs.length ≤ 1000) (d0 d2 d7 d8 d9 : Option Va) :
    ∃ e7 e8 e9 T, l__law_turned_rule_1 (E11 d0 (some (.int (top : Int))) d2 (some (tI' s)) (some (.int (k : Int))) (some (.loc r)) (some (.int ((2 ^ mnN s : Nat) : Int))) d7 d8 d9 none) S = .nx (E11 d0 (some (.int (top : Int))) d2 (some (tI' s)) (some (.int (k : Int))) (some (.loc r)) (some (.int ((2 ^ mnN s : Nat) : Int))) e7 e8 e9 none) T ∧ T[r]? = some (.lst (xs ++ [callV s top k])) ∧ KeepB r S T := by
  obtain ⟨_, mm, m5, _⟩ := mn_le h
  have kl : k < 32 := Nat.lt_of_lt_of_le hk (pw_le ht)
  have W0 := pw_pos (mnN s)
  have M0 := pw_pos (top - mnN s)
  have Ml : 2 ^ (top - mnN s) ≤ 32 := pw_le (by omega)
  have bl : bitsN k top < 32 := Nat.lt_of_lt_of_le (bits_lt top (by omega) k hk) (pw_le ht)
  obtain ⟨T1, p1, k1⟩ := powN_ok (w := top - mnN s) (by omega) S
  rw [show (((top - mnN s : Nat)) : Int) = (top : Int) - (mnN s : Int) by omega] at p1
  generalize eW : ((2 ^ mnN s : Nat) : Int) = W at *
  have W0' : 0 < W := by omega
  have q1 : sset 7 (ycall 1 m__law_power (acons (xbin oSub (xvar 1) (xcall fMin1 (acons (xvar 3) anil))) anil)) (E11 d0 (some (.int (top : Int))) d2 (some (tI' s)) (some (.int (k : Int))) (some (.loc r)) (some (.int W)) d7 d8 d9 none) S =
      .nx (E11 d0 (some (.int (top : Int))) d2 (some (tI' s)) (some (.int (k : Int))) (some (.loc r)) (some (.int W)) (some (.int ((2 ^ (top - mnN s) : Nat) : Int))) d8 d9 none) T1 :=
    set_at (fn_at (one_at (bin_at (var_at rfl) (call_at (one_at (var_at rfl)) (min1_tup h S)) (show oSub (.int (top : Int)) (.int (mnN s : Int)) S = .ok (.int ((top : Int) - (mnN s : Int))) S from rfl))) rfl p1)
  have q2 : sset 8 (xbin oMul (xbin oAdd (xbin oDiv (ycall 2 m__law_bits (acons (xvar 4) (acons (xvar 1) anil))) (xvar 7)) (xlit (.int 1))) (xvar 7)) (E11 d0 (some (.int (top : Int))) d2 (some (tI' s)) (some (.int (k : Int))) (some (.loc r)) (some (.int W)) (some (.int ((2 ^ (top - mnN s) : Nat) : Int))) d8 d9 none) T1 =
      .nx (E11 d0 (some (.int (top : Int))) d2 (some (tI' s)) (some (.int (k : Int))) (some (.loc r)) (some (.int W)) (some (.int ((2 ^ (top - mnN s) : Nat) : Int))) (some (.int (farN s top k : Int))) d9 none) T1 := by
    have := set_at (i := 8) (δ := E11 d0 (some (.int (top : Int))) d2 (some (tI' s)) (some (.int (k : Int))) (some (.loc r)) (some (.int W)) (some (.int ((2 ^ (top - mnN s) : Nat) : Int))) d8 d9 none) (S := T1)
      (bin_at (f := oMul) (bin_at (bin_at (fn_at (n := 2) (cons_at (var_at (i := 4) rfl) (one_at (var_at (i := 1) rfl))) rfl (law_bits_ok k top (by omega) T1)) (var_at (i := 7) rfl) (div_at (j := ((2 ^ (top - mnN s) : Nat) : Int)) (by omega) (by omega))) lit_at (add_at (j := 1))) (var_at (i := 7) rfl) (mulc (j := ((2 ^ (top - mnN s) : Nat) : Int)) T1 (by omega) (by omega)))
    rw [show ((bitsN k top : Int) / ((2 ^ (top - mnN s) : Nat) : Int) + 1) * ((2 ^ (top - mnN s) : Nat) : Int) = (farN s top k : Int) by unfold farN; push_cast; rfl] at this
    exact this
  obtain ⟨q, T2, b1, b2, k2⟩ := buckets_ok h T1
  have ln := plcP_len h s.length (Nat.le_refl _)
  have ln2 := h.len2
  have ln3 : (plc s).length ≤ 64 := by show (plcP s s.length).length ≤ 64; omega
  have cm := comp_filter (vs := [10]) (put := pname 10) (cond := xbinB cEq (xbin oMod (xcall fInt (acons (xbin oIx (xvar 10) (xlit (.int 1))) anil)) (xvar 6)) (xbin oMod (xcall fInt (acons (xvar 4) anil)) (xvar 6))) (elt := xvar 10)
    (δ := E11 d0 (some (.int (top : Int))) d2 (some (tI' s)) (some (.int (k : Int))) (some (.loc r)) (some (.int W)) (some (.int ((2 ^ (top - mnN s) : Nat) : Int))) (some (.int (farN s top k : Int))) d9 none) (S := T1) (x := ycall 1 m__law_buckets (acons (xvar 3) anil))
    tI' tI_inj (fun a => decide (a.getD 1 0 % W = (k : Int) % W)) (fn_at (one_at (var_at rfl)) rfl b1) (getL_lst b2) (by omega) fun a ha => ⟨_, rfl, fun S' kp => by
      obtain ⟨t, j, rfl, _, _⟩ := mem_plc ha
      exact ⟨cmp_at (bin_at (call_at (one_at (bin_at (var_at rfl) lit_at (ixT_at tup1))) rfl) (var_at rfl) (mod_at W0')) (bin_at (call_at (one_at (var_at rfl)) rfl) (var_at rfl) (mod_at W0')) (by rw [cEq_int]; rfl), var_at rfl⟩⟩
  have es : ((plc s).filter fun a => decide (a.getD 1 0 % W = (k : Int) % W)) = spt s k := by unfold spt; rw [eW]
  rw [es] at cm
  generalize eT3 : T2 ++ [Ob.lst ((spt s k).map tI')] = T3 at cm
  have k3 : Keep T2 T3 := by rw [← eT3]; exact Keep.app _ _
  have a3 : T3[T2.length]? = some (.lst ((spt s k).map tI')) := by rw [← eT3]; exact get_new _ _ _
  have q3 := set_at (i := 9) cm
  have k13 := (k1.trans k2).trans k3
  have sl : ((spt s k).map tI').length ≤ 64 := by
    rw [List.length_map]
    unfold spt
    exact Nat.le_trans (List.length_filter_le _ _) ln3
  have ft : fTup [.loc T2.length] T3 = .ok (.tup ((spt s k).map tI')) T3 := by
    unfold fTup
    dsimp only
    rw [getL_lst a3]
    dsimp only
    unfold ltup
    rw [fits_of (by omega)]
    rfl
  obtain ⟨T4, p4, k4⟩ := powN_ok (w := top) ht T3
  have e11 : ∃ e7 e8 e9, (E11 d0 (some (.int (top : Int))) d2 (some (tI' s)) (some (.int (k : Int))) (some (.loc r)) (some (.int W)) (some (.int ((2 ^ (top - mnN s) : Nat) : Int))) (some (.int (farN s top k : Int))) d9 none).set 9 (some (.loc T2.length)) = E11 d0 (some (.int (top : Int))) d2 (some (tI' s)) (some (.int (k : Int))) (some (.loc r)) (some (.int W)) e7 e8 e9 none ∧ e8 = some (.int (farN s top k : Int)) ∧ e9 = some (.loc T2.length) := ⟨_, _, _, rfl, rfl, rfl⟩
  obtain ⟨e7, e8, e9, ee, h8, h9⟩ := e11
  rw [ee] at q3
  have it : xite (xbinB cLt (xvar 8) (ycall 1 m__law_power (acons (xvar 1) anil))) (ycall 2 m__law_bits (acons (xvar 8) (acons (xvar 1) anil))) (xlit .non) (E11 d0 (some (.int (top : Int))) d2 (some (tI' s)) (some (.int (k : Int))) (some (.loc r)) (some (.int W)) e7 e8 e9 none) T3 = .ok (ltr s top k) T4 := by
    subst h8 h9
    have t := cmp_at (f := cLt) (δ := E11 d0 (some (.int (top : Int))) d2 (some (tI' s)) (some (.int (k : Int))) (some (.loc r)) (some (.int W)) e7 (some (.int (farN s top k : Int))) (some (.loc T2.length)) none) (S := T3) (x := xvar 8) (y := ycall 1 m__law_power (acons (xvar 1) anil)) (var_at rfl) (fn_at (one_at (var_at rfl)) rfl p4) lt_at
    unfold ltr
    by_cases c : farN s top k < 2 ^ top
    · rw [if_pos c]
      rw [decide_eq_true (by omega)] at t
      exact ite_t t (fn_at (cons_at (var_at rfl) (one_at (var_at rfl))) rfl (law_bits_ok (farN s top k) top (by omega) T4))
    · rw [if_neg c]
      rw [decide_eq_false (by omega)] at t
      exact ite_f t rfl
  have r3 := k13 _ _ hr
  have r4 := k4 _ _ r3
  have q4 : sexp (xmetL oApp (xvar 5) (acons (xtup (acons (xcall fTup (acons (xvar 9) anil)) (acons (xite (xbinB cLt (xvar 8) (ycall 1 m__law_power (acons (xvar 1) anil))) (ycall 2 m__law_bits (acons (xvar 8) (acons (xvar 1) anil))) (xlit .non)) anil))) anil)) (E11 d0 (some (.int (top : Int))) d2 (some (tI' s)) (some (.int (k : Int))) (some (.loc r)) (some (.int W)) e7 e8 e9 none) T3 =
      .nx (E11 d0 (some (.int (top : Int))) d2 (some (tI' s)) (some (.int (k : Int))) (some (.loc r)) (some (.int W)) e7 e8 e9 none) (T4.set r (.lst (xs ++ [callV s top k]))) :=
    exp_at (met_at (var_at rfl) r3 (one_at (tup_at (us := [.tup ((spt s k).map tI'), ltr s top k]) (cons_at (call_at (one_at (var_at (by rw [h9]; rfl))) ft) (one_at it)) (by show 2 ≤ _; omega))) (oApp_eq r4 (by omega)))
  exact ⟨e7, e8, e9, _, seq_at q1 (seq_at q2 (seq_at q3 q4)), List.getElem?_set_self ((List.getElem?_eq_some_iff.mp r4).1), (k13.trans k4).but.trans (KeepB.set _ _ _)⟩
end Law
namespace Law
open PySem PySem.Spec PyProof.Rows L2 Rz PySem.W
def lV : Option Nat → Va
  | none => .non
  | some k => .int (k : Int)
def cV (ps : List (List Int)) (l : Option Nat) : Va := .tup [.tup (ps.map tI'), lV l]
def incr : List (List Int) → Bool
  | a :: b :: r => HT.lexLt a b && incr (b :: r)
  | _ => true
theorem incr_at : ∀ {rs : List (List Int)}, incr rs = true → ∀ i, i + 1 < rs.length → HT.lexLt (rs.getD i []) (rs.getD (i + 1) []) = true
  | [], _, i, h => absurd h (by simp)
  | [a], _, i, h => absurd h (by simp)
  | a :: b :: r, h, i, hi => by
    simp only [incr, Bool.and_eq_true] at h
    cases i with
    | zero => exact h.1
    | succ i => exact incr_at h.2 i (by simpa using hi)
structure CallOk (n : Nat) (s : List Int) (v : Va) (ps : List (List Int)) (l : Option Nat) : Prop where
  eq : v = cV ps l
  mem : ∀ a ∈ ps, a ∈ plc s
  inc : incr ps = true
  len : ps.length ≤ 64
  lt : ∀ k, l = some k → k < n
def RowOk (n : Nat) (s : List Int) (ws : List Va) : Prop := ws.length = n ∧ ∀ v ∈ ws, ∃ ps l, CallOk n s v ps l
theorem cNe_int (x y : Int) (S : Sto) : cNe (.int x) (.int y) S = .ok (!decide (x = y)) S := by
  unfold cNe
  rw [cEq_int]
  rfl
theorem orV_t {x y : XE} {δ : Rz.Env} {S S1 : Sto} (h : x δ S = .ok (.bl true) S1) : xorV x y δ S = .ok (.bl true) S1 := by
  unfold xorV
  rw [h]
  rfl
theorem orV_f {x y : XE} {δ : Rz.Env} {S S1 : Sto} {r : Rs Va} (h : x δ S = .ok (.bl false) S1) (h2 : y δ S1 = r) : xorV x y δ S = r := by
  unfold xorV
  rw [h, bind_ok]
  exact h2
theorem all_keep {v : Nat} {vs : List Nat} {xi : XI} {put : XP} {elt : XE} {δ : Rz.Env} {S S0 : Sto} {ws : List Va} {nth : Nth} (hx : xi δ S = .ok (ws.length + 1, nth) S0) (hz : ws.length ≤ 100000) (hn : ∀ T i, Keep S0 T → nth T i = some ws[i]?)
    (he : ∀ w, w ∈ ws → ∃ δ1, put w (wipeE δ vs) = some δ1 ∧ ∀ T, Keep S0 T → ∃ T', elt δ1 T = .ok (.bl true) T' ∧ Keep T T') :
    ∃ l T, xcomp vs xi put xyes elt δ S = .ok (.loc l) T ∧ T[l]? = some (.lst ((ws.map fun _ => true).map .bl)) ∧ Keep S0 T ∧ S0.length ≤ l := by
  obtain ⟨T, e1, e2, e3⟩ := comp_keep (elt := elt) (put := put) (fun _ => Va.bl true) S0 (by omega) hn he
  refine ⟨S0.length, T, ?_, by rw [e2, List.map_map]; rfl, e3, Nat.le_refl _⟩
  rw [xcomp_at hx]
  exact e1
theorem fall_at {T : Sto} {l n : Nat} {ws : List Va} (h : T[l]? = some (.lst ((ws.map fun _ => true).map .bl))) : fAll [.loc l] T = .ok (.bl true) T := by
  unfold fAll
  dsimp only
  rw [getL_lst h]
  dsimp only
  rw [bools_map]
  dsimp only
  have : (ws.map fun _ => true).all id = true := by
    rw [List.all_eq_true]
    intro b hb
    obtain ⟨_, _, rfl⟩ := List.mem_map.mp hb
    rfl
  rw [this]
theorem chs_ok {s : List Int} (h : Sh s) (S : Sto) : m__check_shape [tI' s] S = .ok .non S := by
  have e := shp h S
  simp [m__check_shape, b__check_shape, e]
abbrev E4 (d0 d1 d2 d3 : Option Va) : Rz.Env := [d0, d1, d2, d3]
theorem is_place_ok {s a : List Int} (h : Sh s) (ha : a ∈ plc s) (S : Sto) : m_is_place [tI' s, tI' a] S = .ok (.bl true) S := by
  obtain ⟨t, j, rfl, ht, hj⟩ := mem_plc ha
  have l2 := Sh.len2 h
  have wt := Sh.wid h _ (getD_mem ht)
  have b1 := bko (s.getD t 0) S wt
  have hj' : (j : Int) < 2 ^ (s.getD t 0).toNat := by exact_mod_cast hj
  have i1 := isb (t : Int) 0 ((s.length : Int) - 1) S
  have i2 := isb (j : Int) 0 ((2 : Int) ^ (s.getD t 0).toNat - 1) S
  rw [decide_eq_true (by omega), decide_eq_true (by omega)] at i1
  rw [decide_eq_true (by omega), decide_eq_true (by omega)] at i2
  have st : (s.map Va.int)[t]? = some (.int (s.getD t 0)) := by
    rw [List.getElem?_map, List.getElem?_eq_getElem ht, List.getD_eq_getElem?_getD, List.getElem?_eq_getElem ht]
    rfl
  have ln : ∀ (δ : Rz.Env), δ[0]? = some (some (tI' s)) → xcall fLen (acons (xvar 0) anil) δ S = .ok (.int (s.length : Int)) S := fun δ hδ => by
    have := call_at (f := fLen) (δ := δ) (S := S) (one_at (var_at hδ)) (lenT_at (ws := s.map Va.int))
    rw [List.length_map] at this
    exact this
  have r : b_is_place (E4 (some (tI' s)) (some (tI' [(t : Int), (j : Int)])) none none) S = .rt (.bl true) S := by
    unfold b_is_place
    refine seq_at (exp_at (fn_at (one_at (var_at rfl)) rfl (chs_ok h S))) (seq_at (if_f (or_f (not_at (tru_at (call_at (cons_at (var_at rfl) (one_at lit_at)) isiT))) (cmp_at (call_at (one_at (var_at rfl)) lenT_at) lit_at (by rw [cNe_int]; rfl))) rfl) (seq_at (asg_at (δ1 := E4 (some (tI' s)) (some (tI' [(t : Int), (j : Int)])) (some (.int (t : Int))) (some (.int (j : Int)))) (var_at rfl) rfl) (ret_at (andV_t (S1 := S) ?_ ?_))))
    · exact fn_at (cons_at (var_at rfl) (cons_at lit_at (one_at (bin_at (ln _ rfl) lit_at rfl)))) rfl i1
    · exact fn_at (cons_at (var_at rfl) (cons_at lit_at (one_at (bin_at (fn_at (one_at (bin_at (var_at rfl) (var_at rfl) (ixT_at (atI_nat st)))) rfl b1) lit_at rfl)))) rfl i2
  show (b_is_place (E4 (some (tI' s)) (some (tI' [(t : Int), (j : Int)])) none none) S).fin = _
  rw [r]
  rfl
theorem places_ok {s : List Int} (h : Sh s) {rs : List (List Int)} (mem : ∀ a ∈ rs, a ∈ plc s) (ic : incr rs = true) (sl : rs.length ≤ 64) (S : Sto) : ∃ T, m__are_places [tI' s, .tup (rs.map tI')] S = .ok (.bl true) T ∧ Keep S T := by
  generalize eδ : E4 (some (tI' s)) (some (.tup (rs.map tI'))) none none = δ
  have v0 : δ[0]? = some (some (tI' s)) := by rw [← eδ]; rfl
  have v1 : δ[1]? = some (some (.tup (rs.map tI'))) := by rw [← eδ]; rfl
  obtain ⟨l, T1, e1, e2, e3, _⟩ := all_keep (v := 3) (vs := [3]) (put := pname 3) (elt := ycall 2 m_is_place (acons (xvar 0) (acons (xvar 3) anil))) (δ := δ) (S := S) (S0 := S) (ws := rs.map tI') (isq_tup (var_at v1)) (by rw [List.length_map]; omega) (fun T i _ => rfl) (fun w hw => by
    obtain ⟨a, ha, rfl⟩ := List.mem_map.mp hw
    refine ⟨_, rfl, fun T k => ⟨T, ?_, Keep.refl _⟩⟩
    rw [← eδ]
    exact fn_at (cons_at (var_at rfl) (one_at (var_at rfl))) rfl (is_place_ok h (mem a ha) T))
  have q1 : sif (xor (xnot (xtru (xcall fIsi (acons (xvar 1) (acons (xlit (.ty 4)) anil))))) (xnot (xtru (xcall fAll (acons (xcomp [3] (isq (xvar 1)) (pname 3) xyes (ycall 2 m_is_place (acons (xvar 0) (acons (xvar 3) anil)))) anil))))) (sret (xlit (.bl false))) snext δ S = .nx δ T1 :=
    if_f (or_f (not_at (tru_at (call_at (cons_at (var_at v1) (one_at lit_at)) isiT))) (not_at (tru_at (call_at (one_at e1) (fall_at (n := 0) e2))))) rfl
  have rg : irg2 (xlit (.int 1)) (xcall fLen (acons (xvar 1) anil)) δ T1 = .ok (((List.range (rs.length - 1)).map fun (i : Nat) => Va.int (1 + (i : Int))).length + 1, nrng 1 (rs.length - 1)) T1 := by
    have f := call_at (f := fLen) (δ := δ) (S := T1) (one_at (var_at v1)) (lenT_at (ws := rs.map tI'))
    rw [List.length_map] at f
    unfold irg2
    show (Rs.ok (Va.int 1) T1).bind _ = _
    rw [bind_ok, f, bind_ok]
    dsimp only
    rw [show big 1 = true from rfl, bigN (by omega)]
    have e : ((rs.length : Int) - 1).toNat = rs.length - 1 := by omega
    rw [e, List.length_map, List.length_range]
    rfl
  obtain ⟨l', T2, f1, f2, f3, _⟩ := all_keep (v := 2) (vs := [2]) (put := pname 2) (elt := xboo (xbinB cLtT (xbin oIx (xvar 1) (xbin oSub (xvar 2) (xlit (.int 1)))) (xbin oIx (xvar 1) (xvar 2)))) (δ := δ) (S := T1) (S0 := T1) rg (by rw [List.length_map, List.length_range]; omega) (fun T i _ => by
    unfold nrng
    by_cases c : i < rs.length - 1
    · rw [if_pos c, List.getElem?_map, List.getElem?_range c]
      rfl
    · rw [if_neg c, List.getElem?_eq_none (by rw [List.length_map, List.length_range]; omega)]) (fun w hw => by
    obtain ⟨i, hi, rfl⟩ := List.mem_map.mp hw
    have il := List.mem_range.mp hi
    refine ⟨_, rfl, fun T k => ⟨T, ?_, Keep.refl _⟩⟩
    have g : ∀ j, j < rs.length → (rs.map tI')[j]? = some (tI' (rs.getD j [])) := fun j hj => by
      rw [List.getElem?_map, List.getElem?_eq_getElem hj, List.getD_eq_getElem?_getD, List.getElem?_eq_getElem hj]
      rfl
    rw [← eδ]
    refine boo_at (cmp_at (bin_at (var_at rfl) (bin_at (var_at rfl) lit_at (show oSub (.int (1 + (i : Int))) (.int 1) T = .ok (.int (i : Int)) T from by
      show Rs.ok (Va.int (1 + (i : Int) - 1)) T = _
      congr 2
      omega)) (ixT_at (atI_nat (g i (by omega))))) (bin_at (var_at rfl) (var_at rfl) (ixT_at (w := tI' (rs.getD (i + 1) [])) ?_)) ?_)
    · have := atI_nat (g (i + 1) (by omega))
      rw [show (1 : Int) + (i : Int) = ((i + 1 : Nat) : Int) by omega]
      exact this
    · unfold cLtT
      dsimp only
      rw [intsV_map, intsV_map]
      dsimp only
      rw [incr_at ic i (by omega)])
  refine ⟨T2, ?_, e3.trans f3⟩
  have r : b__are_places δ S = .rt (.bl true) T2 := by
    unfold b__are_places
    exact seq_at q1 (ret_at (call_at (one_at f1) (fall_at (n := 0) f2)))
  show (b__are_places (E4 (some (tI' s)) (some (.tup (rs.map tI'))) none none) S).fin = _
  rw [eδ, r]
  rfl
abbrev E5 (d0 d1 d2 d3 d4 : Option Va) : Rz.Env := [d0, d1, d2, d3, d4]
theorem is_call_ok {s : List Int} (h : Sh s) {n : Nat} {v : Va} {ps : List (List Int)} {l : Option Nat} (c : CallOk n s v ps l) (S : Sto) : ∃ T, m_is_call [.int (n : Int), tI' s, v] S = .ok (.bl true) T ∧ Keep S T := by
  obtain ⟨T, p1, p2⟩ := places_ok h c.mem c.inc c.len S
  refine ⟨T, ?_, p2⟩
  have ev := c.eq
  subst ev
  generalize eδ : E5 (some (.int (n : Int))) (some (tI' s)) (some (cV ps l)) (some (.tup (ps.map tI'))) (some (lV l)) = δ
  have v0 : δ[0]? = some (some (.int (n : Int))) := by rw [← eδ]; rfl
  have v1 : δ[1]? = some (some (tI' s)) := by rw [← eδ]; rfl
  have v3 : δ[3]? = some (some (.tup (ps.map tI'))) := by rw [← eδ]; rfl
  have v4 : δ[4]? = some (some (lV l)) := by rw [← eδ]; rfl
  have fin : xorV (xboo (xisN (xvar 4))) (ycall 3 m_is_between (acons (xvar 4) (acons (xlit (.int 0)) (acons (xbin oSub (xvar 0) (xlit (.int 1))) anil)))) δ T = .ok (.bl true) T := by
    cases l with
    | some k =>
      have kl := c.lt k rfl
      have i1 := isb (k : Int) 0 ((n : Int) - 1) T
      rw [decide_eq_true (by omega), decide_eq_true (by omega)] at i1
      refine orV_f (boo_at (b := false) ?_) (fn_at (cons_at (var_at v4) (cons_at lit_at (one_at (bin_at (var_at v0) lit_at rfl)))) rfl i1)
      unfold xisN
      rw [var_at v4]
      rfl
    | none =>
      refine orV_t (boo_at (b := true) ?_)
      unfold xisN
      rw [var_at v4]
      rfl
  have r : b_is_call (E5 (some (.int (n : Int))) (some (tI' s)) (some (cV ps l)) none none) S = .rt (.bl true) T := by
    unfold b_is_call
    refine seq_at (if_f (or_f (not_at (tru_at (call_at (cons_at (var_at rfl) (one_at lit_at)) isiT))) (cmp_at (call_at (one_at (var_at rfl)) lenT_at) lit_at (by rw [cNe_int]; rfl))) rfl) (seq_at (asg_at (δ1 := E5 (some (.int (n : Int))) (some (tI' s)) (some (cV ps l)) (some (.tup (ps.map tI'))) (some (lV l))) (var_at rfl) rfl) ?_)
    rw [eδ]
    exact ret_at (andV_t (fn_at (cons_at (var_at v1) (one_at (var_at v3))) rfl p1) fin)
  show (b_is_call (E5 (some (.int (n : Int))) (some (tI' s)) (some (cV ps l)) none none) S).fin = _
  rw [r]
  rfl
theorem are_calls_ok {s : List Int} (h : Sh s) {n : Nat} (hn : n ≤ 64) {ws : List Va} (ro : RowOk n s ws) {S : Sto} {r : Nat} (hr : S[r]? = some (.lst ws)) : ∃ T, m__are_calls [.int (n : Int), tI' s, .loc r] S = .ok (.bl true) T ∧ Keep S T := by
  generalize eδ : E4 (some (.int (n : Int))) (some (tI' s)) (some (.loc r)) none = δ
  have v0 : δ[0]? = some (some (.int (n : Int))) := by rw [← eδ]; rfl
  have v2 : δ[2]? = some (some (.loc r)) := by rw [← eδ]; rfl
  obtain ⟨l, T1, e1, e2, e3, _⟩ := all_keep (v := 3) (vs := [3]) (put := pname 3) (elt := ycall 3 m_is_call (acons (xvar 0) (acons (xvar 1) (acons (xvar 3) anil)))) (δ := δ) (S := S) (S0 := S) (ws := ws) (isq_loc (var_at v2) (getL_lst hr)) (by rw [ro.1]; omega) (fun T i k => nloc_at (getL_lst (k _ _ hr)) i) (fun w hw => by
    obtain ⟨ps, l, hc⟩ := ro.2 w hw
    refine ⟨_, rfl, fun T kp => ?_⟩
    obtain ⟨T', q1, q2⟩ := is_call_ok h hc T
    refine ⟨T', ?_, q2⟩
    rw [← eδ]
    exact fn_at (cons_at (var_at rfl) (cons_at (var_at rfl) (one_at (var_at rfl)))) rfl q1)
  refine ⟨T1, ?_, e3⟩
  have ln : xbinB cNe (xcall fLen (acons (xvar 2) anil)) (xvar 0) δ S = .ok false S := cmp_at (call_at (one_at (var_at v2)) (len_at (getL_lst hr))) (var_at v0) (by rw [cNe_int, ro.1]; simp)
  have r0 : b__are_calls δ S = .rt (.bl true) T1 := by
    unfold b__are_calls
    exact seq_at (if_f (or_f (not_at (tru_at (call_at (cons_at (var_at v2) (one_at lit_at)) (isiL hr)))) ln) rfl) (ret_at (call_at (one_at e1) (fall_at (n := 0) e2)))
  show (b__are_calls (E4 (some (.int (n : Int))) (some (tI' s)) (some (.loc r)) none) S).fin = _
  rw [eδ, r0]
  rfl
end Law
namespace Law
open PySem PySem.Spec PyProof.Rows L2 Rz PySem.W
def keyS (s : List Int) : NestedKey := .tup (s.map .num)
theorem nks_ints : ∀ s : List Int, nkV.nksV (s.map Va.int) = some (s.map NestedKey.num)
  | [] => rfl
  | a :: s => by
    have ih := nks_ints s
    show (match nkV (.int a), nkV.nksV (s.map Va.int) with | some k, some ks => some (k :: ks) | _, _ => none) = _
    rw [ih]
    rfl
theorem nk_tI (s : List Int) : nkV (tI' s) = some (keyS s) := by
  show (nkV.nksV (s.map Va.int)).map NestedKey.tup = _
  rw [nks_ints]
  rfl
theorem keyS_depth {s : List Int} (h : Sh s) : (keyS s).depth ≤ 8 := by
  cases h with
  | one a h => simp [keyS, NestedKey.depth, NestedKey.depthAll]
  | two a b h h' n => simp [keyS, NestedKey.depth, NestedKey.depthAll]
theorem keyT_sh {s : List Int} (h : Sh s) : keyT (tI' s) = some (keyS s) := by
  show (match nkV (tI' s) with | some k => if k.depth ≤ 8 then some k else none | none => none) = _
  rw [nk_tI]
  exact if_pos (keyS_depth h)
theorem keyS_inj {a b : List Int} (h : keyS a = keyS b) : a = b := by
  have h1 := NestedKey.tup.inj h
  exact List.map_inj_right (f := NestedKey.num) (fun x y e => NestedKey.num.inj e) |>.mp h1
theorem valD_app (kvs : List (Va × Va)) (s u : List Int) (w : Va) : valD (kvs ++ [(tI' s, w)]) (keyS u) = (valD kvs (keyS u)).or (if s = u then some w else none) := by
  unfold valD
  rw [List.find?_append]
  have e : [(tI' s, w)].find? (fun p => decide (nkV p.1 = some (keyS u))) = if s = u then some (tI' s, w) else none := by
    rw [List.find?_cons]
    dsimp only
    rw [nk_tI]
    by_cases c : s = u
    · rw [decide_eq_true (by rw [c]), if_pos c]
    · rw [decide_eq_false (fun z => c (keyS_inj (Option.some.inj z))), if_neg c]; rfl
  rw [e]
  cases kvs.find? (fun p => decide (nkV p.1 = some (keyS u))) with
  | none => by_cases c : s = u <;> simp [c]
  | some p => rfl
structure DInv (S : Sto) (d : Nat) (P : List (List Int)) (R : List Int → List Va) : Prop where
  ex : ∃ kvs, S[d]? = some (.dct kvs) ∧ kvs.map Prod.fst = P.map tI' ∧ (∀ s ∈ P, ∃ r, r ≠ d ∧ valD kvs (keyS s) = some (.loc r) ∧ S[r]? = some (.lst (R s))) ∧ ∀ s, s ∉ P → valD kvs (keyS s) = none
theorem DInv.keep {S T : Sto} {d : Nat} {P : List (List Int)} {R : List Int → List Va} (h : DInv S d P R) (k : Keep S T) : DInv T d P R := by
  obtain ⟨kvs, h1, h2, h3, h4⟩ := h.ex
  exact ⟨kvs, k _ _ h1, h2, fun s hs => let ⟨r, r1, r2, r3⟩ := h3 s hs; ⟨r, r1, r2, k _ _ r3⟩, h4⟩
theorem keep_lock {S T : Sto} {d : Nat} {kvs : List (Va × Va)} (hd : S[d]? = some (.dct kvs)) (k : Keep (S.set d (.frd kvs)) T) : T[d]? = some (.frd kvs) ∧ Keep S (T.set d (.dct kvs)) := by
  have dl := (List.getElem?_eq_some_iff.mp hd).1
  have h1 := k d _ (List.getElem?_set_self dl)
  refine ⟨h1, fun j o e => ?_⟩
  by_cases c : j = d
  · subst c
    rw [hd] at e
    cases e
    exact List.getElem?_set_self (List.getElem?_eq_some_iff.mp h1).1
  · rw [List.getElem?_set_ne (Ne.symm c)]
    refine k _ _ ?_
    rw [List.getElem?_set_ne (Ne.symm c)]
    exact e
theorem dct_get {S : Sto} {d : Nat} {kvs : List (Va × Va)} (h : S[d]? = some (.dct kvs)) : dctAt (.loc d) S = some kvs := by
  show (match S[d]? with | some (.dct kvs) => some kvs | some (.frd kvs) => some kvs | _ => none) = _
  rw [h]
theorem pair_of {S : Sto} {d : Nat} {P : List (List Int)} {R : List Int → List Va} {kvs : List (Va × Va)} (nd : P.Nodup) (h2 : kvs.map Prod.fst = P.map tI') (h3 : ∀ s ∈ P, ∃ r, r ≠ d ∧ valD kvs (keyS s) = some (.loc r) ∧ S[r]? = some (.lst (R s))) {p : Va × Va} (hp : p ∈ kvs) : ∃ s r, s ∈ P ∧ p = (tI' s, .loc r) ∧ r ≠ d ∧ S[r]? = some (.lst (R s)) ∧ valD kvs (keyS s) = some (.loc r) := by
  have m : p.1 ∈ P.map tI' := by rw [← h2]; exact List.mem_map.mpr ⟨p, hp, rfl⟩
  obtain ⟨s, hs, e⟩ := List.mem_map.mp m
  obtain ⟨r, r1, r2, r3⟩ := h3 s hs
  refine ⟨s, r, hs, ?_, r1, r3, r2⟩
  have ndk : (kvs.map Prod.fst).Nodup := by rw [h2]; exact nd_map tI_inj nd
  have hk : ∀ q ∈ kvs, ∃ u, q.1 = tI' u := fun q hq => by
    have : q.1 ∈ P.map tI' := by rw [← h2]; exact List.mem_map.mpr ⟨q, hq, rfl⟩
    obtain ⟨u, _, eu⟩ := List.mem_map.mp this
    exact ⟨u, eu.symm⟩
  -- the first pair with this key is p
  have fp : kvs.find? (fun q => decide (nkV q.1 = some (keyS s))) = some p := by
    clear h2 h3 r2 m
    induction kvs with
    | nil => nomatch hp
    | cons q kvs ih =>
      rw [List.map_cons, List.nodup_cons] at ndk
      rw [List.find?_cons]
      rcases List.mem_cons.mp hp with z | z
      · rw [← z, ← e, nk_tI, decide_eq_true rfl]
      · have ne : ¬ nkV q.1 = some (keyS s) := fun y => by
          obtain ⟨u, eu⟩ := hk q List.mem_cons_self
          rw [eu, nk_tI] at y
          have us := keyS_inj (Option.some.inj y)
          refine ndk.1 (List.mem_map.mpr ⟨p, z, ?_⟩)
          rw [eu, us, e]
        rw [decide_eq_false ne]
        exact ih z ndk.2 fun q' hq' => hk q' (List.mem_cons_of_mem _ hq')
  unfold valD at r2
  rw [fp] at r2
  have e2 : p.2 = .loc r := Option.some.inj r2
  exact Prod.ext e.symm e2
theorem make_ok {S : Sto} {d : Nat} {P : List (List Int)} {R : List Int → List Va} (sh : ∀ s ∈ P, Sh s) (nd : P.Nodup) (ne : P ≠ []) (hz : P.length ≤ 100) {n : Nat} (n1 : 1 ≤ n) (n64 : n ≤ 64) (ro : ∀ s ∈ P, RowOk n s (R s)) (hD : DInv S d P R) : ∃ T, m__make_a_rule [.int (n : Int), .loc d] S = .ok (.bl true) T ∧ Keep S T := by
  obtain ⟨kvs, h1, h2, h3, _⟩ := hD.ex
  have kl : kvs.length = P.length := by
    have := congrArg List.length h2
    rw [List.length_map, List.length_map] at this
    exact this
  have nc : m_is_number_of_cursors [.int (n : Int)] S = .ok (.bl true) S := by
    have i1 := isb ((n : Int)) 1 64 S
    rw [decide_eq_true (by omega), decide_eq_true (by omega)] at i1
    have r : b_is_number_of_cursors [some (.int (n : Int))] S = .rt (.bl true) S := by
      unfold b_is_number_of_cursors
      exact ret_at (fn_at (cons_at (var_at rfl) (cons_at lit_at (one_at lit_at))) rfl i1)
    show (b_is_number_of_cursors [some (.int (n : Int))] S).fin = _
    rw [r]
    rfl
  generalize eδ : E4 (some (.int (n : Int))) (some (.loc d)) none none = δ
  have v0 : δ[0]? = some (some (.int (n : Int))) := by rw [← eδ]; rfl
  have v1 : δ[1]? = some (some (.loc d)) := by rw [← eδ]; rfl
  have isd : fIsD [.loc d, .ty 6] S = .ok (.bl true) S := by
    unfold fIsD
    dsimp only
    rw [dct_get h1]
    rfl
  have tru : xtruD (xvar 1) δ S = .ok true S := by
    unfold xtruD
    rw [var_at v1, bind_ok]
    unfold truD
    rw [dct_get h1]
    dsimp only
    cases kvs with
    | nil =>
      rw [List.length_nil] at kl
      exact absurd (List.length_eq_zero_iff.mp kl.symm) ne
    | cons a r => rfl
  have q1 : sif (xor (xnot (xtru (ycall 1 m_is_number_of_cursors (acons (xvar 0) anil)))) (xor (xnot (xtru (xcall fIsD (acons (xvar 1) (acons (xlit (.ty 6)) anil))))) (xnot (xtruD (xvar 1))))) (sret (xlit (.bl false))) snext δ S = .nx δ S :=
    if_f (or_f (not_at (tru_at (fn_at (one_at (var_at v0)) rfl nc))) (or_f (not_at (tru_at (call_at (cons_at (var_at v1) (one_at lit_at)) isd))) (not_at tru))) rfl
  -- under the lock
  have dl := (List.getElem?_eq_some_iff.mp h1).1
  have hS1 : (S.set d (.frd kvs))[d]? = some (.frd kvs) := List.getElem?_set_self dl
  have it : iitems (xvar 1) δ (S.set d (.frd kvs)) = .ok ((kvs.map fun p => Va.tup [p.1, p.2]).length + 1, nseq (kvs.map fun p => .tup [p.1, p.2])) (S.set d (.frd kvs)) := by
    unfold iitems
    rw [var_at v1, bind_ok]
    dsimp only
    rw [hS1, List.length_map]
  obtain ⟨l, T, e1, e2, e3, e4⟩ := all_keep (v := 2) (vs := [2, 3]) (put := ptup 2 (pcons (pname 2) (pcons (pname 3) pnil))) (elt := xandV (ycall 1 m_is_shape (acons (xvar 2) anil)) (ycall 3 m__are_calls (acons (xvar 0) (acons (xvar 2) (acons (xvar 3) anil))))) (δ := δ) (S := S.set d (.frd kvs)) (S0 := S.set d (.frd kvs)) it (by rw [List.length_map]; omega) (fun T i _ => rfl) (fun w hw => by
    obtain ⟨p, hp, rfl⟩ := List.mem_map.mp hw
    obtain ⟨s, r, hs, rfl, rd, hr, _⟩ := pair_of nd h2 h3 hp
    refine ⟨E4 (some (.int (n : Int))) (some (.loc d)) (some (tI' s)) (some (.loc r)), by rw [← eδ]; rfl, fun T' kp => ?_⟩
    have hr' : T'[r]? = some (.lst (R s)) := kp _ _ (by rw [List.getElem?_set_ne (Ne.symm rd)]; exact hr)
    obtain ⟨T2, c1, c2⟩ := are_calls_ok (sh s hs) n64 (ro s hs) hr'
    exact ⟨T2, andV_t (fn_at (one_at (var_at rfl)) rfl (shp (sh s hs) T')) (fn_at (cons_at (var_at rfl) (cons_at (var_at rfl) (one_at (var_at rfl)))) rfl c1), c2⟩)
  obtain ⟨u1, u2⟩ := keep_lock h1 e3
  have lk : xlock (xvar 1) (xcomp [2, 3] (iitems (xvar 1)) (ptup 2 (pcons (pname 2) (pcons (pname 3) pnil))) xyes (xandV (ycall 1 m_is_shape (acons (xvar 2) anil)) (ycall 3 m__are_calls (acons (xvar 0) (acons (xvar 2) (acons (xvar 3) anil)))))) δ S = .ok (.loc l) (T.set d (.dct kvs)) := by
    unfold xlock
    rw [var_at v1]
    dsimp only
    rw [h1]
    dsimp only
    rw [e1]
    dsimp only
    unfold unlS
    rw [u1]
  have ld : l ≠ d := by
    rw [List.length_set] at e4
    omega
  have e2' : (T.set d (.dct kvs))[l]? = some (.lst (((kvs.map fun p => Va.tup [p.1, p.2]).map fun _ => true).map .bl)) := by
    rw [List.getElem?_set_ne (Ne.symm ld)]
    exact e2
  refine ⟨T.set d (.dct kvs), ?_, u2⟩
  have r : b__make_a_rule δ S = .rt (.bl true) (T.set d (.dct kvs)) := by
    unfold b__make_a_rule
    exact seq_at q1 (ret_at (call_at (one_at lk) (fall_at (n := 0) e2')))
  show (b__make_a_rule (E4 (some (.int (n : Int))) (some (.loc d)) none none) S).fin = _
  rw [eδ, r]
  rfl
theorem dinv_put {S : Sto} {d r : Nat} {R : List Int → List Va} {P : List (List Int)} {s : List Int} (hD : DInv S d P R) (hs : s ∉ P) (hr : S[r]? = some (.lst (R s))) (rd : r ≠ d) :
    ∃ kvs, S[d]? = some (.dct kvs) ∧ kvs.length = P.length ∧ stD kvs (tI' s) (keyS s) (.loc r) = kvs ++ [(tI' s, .loc r)] ∧ DInv (S.set d (.dct (kvs ++ [(tI' s, .loc r)]))) d (P ++ [s]) R := by
  obtain ⟨kvs, h1, h2, h3, h4⟩ := hD.ex
  have kl : kvs.length = P.length := by
    have := congrArg List.length h2
    rw [List.length_map, List.length_map] at this
    exact this
  refine ⟨kvs, h1, kl, ?_, ⟨_, List.getElem?_set_self (List.getElem?_eq_some_iff.mp h1).1, by rw [List.map_append, List.map_append, h2]; rfl, fun u hu => ?_, fun u hu => ?_⟩⟩
  · unfold stD
    rw [h4 s hs]
    rfl
  · rcases List.mem_append.mp hu with z | z
    · obtain ⟨r', r1, r2, r3⟩ := h3 u z
      exact ⟨r', r1, by rw [valD_app, r2]; rfl, by rw [List.getElem?_set_ne (Ne.symm r1)]; exact r3⟩
    · rw [List.mem_singleton.mp z]
      exact ⟨r, rd, by rw [valD_app, h4 s hs, if_pos rfl]; rfl, by rw [List.getElem?_set_ne (Ne.symm rd)]; exact hr⟩
  · rw [List.mem_append, List.mem_singleton] at hu
    rw [valD_app, h4 u (fun z => hu (.inl z)), if_neg (fun z => hu (.inr z.symm))]
    rfl
theorem dcG_at {nth : Nth} {put : XP} {kx vx : XE} {δ : Rz.Env} {S1 : Sto} {D : Nat} {R : List Int → List Va} {P : List (List Int)} (sh : ∀ s ∈ P, Sh s) (nd : P.Nodup) (hz : P.length ≤ 100) (hn : ∀ T i, KeepB D S1 T → nth T i = some (P.map tI')[i]?)
    (hs : ∀ s ∈ P, ∃ δ1, put (tI' s) δ = some δ1 ∧ (∀ T, kx δ1 T = .ok (tI' s) T) ∧ ∀ T, KeepB D S1 T → D < T.length → ∃ r T', vx δ1 T = .ok (.loc r) T' ∧ T'[r]? = some (.lst (R s)) ∧ r ≠ D ∧ Keep T T') :
    ∀ (m i : Nat) (T : Sto), i + m = P.length → DInv T D (P.take i) R → KeepB D S1 T → ∃ U, dcG nth put xyes kx vx D δ (m + 1) i T = .ok (.loc D) U ∧ DInv U D P R ∧ KeepB D S1 U
  | 0, i, T, e, hD, hk => by
    have e' : i = P.length := by omega
    subst e'
    rw [List.take_length] at hD
    refine ⟨T, ?_, hD, hk⟩
    unfold dcG
    rw [hn T _ hk, List.getElem?_eq_none (by rw [List.length_map]; exact Nat.le_refl _)]
  | m + 1, i, T, e, hD, hk => by
    have hi : i < P.length := by omega
    have hw : (P.map tI')[i]? = some (tI' P[i]) := by rw [List.getElem?_map, List.getElem?_eq_getElem hi]; rfl
    have sm : P[i] ∈ P := List.getElem_mem hi
    obtain ⟨δ1, p1, p2, p3⟩ := hs P[i] sm
    have Dl : D < T.length := by
      obtain ⟨_, h1, _⟩ := hD.ex
      exact (List.getElem?_eq_some_iff.mp h1).1
    obtain ⟨r, T', x1, x2, x3, x4⟩ := p3 T hk Dl
    have nt : P[i] ∉ P.take i := fun hm => by
      obtain ⟨j, hj, e⟩ := List.getElem_of_mem hm
      rw [List.length_take] at hj
      rw [List.getElem_take] at e
      have := (List.getElem_inj nd).mp e
      omega
    obtain ⟨kvs, y1, y2, y3, y4⟩ := dinv_put (hD.keep x4) nt x2 x3
    have tk : P.take i ++ [P[i]] = P.take (i + 1) := by rw [List.take_succ, List.getElem?_eq_getElem hi]; rfl
    rw [tk] at y4
    have kb : KeepB D S1 (T'.set D (.dct (kvs ++ [(tI' P[i], .loc r)]))) := (hk.trans x4.but).trans (KeepB.set _ _ _)
    obtain ⟨U, u1, u2, u3⟩ := dcG_at sh nd hz hn hs m (i + 1) _ (by omega) y4 kb
    refine ⟨U, ?_, u2, u3⟩
    conv => lhs; unfold dcG
    rw [hn T i hk, hw]
    dsimp only
    rw [p1]
    dsimp only
    show (match kx δ1 T with | .ok y S2 => (match vx δ1 S2 with | .ok z S3 => (match S3[D]?, keyT y with | some (.dct kvs), some k => bif fits (kvs.length + 1) then dcG nth put xyes kx vx D δ (m + 1) (i + 1) (S3.set D (.dct (stD kvs y k z))) else .bad | _, _ => .bad) | _ => .bad) | _ => .bad) = _
    rw [p2 T]
    dsimp only
    rw [x1]
    dsimp only
    rw [y1, keyT_sh (sh _ sm)]
    dsimp only
    rw [List.length_take] at y2
    rw [fits_of (by omega), y3]
    exact u1
theorem xdcomp_at {vs : List Nat} {xi : XI} {put : XP} {kx vx : XE} {δ : Rz.Env} {S S0 : Sto} {nth : Nth} {P : List (List Int)} {R : List Int → List Va} (sh : ∀ s ∈ P, Sh s) (nd : P.Nodup) (hz : P.length ≤ 100) (hx : xi δ S = .ok (P.length + 1, nth) S0)
    (hn : ∀ T i, KeepB S0.length (S0 ++ [.dct []]) T → nth T i = some (P.map tI')[i]?)
    (hs : ∀ s ∈ P, ∃ δ1, put (tI' s) (wipeE δ vs) = some δ1 ∧ (∀ T, kx δ1 T = .ok (tI' s) T) ∧ ∀ T, KeepB S0.length (S0 ++ [.dct []]) T → S0.length < T.length → ∃ r T', vx δ1 T = .ok (.loc r) T' ∧ T'[r]? = some (.lst (R s)) ∧ r ≠ S0.length ∧ Keep T T') :
    ∃ U, xdcomp vs xi put xyes kx vx δ S = .ok (.loc S0.length) U ∧ DInv U S0.length P R ∧ Keep S0 U := by
  obtain ⟨U, u1, u2, u3⟩ := dcG_at sh nd hz hn hs P.length 0 (S0 ++ [.dct []]) (by omega) ⟨[], get_new _ _ _, rfl, (fun s hs => nomatch hs), fun s _ => rfl⟩ (KeepB.refl _ _)
  refine ⟨U, ?_, u2, fun j o e => u3 _ _ (Nat.ne_of_lt (List.getElem?_eq_some_iff.mp e).1) (Keep.app _ _ _ _ e)⟩
  unfold xdcomp
  rw [hx, bind_ok]
  exact u1
structure RuleAt (T : Sto) (i : Nat) (L : List (List Int)) (n : Nat) (R : List Int → List Va) : Prop where
  ex : ∃ D P, T[i]? = some (.ins 40 [.int (n : Int), .loc D]) ∧ DInv T D P R ∧ P.map tI' = vsort (L.map tI') ∧ P.Perm L
theorem new2 {S T : Sto} {o : Ob} (e : S ++ [o] = T) : Keep S T ∧ T[S.length]? = some o ∧ T.length = S.length + 1 := ⟨by rw [← e]; exact Keep.app _ _, by rw [← e]; exact get_new _ _ _, by rw [← e]; simp⟩
theorem RuleAt.keep {S T : Sto} {i n : Nat} {L : List (List Int)} {R : List Int → List Va} (h : RuleAt S i L n R) (k : Keep S T) : RuleAt T i L n R := by
  obtain ⟨D, P, h1, h2, h3⟩ := h.ex
  exact ⟨D, P, k _ _ h1, h2.keep k, h3⟩
theorem DInv.of {S T : Sto} {d : Nat} {R : List Int → List Va} {P : List (List Int)} (h : DInv S d P R) (k : ∀ (j : Nat) (o : Ob), (∀ c fs, o ≠ Ob.ins c fs) → S[j]? = some o → T[j]? = some o) : DInv T d P R := by
  obtain ⟨kvs, h1, h2, h3, h4⟩ := h.ex
  exact ⟨kvs, k _ _ (fun _ _ z => nomatch z) h1, h2, fun s hs => let ⟨r, r1, r2, r3⟩ := h3 s hs; ⟨r, r1, r2, k _ _ (fun _ _ z => nomatch z) r3⟩, h4⟩
theorem init_ok {L : List (List Int)} (sh : ∀ s ∈ L, Sh s) (nd : L.Nodup) (ne : L ≠ []) (hz : L.length ≤ 60) {n : Nat} {R : List Int → List Va} (n1 : 1 ≤ n) (n64 : n ≤ 64) (ro : ∀ s ∈ L, RowOk n s (R s)) {S0 : Sto} {d : Nat} (hD0 : DInv S0 d L R) :
    ∃ T, m_Rule___init__ [.loc S0.length, .int (n : Int), .loc d] (S0 ++ [.ins 40 []]) = .ok .non T ∧ RuleAt T S0.length L n R ∧ Keep S0 T := by
  generalize eS : S0 ++ [Ob.ins 40 []] = S
  obtain ⟨k0, b0, l0⟩ := new2 eS
  have hD := hD0.keep k0
  have dl0 : d < S0.length := by
    obtain ⟨_, h1, _⟩ := hD0.ex
    exact (List.getElem?_eq_some_iff.mp h1).1
  generalize ei : S0.length = i at b0 l0 dl0
  obtain ⟨T1, m1, k1⟩ := make_ok sh nd ne (by omega) n1 n64 ro hD
  have i1 := k1 _ _ b0
  have i1l := (List.getElem?_eq_some_iff.mp i1).1
  generalize eδ : E4 (some (.loc i)) (some (.int (n : Int))) (some (.loc d)) none = δ
  have v0 : δ[0]? = some (some (.loc i)) := by rw [← eδ]; rfl
  have v1 : δ[1]? = some (some (.int (n : Int))) := by rw [← eδ]; rfl
  have v2 : δ[2]? = some (some (.loc d)) := by rw [← eδ]; rfl
  have q1 : sif (xnot (xtru (ycall 2 m__make_a_rule (acons (xvar 1) (acons (xvar 2) anil))))) (sraise 9) snext δ S = .nx δ T1 := if_f (not_at (tru_at (fn_at (cons_at (var_at v1) (one_at (var_at v2))) rfl m1))) rfl
  have q2 : sfld 40 0 (xvar 0) (xvar 1) δ T1 = .nx δ (T1.set i (.ins 40 [.int (n : Int)])) := sfld_at (var_at v1) (var_at v0) i1 rfl
  generalize eT2 : T1.set i (.ins 40 [.int (n : Int)]) = T2 at q2
  have i2 : T2[i]? = some (.ins 40 [.int (n : Int)]) := by rw [← eT2]; exact List.getElem?_set_self i1l
  have o2 : ∀ (j : Nat) (o : Ob), (∀ c fs, o ≠ Ob.ins c fs) → T1[j]? = some o → T2[j]? = some o := fun j o h e => by
    rw [← eT2, List.getElem?_set_ne (fun z => by rw [← z, i1] at e; exact h _ _ (Option.some.inj e).symm)]
    exact e
  have hD2 : DInv T2 d L R := (hD.keep k1).of o2
  obtain ⟨kvs, h1, h2, h3, _⟩ := hD2.ex
  obtain ⟨P, eP, pP⟩ := perm_map (f := tI') tI_inj (vsort_perm (L.map tI'))
  have shP : ∀ s ∈ P, Sh s := fun s hs => sh s (pP.mem_iff.mp hs)
  have ndP : P.Nodup := pP.nodup_iff.mpr nd
  have zP : P.length = L.length := pP.length_eq
  generalize eT3 : T2 ++ [Ob.lst (P.map tI')] = T3
  obtain ⟨k3, b3, l3⟩ := new2 eT3
  have srt : fSrtD [.loc d] T2 = .ok (.loc T2.length) T3 := by
    unfold fSrtD
    dsimp only
    rw [dct_get h1]
    dsimp only
    rw [h2, sortV_shs (fun s hs => (sh s hs).ne), eP]
    show llst (P.map tI') T2 = _
    rw [llst_eq T2 (by rw [List.length_map]; omega), eT3]
  have hD3 := hD2.keep k3
  have d3 : d < T3.length := by
    obtain ⟨_, g1, _⟩ := hD3.ex
    exact (List.getElem?_eq_some_iff.mp g1).1
  have l23 : T2.length < T3.length := by omega
  have ix : isq (xcall fSrtD (acons (xvar 2) anil)) δ T2 = .ok (P.length + 1, nloc T2.length) T3 := by
    have := isq_loc (call_at (one_at (var_at v2)) srt) (getL_lst b3)
    rw [List.length_map] at this
    exact this
  obtain ⟨T4, e4, g4, k4⟩ := xdcomp_at (vs := [3]) (xi := isq (xcall fSrtD (acons (xvar 2) anil))) (put := pname 3) (kx := xvar 3) (vx := xcall fList (acons (xbin oDix (xvar 2) (xvar 3)) anil)) (δ := δ) (S := T2) (S0 := T3) (nth := nloc T2.length) (P := P) (R := R) shP ndP (by omega) ix
    (fun T j kb => nloc_at (getL_lst (kb _ _ (Nat.ne_of_lt l23) (Keep.app _ _ _ _ b3))) j)
    (fun s hs => by
      refine ⟨E4 (some (.loc i)) (some (.int (n : Int))) (some (.loc d)) (some (tI' s)), by rw [← eδ]; rfl, fun T => var_at rfl, fun T kb Dl => ?_⟩
      obtain ⟨kvs3, g1, g2, g3, _⟩ := hD3.ex
      have sL : s ∈ L := pP.mem_iff.mp hs
      obtain ⟨r, r1, r2, r3⟩ := g3 s sL
      have rl := (List.getElem?_eq_some_iff.mp r3).1
      have dT : T[d]? = some (.dct kvs3) := kb _ _ (Nat.ne_of_lt d3) (Keep.app _ _ _ _ g1)
      have rT : T[r]? = some (.lst (R s)) := kb _ _ (Nat.ne_of_lt rl) (Keep.app _ _ _ _ r3)
      have dx : oDix (.loc d) (tI' s) T = .ok (.loc r) T := by
        unfold oDix
        rw [dct_get dT, keyT_sh (sh s sL)]
        dsimp only
        rw [r2]
      refine ⟨T.length, T ++ [.lst (R s)], call_at (one_at (bin_at (var_at rfl) (var_at rfl) dx)) (list_at (getL_lst rT) (by have := (ro s sL).1; omega)), get_new _ _ _, by omega, Keep.app _ _⟩)
  have i4 := k4 _ _ (k3 _ _ i2)
  have q3 : sfld 40 1 (xvar 0) (xdcomp [3] (isq (xcall fSrtD (acons (xvar 2) anil))) (pname 3) xyes (xvar 3) (xcall fList (acons (xbin oDix (xvar 2) (xvar 3)) anil))) δ T2 = .nx δ (T4.set i (.ins 40 [.int (n : Int), .loc T3.length])) := sfld_at e4 (var_at v0) i4 rfl
  generalize eT5 : T4.set i (.ins 40 [.int (n : Int), .loc T3.length]) = T5 at q3
  have i5 : T5[i]? = some (.ins 40 [.int (n : Int), .loc T3.length]) := by rw [← eT5]; exact List.getElem?_set_self (List.getElem?_eq_some_iff.mp i4).1
  have o5 : ∀ (j : Nat) (o : Ob), (∀ c fs, o ≠ Ob.ins c fs) → T4[j]? = some o → T5[j]? = some o := fun j o h e => by
    rw [← eT5, List.getElem?_set_ne (fun z => by rw [← z, i4] at e; exact h _ _ (Option.some.inj e).symm)]
    exact e
  refine ⟨T5, ?_, ⟨T3.length, P, i5, g4.of o5, eP.symm, pP⟩, fun j o e => ?_⟩
  · have r : b_Rule___init__ δ S = .nx δ T5 := by
      unfold b_Rule___init__
      exact seq_at q1 (seq_at q2 q3)
    show (b_Rule___init__ (E4 (some (.loc i)) (some (.int (n : Int))) (some (.loc d)) none) S).fin = _
    rw [eδ, r]
    rfl
  · have jl := (List.getElem?_eq_some_iff.mp e).1
    have ji : j ≠ i := by omega
    rw [← eT5, List.getElem?_set_ne (Ne.symm ji)]
    refine k4 _ _ (k3 _ _ ?_)
    rw [← eT2, List.getElem?_set_ne (Ne.symm ji)]
    exact k1 _ _ (k0 _ _ e)
end Law
namespace Law
open PySem PySem.Spec PyProof.Rows L2 Rz PySem.W
mutual
def nsD : PyData → Bool
  | .none => true
  | .bool _ => true
  | .int _ => true
  | .str _ => false
  | .list xs => nsL xs
  | .tuple xs => nsL xs
  | .dict _ => false
def nsL : List PyData → Bool
  | [] => true
  | x :: xs => nsD x && nsL xs
end
mutual
theorem eqv_refl : ∀ d : PyData, nsD d = true → PyData.eqv d d = true ∧ d.canLay0 = true
  | .none, _ => ⟨by simp [PyData.eqv], by simp [PyData.canLay0]⟩
  | .bool b, _ => ⟨by simp [PyData.eqv], by simp [PyData.canLay0]⟩
  | .int i, _ => ⟨by simp [PyData.eqv], by simp [PyData.canLay0]⟩
  | .str x, h => by simp [nsD] at h
  | .list xs, h => by
    obtain ⟨a, b⟩ := eqvs_refl xs (by simpa [nsD] using h)
    exact ⟨by simp [PyData.eqv, a], by simp [PyData.canLay0, b]⟩
  | .tuple xs, h => by
    obtain ⟨a, b⟩ := eqvs_refl xs (by simpa [nsD] using h)
    exact ⟨by simp [PyData.eqv, a], by simp [PyData.canLay0, b]⟩
  | .dict _, h => by simp [nsD] at h
theorem eqvs_refl : ∀ ds : List PyData, nsL ds = true → PyData.eqvAll ds ds = true ∧ PyData.canLayAll0 ds = true
  | [], _ => ⟨by simp [PyData.eqvAll], by simp [PyData.canLayAll0]⟩
  | d :: ds, h => by
    simp only [nsL, Bool.and_eq_true] at h
    obtain ⟨a1, b1⟩ := eqv_refl d h.1
    obtain ⟨a2, b2⟩ := eqvs_refl ds h.2
    exact ⟨by simp [PyData.eqvAll, a1, a2], by simp [PyData.canLayAll0, b1, b2]⟩
end
theorem ns_ints : ∀ ns : List Int, nsL (ns.map PyData.int) = true
  | [] => by simp [nsL]
  | n :: ns => by simp [nsL, nsD, ns_ints ns]
theorem ns_tps : ∀ rs : List (List Int), nsL (rs.map fun a => dat (tI' a)) = true
  | [] => by simp [nsL]
  | a :: rs => by
    rw [List.map_cons, dat_tI]
    simp [nsL, nsD, ns_ints a, ns_tps rs]
theorem dats_tI (rs : List (List Int)) : dats (rs.map tI') = rs.map fun a => dat (tI' a) := by
  rw [dats_map, List.map_map]
  rfl
theorem depth_tps : ∀ rs : List (List Int), PyData.depthAll (rs.map fun a => dat (tI' a)) ≤ 1
  | [] => by simp [PyData.depthAll]
  | a :: rs => by
    have := depth_tps rs
    rw [List.map_cons]
    simp only [PyData.depthAll]
    rw [depth_tI]
    omega
theorem call_dat (ps : List (List Int)) (l : Option Nat) : pur (cV ps l) = true ∧ nsD (dat (cV ps l)) = true ∧ (dat (cV ps l)).depth ≤ 3 := by
  have p1 : purs (ps.map tI') = true := purs_map tI' pur_tI _
  have d1 : dat (cV ps l) = .tuple [.tuple (ps.map fun a => dat (tI' a)), dat (lV l)] := by
    unfold cV
    simp only [dat, dats, dats_tI]
  have d2 := depth_tps ps
  have n2 := ns_tps ps
  have p2 : pur (cV ps l) = true := by
    unfold cV
    cases l with
    | none => simp [lV, pur, purs, p1]
    | some k => simp [lV, pur, purs, p1]
  have e3 : nsD (dat (lV l)) = true ∧ (dat (lV l)).depth = 0 := by
    cases l with
    | none => exact ⟨by simp [lV, nsD, dat], by simp [lV, PyData.depth, dat]⟩
    | some k => exact ⟨by simp [lV, nsD, dat], by simp [lV, PyData.depth, dat]⟩
  refine ⟨p2, ?_, ?_⟩
  · rw [d1]
    generalize (ps.map fun a => dat (tI' a)) = X at n2
    simp [nsD, nsL, n2, e3.1]
  · rw [d1]
    generalize (ps.map fun a => dat (tI' a)) = X at d2
    simp only [PyData.depth, PyData.depthAll]
    rw [e3.2]
    omega
theorem row_dat {n : Nat} {s : List Int} {ws : List Va} (ro : RowOk n s ws) : ∃ ds, (∀ (T : Sto) (r : Nat), T[r]? = some (.lst ws) → toD T 64 (.loc r) = some (.list ds)) ∧ PyData.eqv (.list ds) (.list ds) = true ∧ SeqAt.shaped (.list ds) = true := by
  have go : ∀ us : List Va, (∀ v ∈ us, ∃ ps l, CallOk n s v ps l) → ∃ ds, (∀ T : Sto, allD (toD T 63) us = some ds) ∧ nsL ds = true ∧ PyData.depthAll ds ≤ 3 := fun us => by
    induction us with
    | nil => exact fun _ => ⟨[], fun T => rfl, by simp [nsL], by simp [PyData.depthAll]⟩
    | cons v us ih =>
      intro hu
      obtain ⟨ds, h1, h2, h3⟩ := ih fun x hx => hu x (List.mem_cons_of_mem _ hx)
      obtain ⟨ps, l, hc⟩ := hu v List.mem_cons_self
      have ev := hc.eq
      subst ev
      obtain ⟨c1, c2, c3⟩ := call_dat ps l
      refine ⟨dat (cV ps l) :: ds, fun T => ?_, by simp [nsL, c2, h2], by simp only [PyData.depthAll]; omega⟩
      show (match toD T 63 (cV ps l), allD (toD T 63) us with | some d, some ds => some (d :: ds) | _, _ => none) = _
      rw [h1 T, toD_pur T _ 63 c1 (by omega)]
  obtain ⟨ds, h1, h2, h3⟩ := go ws ro.2
  obtain ⟨e1, e2⟩ := eqvs_refl ds h2
  refine ⟨ds, fun T r hr => toD_list (getL_lst hr) (h1 T), by simp [PyData.eqv, e1], ?_⟩
  unfold SeqAt.shaped
  rw [Bool.and_eq_true]
  refine ⟨by simp [PyData.canLay0, e2], decide_eq_true ?_⟩
  simp only [PyData.depth]
  omega
theorem eq_rules {T : Sto} {i j n : Nat} {L L' : List (List Int)} {R R' : List Int → List Va} (nd : L.Nodup) (hi : RuleAt T i L n R) (hj : RuleAt T j L' n R') (ro : ∀ s ∈ L, RowOk n s (R s)) (rr : ∀ s ∈ L, R' s = R s) (same : vsort (L.map tI') = vsort (L'.map tI')) : m_Rule___eq__ [.loc i, .loc j] T = .ok (.bl true) T := by
  obtain ⟨D, P, a1, a2, a3, a4⟩ := hi.ex
  obtain ⟨E, P', b1, b2, b3, b4⟩ := hj.ex
  have ep : P = P' := by
    have h : P.map tI' = P'.map tI' := by rw [a3, b3, same]
    clear a3 b3 a2 b2 a4 b4 same
    induction P generalizing P' with
    | nil => cases P' with
      | nil => rfl
      | cons a r => cases h
    | cons x P ih => cases P' with
      | nil => cases h
      | cons a r =>
        rw [List.map_cons, List.map_cons] at h
        obtain ⟨h1, h2⟩ := List.cons.inj h
        rw [tI_inj h1, ih r h2]
  subst ep
  have ndP : P.Nodup := a4.nodup_iff.mpr nd
  obtain ⟨ka, c1, c2, c3, _⟩ := a2.ex
  obtain ⟨kb, d1, d2, d3, _⟩ := b2.ex
  have za : ka.length = kb.length := by
    have h1 := congrArg List.length c2
    have h2 := congrArg List.length d2
    rw [List.length_map] at h1 h2
    omega
  have go : ∀ l : List (Va × Va), (∀ p ∈ l, p ∈ ka) → eqK T kb l = some true := fun l => by
    induction l with
    | nil => intro _; rfl
    | cons p l ih =>
      intro h
      obtain ⟨s, r, hs, rfl, _, hr, _⟩ := pair_of ndP c2 c3 (h p List.mem_cons_self)
      obtain ⟨r', _, e2, e3⟩ := d3 s hs
      rw [rr s (a4.mem_iff.mp hs)] at e3
      obtain ⟨ds, g1, g2, g3⟩ := row_dat (ro s (a4.mem_iff.mp hs))
      unfold eqK
      rw [nk_tI]
      dsimp only
      rw [e2]
      dsimp only
      rw [g1 T r hr, g1 T r' e3, ih fun q hq => h q (List.mem_cons_of_mem _ hq)]
      dsimp only
      rw [g3, g2]
      rfl
  have ce : cEqD (.loc D) (.loc E) T = .ok true T := by
    unfold cEqD
    rw [dct_get c1, dct_get d1]
    dsimp only
    rw [if_pos za, go ka fun p hp => hp]
  have ia : ∀ {x : Nat} {fs : List Va}, T[x]? = some (.ins 40 fs) → insAt 40 (.loc x) T = some fs := fun h => insAt_eq h
  have isc : fIsC 40 [.loc j, .cl 40] T = .ok (.bl true) T := by
    unfold fIsC
    dsimp only
    rw [ia b1]
    rfl
  have r : b_Rule___eq__ [some (.loc i), some (.loc j)] T = .rt (.bl true) T := by
    unfold b_Rule___eq__
    exact ret_at (andV_t (call_at (cons_at (var_at rfl) (one_at lit_at)) isc) (andV_t (boo_at (cmp_at (fld_at (var_at rfl) a1 rfl) (fld_at (var_at rfl) b1 rfl) (by rw [cEq_int, decide_eq_true rfl]))) (boo_at (cmp_at (fld_at (var_at rfl) a1 rfl) (fld_at (var_at rfl) b1 rfl) ce))))
  show (b_Rule___eq__ [some (.loc i), some (.loc j)] T).fin = _
  rw [r]
  rfl
theorem eqO_rules {T : Sto} {i j n : Nat} {L L' : List (List Int)} {R R' : List Int → List Va} (nd : L.Nodup) (hi : RuleAt T i L n R) (hj : RuleAt T j L' n R') (ro : ∀ s ∈ L, RowOk n s (R s)) (rr : ∀ s ∈ L, R' s = R s) (same : vsort (L.map tI') = vsort (L'.map tI')) : cEqO 40 m_Rule___eq__ (.loc i) (.loc j) T = .ok true T ∧ cNeO 40 m_Rule___eq__ (.loc i) (.loc j) T = .ok false T := by
  have e := eq_rules nd hi hj ro rr same
  obtain ⟨D, P, a1, _⟩ := hi.ex
  obtain ⟨E, P', b1, _⟩ := hj.ex
  have h : cEqO 40 m_Rule___eq__ (.loc i) (.loc j) T = .ok true T := by
    unfold cEqO
    rw [insAt_eq a1]
    dsimp only
    rw [insAt_eq b1]
    show (match m_Rule___eq__ [.loc i, .loc j] T with | .ok (.bl t) S1 => Rs.ok t S1 | _ => .bad) = _
    rw [e]
  refine ⟨h, ?_⟩
  unfold cNeO
  rw [h]
  rfl
end Law
namespace Law
open PySem PySem.Spec PyProof.Rows L2 Rz PySem.W
local macro_rules | `(tactic| array_mem_dec) => `(tactic| first | assumption | ((with_reducible refine Keep.at' (by assumption) ?_); array_mem_dec) | ((with_reducible refine KeepB.at' (by assumption) (by first | assumption | omega) ?_); array_mem_dec))
local macro_rules | `(tactic| array_get_dec) => `(tactic| first
  | (with_reducible apply wo_seq) | (with_reducible apply wo_set) | (with_reducible apply wo_ret) | (with_reducible apply wo_if) | (with_reducible apply wo_exp)
  | (with_reducible apply wr_lit) | ((with_reducible apply wr_var); exact rfl) | (with_reducible apply wr_bin) | (with_reducible apply wr_binB) | (with_reducible apply wr_call) | (with_reducible apply wr_cons) | (with_reducible apply wr_nil)
  | (with_reducible apply wr_fn) | (with_reducible apply wr_not) | (with_reducible apply wr_and) | (with_reducible apply wr_or) | (with_reducible apply wr_ite) | (with_reducible apply wr_boo) | (with_reducible apply wr_tru) | (with_reducible apply wr_yes)
  | (with_reducible apply wr_tup) | (with_reducible apply wr_lst) | (with_reducible apply wr_un) | (with_reducible apply wr_isN) | (with_reducible apply wr_andV) | (with_reducible apply wr_orV) | (with_reducible apply wr_notV) | (with_reducible apply wr_orT) | (with_reducible apply wr_chain)
  | (with_reducible apply wr_addI) | (with_reducible apply wr_subI) | ((with_reducible apply wr_mulR); (· decide); (· decide)) | ((with_reducible apply wr_mulL); (· decide); (· decide)) | ((with_reducible apply wr_divI); (· omega); (· omega)) | ((with_reducible apply wr_modI); (· omega)) | (with_reducible apply wr_neg)
  | (with_reducible apply wr_lt) | (with_reducible apply wr_le) | (with_reducible apply wr_gt) | (with_reducible apply wr_ge) | ((with_reducible apply wr_eqS); exact rfl) | (with_reducible apply wr_ne) | (with_reducible apply wr_isB) | (with_reducible apply wr_isnB)
  | ((with_reducible apply wr_ixT); (· exact rfl)) | ((with_reducible apply wr_ixL); (· array_mem_dec); (· exact rfl)) | (with_reducible apply wr_trB) | ((with_reducible apply wr_trL); array_mem_dec) | ((with_reducible apply wr_lenL); array_mem_dec) | (with_reducible apply wr_lenT) | (with_reducible apply wr_intI) | (with_reducible apply wr_abs) | (with_reducible apply wr_min2)
  | (with_reducible apply wo_nx) | (with_reducible apply wo_retN) | (with_reducible apply wo_raise) | (with_reducible apply wo_asg) | (with_reducible apply wo_par) | (with_reducible apply wo_sub) | (with_reducible apply wo_for) | (with_reducible apply wr_isq) | (with_reducible apply wr_irg1) | (with_reducible apply wr_comp) | (with_reducible apply wr_met) | (with_reducible apply wr_met0)
  | ((with_reducible apply fnGo); (· exact rfl)) | ((with_reducible apply tupGo); (· simp only [List.length_cons, List.length_nil, Nat.reduceAdd, Nat.reduceLeDiff])) | ((with_reducible apply lstGo); (· simp only [List.length_cons, List.length_nil, Nat.reduceAdd, Nat.reduceLeDiff])) | ((with_reducible apply parGo); (· exact rfl)) | ((with_reducible apply asgGo); (· exact rfl)) | (with_reducible apply blGo)
  | ((with_reducible apply metGo); (· array_mem_dec)) | (with_reducible apply wr_fld) | ((with_reducible apply fldGo); (· array_mem_dec); (· exact rfl)) | (with_reducible apply wr_new) | (with_reducible apply wr_prop) | ((with_reducible apply propGo); (· array_mem_dec)) | (with_reducible apply isqT) | ((with_reducible apply isqL); (· array_mem_dec))
  | (with_reducible apply wo_try) | ((with_reducible apply wr_isX); (· array_mem_dec); (· first | exact rfl | decide)) | ((with_reducible apply wr_isXT); (· array_mem_dec); (· first | exact rfl | decide))
  | (with_reducible apply wr_neO) | ((with_reducible apply wr_eqO); (· array_mem_dec); (· array_mem_dec)) | ((with_reducible apply wr_isC); (· array_mem_dec)) | ((with_reducible apply wr_isi); (· first | exact rfl | (apply kindL; array_mem_dec)); (· decide)) | (with_reducible apply wr_sl) | (with_reducible apply wr_nop) | (with_reducible apply wo_dsub) | (with_reducible apply wr_dcomp)
  | (with_reducible apply bif_t) | (with_reducible apply bif_f) | (with_reducible apply bif_n) | ((with_reducible apply bif_dt); (· exact rfl)) | ((with_reducible apply bif_cf); (· decide)) | ((with_reducible apply bif_ct); (· decide)))
def rT (top : Nat) (s : List Int) : List Va := (List.range (2 ^ top)).map (callV s top)
def DJ (S : Sto) (d : Nat) : Prop := ∀ kvs, S[d]? = some (.dct kvs) → (kvs.map Prod.snd).Nodup ∧ ∀ q ∈ kvs, ∃ r, q.2 = Va.loc r ∧ d < r
theorem DJ.nil {S : Sto} {d : Nat} (h : S[d]? = some (.dct [])) : DJ S d := fun kvs e => by
  rw [h] at e
  cases e
  exact ⟨List.nodup_nil, fun q hq => nomatch hq⟩
theorem DJ.eq {S T : Sto} {d : Nat} (h : DJ S d) {kvs : List (Va × Va)} (e : S[d]? = some (.dct kvs)) (e2 : T[d]? = some (.dct kvs)) : DJ T d := fun kvs' z => by
  rw [e2] at z
  cases z
  exact h _ e
theorem dj_new {S T : Sto} {d r : Nat} {P : List (List Int)} {R : List Int → List Va} {kvs : List (Va × Va)} {w : Va} (hD : DInv S d P R) (nd : P.Nodup) (hJ : DJ S d) (h0 : S[d]? = some (.dct kvs)) (hr : S.length ≤ r) (hT : T[d]? = some (.dct (kvs ++ [(w, .loc r)]))) : DJ T d := fun kvs' e => by
  rw [hT] at e
  cases e
  refine ⟨?_, fun q hq => ?_⟩
  rotate_left
  · rcases List.mem_append.mp hq with m | m
    · exact (hJ _ h0).2 q m
    · rw [List.mem_singleton.mp m]
      exact ⟨r, rfl, by have := (List.getElem?_eq_some_iff.mp h0).1; omega⟩
  rw [List.map_append]
  refine List.nodup_append.mpr ⟨(hJ _ h0).1, by simp, fun a ha b hb z => ?_⟩
  obtain ⟨q, hq, rfl⟩ := List.mem_map.mp ha
  have hb' : b = .loc r := by simpa using hb
  obtain ⟨kvs2, g1, g2, g3, _⟩ := hD.ex
  rw [h0] at g1
  cases g1
  obtain ⟨s, r', _, rfl, _, h2, _⟩ := pair_of nd g2 g3 hq
  rw [hb'] at z
  have := Va.loc.inj z
  have := (List.getElem?_eq_some_iff.mp h2).1
  omega
theorem row_ok {s : List Int} (h : Sh s) {top : Nat} (ht : top ≤ 5) (hm : mxN s ≤ top) {S : Sto} {r : Nat} (hr : S[r]? = some (.lst [])) (d0 d2 d4 d7 d8 d9 : Option Va) :
    ∃ e4 e7 e8 e9 T, sfor (irg1 (ycall 1 m__law_power (acons (xvar 1) anil))) (pname 4) l__law_turned_rule_1 (E11 d0 (some (.int (top : Int))) d2 (some (tI' s)) d4 (some (.loc r)) (some (.int ((2 ^ mnN s : Nat) : Int))) d7 d8 d9 none) S = .nx (E11 d0 (some (.int (top : Int))) d2 (some (tI' s)) e4 (some (.loc r)) (some (.int ((2 ^ mnN s : Nat) : Int))) e7 e8 e9 none) T ∧ T[r]? = some (.lst (rT top s)) ∧ KeepB r S T := by
  obtain ⟨T1, p1, k1⟩ := powN_ok (w := top) ht S
  have pl := pw_le ht
  obtain ⟨δ2, T, f2, ⟨e4, e7, e8, e9, rfl⟩, g1, g2⟩ := for_rng (put := pname 4) (body := l__law_turned_rule_1) (lo := 0) (n := 2 ^ top) (δ := E11 d0 (some (.int (top : Int))) d2 (some (tI' s)) d4 (some (.loc r)) (some (.int ((2 ^ mnN s : Nat) : Int))) d7 d8 d9 none) (S := T1)
    (fun j δ S' => (∃ e4 e7 e8 e9, δ = E11 d0 (some (.int (top : Int))) d2 (some (tI' s)) e4 (some (.loc r)) (some (.int ((2 ^ mnN s : Nat) : Int))) e7 e8 e9 none) ∧ S'[r]? = some (.lst ((List.range j).map (callV s top))) ∧ KeepB r T1 S')
    ⟨⟨_, _, _, _, rfl⟩, k1 _ _ hr, KeepB.refl _ _⟩ (fun j δ S' hj ⟨⟨e4, e7, e8, e9, ed⟩, g1, g2⟩ => by
      subst ed
      obtain ⟨f7, f8, f9, T', t1, t2, t3⟩ := row_turn h ht hm hj g1 (by rw [List.length_map, List.length_range]; omega) d0 d2 e7 e8 e9
      have z0 : (0 : Int) + (j : Nat) = j := Int.zero_add _
      rw [z0]
      refine ⟨_, rfl, _, T', .inl t1, ⟨_, _, _, _, rfl⟩, ?_, g2.trans t3⟩
      rw [List.range_succ, List.map_append]
      exact t2)
  exact ⟨e4, e7, e8, e9, T, (sfor_at (irg1_at (n := 2 ^ top) (fn_at (one_at (var_at rfl)) rfl p1) (bigN (by omega)) (Int.toNat_natCast _))).trans f2, g1, k1.but.trans g2⟩
theorem dput_at {S : Sto} {d : Nat} {kvs : List (Va × Va)} {s : List Int} (h : Sh s) {w : Va} {δ : Rz.Env} (hd : S[d]? = some (.dct kvs)) (hn : valD kvs (keyS s) = none) (hz : kvs.length ≤ 1000) : oDput (.loc d) (tI' s) w δ S = .nx δ (S.set d (.dct (kvs ++ [(tI' s, w)]))) := by
  have e : dctW (.loc d) S = some kvs := by
    show (match S[d]? with | some (.dct kvs) => some kvs | _ => none) = _
    rw [hd]
  have st : stD kvs (tI' s) (keyS s) w = kvs ++ [(tI' s, w)] := by
    unfold stD
    rw [hn]
    rfl
  unfold oDput
  dsimp only
  rw [e, keyT_sh h]
  dsimp only
  rw [decide_eq_true (keyS_depth h), fits_of (by omega), st]
  rfl
theorem shape_turn {s : List Int} (h : Sh s) {top : Nat} (ht : top ≤ 5) (hm : mxN s ≤ top) {S : Sto} {d : Nat} {P : List (List Int)} (hD : DInv S d P (rT top)) (hP : s ∉ P) (hz : P.length ≤ 1000) (d0 d4 d5 d6 d7 d8 d9 : Option Va) :
    ∃ e4 e5 e6 e7 e8 e9 T, l__law_turned_rule_0 (E11 d0 (some (.int (top : Int))) (some (.loc d)) (some (tI' s)) d4 d5 d6 d7 d8 d9 none) S = .nx (E11 d0 (some (.int (top : Int))) (some (.loc d)) (some (tI' s)) e4 e5 e6 e7 e8 e9 none) T ∧ DInv T d (P ++ [s]) (rT top) ∧ KeepB d S T ∧ (P.Nodup → DJ S d → DJ T d) := by
  obtain ⟨_, mm, m5, _⟩ := mn_le h
  obtain ⟨kvs, h1, h2, h3, h4⟩ := hD.ex
  have zl : kvs.length = P.length := by
    have := congrArg List.length h2
    rw [List.length_map, List.length_map] at this
    exact this
  have dl := (List.getElem?_eq_some_iff.mp h1).1
  generalize eS1 : S ++ [Ob.lst []] = S1
  have k1 : Keep S S1 := by rw [← eS1]; exact Keep.app _ _
  have a1 : S1[S.length]? = some (.lst []) := by rw [← eS1]; exact get_new _ _ _
  obtain ⟨T1, p1, k2⟩ := powN_ok (w := mnN s) (by omega) S1
  have em := lst_at (δ := E11 d0 (some (.int (top : Int))) (some (.loc d)) (some (tI' s)) d4 d5 d6 d7 d8 d9 none) (S := S) nil_at (Nat.zero_le _)
  rw [eS1] at em
  have q1 : sasg (ptup 2 (pcons (pname 5) (pcons (pname 6) pnil))) (xtup (acons (xlst anil) (acons (ycall 1 m__law_power (acons (xcall fMin1 (acons (xvar 3) anil)) anil)) anil))) (E11 d0 (some (.int (top : Int))) (some (.loc d)) (some (tI' s)) d4 d5 d6 d7 d8 d9 none) S =
      .nx (E11 d0 (some (.int (top : Int))) (some (.loc d)) (some (tI' s)) d4 (some (.loc S.length)) (some (.int ((2 ^ mnN s : Nat) : Int))) d7 d8 d9 none) T1 :=
    asg_at (tup_at (us := [.loc S.length, .int ((2 ^ mnN s : Nat) : Int)]) (cons_at em (one_at (fn_at (one_at (call_at (one_at (var_at rfl)) (min1_tup h S1))) rfl p1))) (by show 2 ≤ _; omega)) rfl
  obtain ⟨e4, e7, e8, e9, T2, f1, f2, f3⟩ := row_ok h ht hm (k2 _ _ a1) d0 (some (.loc d)) d4 d7 d8 d9
  have k12 : Keep S T2 := fun i o e => by
    have il := (List.getElem?_eq_some_iff.mp e).1
    exact f3 _ _ (by omega) (k2 _ _ (k1 _ _ e))
  have d2 := k12 _ _ h1
  have q3 : sdsub (xvar 2) (xvar 3) (xvar 5) (E11 d0 (some (.int (top : Int))) (some (.loc d)) (some (tI' s)) e4 (some (.loc S.length)) (some (.int ((2 ^ mnN s : Nat) : Int))) e7 e8 e9 none) T2 = .nx (E11 d0 (some (.int (top : Int))) (some (.loc d)) (some (tI' s)) e4 (some (.loc S.length)) (some (.int ((2 ^ mnN s : Nat) : Int))) e7 e8 e9 none) (T2.set d (.dct (kvs ++ [(tI' s, .loc S.length)]))) :=
    dput_at h d2 (h4 s hP) (by omega)
  refine ⟨e4, _, _, e7, e8, e9, _, seq_at q1 (seq_at f1 q3), ⟨_, List.getElem?_set_self (List.getElem?_eq_some_iff.mp d2).1, by rw [List.map_append, List.map_append, h2]; rfl, fun u hu => ?_, fun u hu => ?_⟩, k12.but.trans (KeepB.set _ _ _), fun nd hJ => dj_new hD nd hJ h1 (Nat.le_refl _) (List.getElem?_set_self (List.getElem?_eq_some_iff.mp d2).1)⟩
  · rcases List.mem_append.mp hu with z | z
    · obtain ⟨r, r1, r2, r3⟩ := h3 u z
      exact ⟨r, r1, by rw [valD_app, r2]; rfl, by rw [List.getElem?_set_ne (Ne.symm r1)]; exact k12 _ _ r3⟩
    · rw [List.mem_singleton.mp z]
      exact ⟨S.length, by omega, by rw [valD_app, h4 s hP, if_pos rfl]; rfl, by rw [List.getElem?_set_ne (by omega)]; exact f2⟩
  · rw [List.mem_append, List.mem_singleton] at hu
    rw [valD_app, h4 u (fun z => hu (.inl z)), if_neg (fun z => hu (.inr z.symm))]
    rfl
theorem turned_rule_ok {L : List (List Int)} (sh : ∀ s ∈ L, Sh s) (nd : L.Nodup) (ne : L ≠ []) (hz : L.length ≤ 100) {S : Sto} {l : Nat} (hl : S[l]? = some (.lst (L.map tI'))) :
    ∃ d T, m__law_turned_rule [.loc l] S = .ok (.tup [.int ((2 ^ topN L : Nat) : Int), .loc d]) T ∧ DInv T d L (rT (topN L)) ∧ DJ T d ∧ Keep S T ∧ S.length ≤ d := by
  obtain ⟨tm, t5, _⟩ := topN_spec sh ne
  obtain ⟨T1, p1, k1⟩ := top_ok sh ne (by omega) (v := 3) (x := xvar 0) (δ := E11 (some (.loc l)) none none none none none none none none none none) (S := S) (var_at rfl) hl (fun w S' => rfl)
  have q1 := set_at (i := 1) p1
  generalize eT2 : T1 ++ [Ob.dct []] = T2
  have k2 : Keep T1 T2 := by rw [← eT2]; exact Keep.app _ _
  have a2 : T2[T1.length]? = some (.dct []) := by rw [← eT2]; exact get_new _ _ _
  have q2 : sset 2 xdict0 (E11 (some (.loc l)) (some (.int (topN L : Int))) none none none none none none none none none) T1 = .nx (E11 (some (.loc l)) (some (.int (topN L : Int))) (some (.loc T1.length)) none none none none none none none none) T2 := by
    have := set_at (i := 2) (δ := E11 (some (.loc l)) (some (.int (topN L : Int))) none none none none none none none none none) (show xdict0 _ T1 = .ok (.loc T1.length) (T1 ++ [Ob.dct []]) from rfl)
    rw [eT2] at this
    exact this
  have l2 := (k1.trans k2) _ _ hl
  have ld : l ≠ T1.length := by
    have := (List.getElem?_eq_some_iff.mp (k1 _ _ hl)).1
    omega
  obtain ⟨δ3, T3, f3, ⟨e3, e4, e5, e6, e7, e8, e9, rfl⟩, g1, gJ, g2⟩ := for_loc (put := pname 3) (body := l__law_turned_rule_0) (l := l) (ws := L.map tI') (δ := E11 (some (.loc l)) (some (.int (topN L : Int))) (some (.loc T1.length)) none none none none none none none none) (S := T2)
    (fun j δ S' => (∃ e3 e4 e5 e6 e7 e8 e9, δ = E11 (some (.loc l)) (some (.int (topN L : Int))) (some (.loc T1.length)) e3 e4 e5 e6 e7 e8 e9 none) ∧ DInv S' T1.length (L.take j) (rT (topN L)) ∧ DJ S' T1.length ∧ KeepB T1.length T2 S')
    ⟨⟨_, _, _, _, _, _, _, rfl⟩, ⟨[], a2, rfl, (fun s hs => nomatch hs), fun s _ => rfl⟩, DJ.nil a2, KeepB.refl _ _⟩ (fun j δ S' p => getL_lst (p.2.2.2 _ _ ld l2)) (fun j w δ S' hw ⟨⟨e3, e4, e5, e6, e7, e8, e9, ed⟩, g1, gJ, g2⟩ => by
      subst ed
      rw [List.getElem?_map] at hw
      obtain ⟨s, hs, rfl⟩ := Option.map_eq_some_iff.mp hw
      obtain ⟨jl, es⟩ := List.getElem?_eq_some_iff.mp hs
      have sm : s ∈ L := List.mem_of_getElem? hs
      have tk : L.take (j + 1) = L.take j ++ [s] := by rw [List.take_succ, hs]; rfl
      have nt : s ∉ L.take j := fun hm => by
        obtain ⟨i, hi, e⟩ := List.getElem_of_mem hm
        rw [List.length_take] at hi
        rw [List.getElem_take] at e
        have := (List.getElem_inj nd).mp (e.trans es.symm)
        omega
      obtain ⟨a4, a5, a6, a7, a8, a9, T', t1, t2, t3, tJ⟩ := shape_turn (sh s sm) t5 (tm s sm) g1 nt (by rw [List.length_take]; omega) (some (.loc l)) e4 e5 e6 e7 e8 e9
      refine ⟨_, rfl, _, T', .inl t1, ⟨_, _, _, _, _, _, _, rfl⟩, ?_, tJ (nd.sublist (List.take_sublist _ _)) gJ, g2.trans t3⟩
      rw [tk]
      exact t2)
  rw [List.length_map, List.take_length] at g1
  obtain ⟨T4, p4, k4⟩ := powN_ok (w := topN L) t5 T3
  have r : b__law_turned_rule (E11 (some (.loc l)) none none none none none none none none none none) S = .rt (.tup [.int ((2 ^ topN L : Nat) : Int), .loc T1.length]) T4 := by
    unfold b__law_turned_rule
    exact seq_at q1 (seq_at q2 (seq_at ((sfor_at (isq_loc (var_at rfl) (getL_lst l2))).trans f3) (ret_at (tup_at (cons_at (fn_at (one_at (var_at rfl)) rfl p4) (one_at (var_at rfl))) (by show 2 ≤ _; omega)))))
  refine ⟨T1.length, T4, ?_, g1.keep k4, by obtain ⟨kv, z, _⟩ := g1.ex; exact gJ.eq z (k4 _ _ z), fun i o e => ?_, Keep.len k1⟩
  · show (b__law_turned_rule (E11 (some (.loc l)) none none none none none none none none none none) S).fin = _
    rw [r]
    rfl
  · have il := (List.getElem?_eq_some_iff.mp (k1 _ _ e)).1
    exact k4 _ _ (g2 _ _ (by omega) ((k1.trans k2) _ _ e))
theorem spt_incr : ∀ s ∈ allSh, ∀ k, k < 32 → incr (spt s k) = true := by decide +kernel
theorem spt_len {s : List Int} (h : Sh s) (k : Nat) : (spt s k).length ≤ 64 := by
  have : (spt s k).length ≤ (plc s).length := List.length_filter_le _ _
  have := plcP_len h s.length (Nat.le_refl _)
  have := Sh.len2 h
  unfold plc at *
  omega
def lT (s : List Int) (top k : Nat) : Option Nat := if farN s top k < 2 ^ top then some (bitsN (farN s top k) top) else none
theorem callV_eq (s : List Int) (top k : Nat) : callV s top k = cV (spt s k) (lT s top k) := by
  unfold callV cV ltr lT lV
  by_cases c : farN s top k < 2 ^ top
  · rw [if_pos c, if_pos c]
  · rw [if_neg c, if_neg c]
theorem turned_row {s : List Int} (h : Sh s) {top : Nat} (ht : top ≤ 5) (hm : mxN s ≤ top) : RowOk (2 ^ top) s (rT top s) := by
  have pl := pw_le ht
  refine ⟨by unfold rT; rw [List.length_map, List.length_range], fun v hv => ?_⟩
  obtain ⟨k, hk, rfl⟩ := List.mem_map.mp hv
  have kl := List.mem_range.mp hk
  refine ⟨spt s k, lT s top k, callV_eq s top k, fun a ha => (List.mem_filter.mp ha).1, spt_incr s h.all k (by omega), spt_len h k, fun j hj => ?_⟩
  unfold lT at hj
  by_cases c : farN s top k < 2 ^ top
  · rw [if_pos c] at hj
    cases hj
    exact bits_lt top (by omega) _ c
  · rw [if_neg c] at hj; cases hj
end Law
namespace Law
open PySem PySem.Spec PyProof.Rows L2 Rz PySem.W
local macro_rules | `(tactic| array_mem_dec) => `(tactic| first | assumption | ((with_reducible refine Keep.at' (by assumption) ?_); array_mem_dec) | ((with_reducible refine KeepB.at' (by assumption) (by first | assumption | omega) ?_); array_mem_dec))
local macro_rules | `(tactic| array_get_dec) => `(tactic| first
  | (with_reducible apply wo_seq) | (with_reducible apply wo_set) | (with_reducible apply wo_ret) | (with_reducible apply wo_if) | (with_reducible apply wo_exp)
  | (with_reducible apply wr_lit) | ((with_reducible apply wr_var); exact rfl) | (with_reducible apply wr_bin) | (with_reducible apply wr_binB) | (with_reducible apply wr_call) | (with_reducible apply wr_cons) | (with_reducible apply wr_nil)
  | (with_reducible apply wr_fn) | (with_reducible apply wr_not) | (with_reducible apply wr_and) | (with_reducible apply wr_or) | (with_reducible apply wr_ite) | (with_reducible apply wr_boo) | (with_reducible apply wr_tru) | (with_reducible apply wr_yes)
  | (with_reducible apply wr_tup) | (with_reducible apply wr_lst) | (with_reducible apply wr_un) | (with_reducible apply wr_isN) | (with_reducible apply wr_andV) | (with_reducible apply wr_orV) | (with_reducible apply wr_notV) | (with_reducible apply wr_orT) | (with_reducible apply wr_chain)
  | (with_reducible apply wr_addI) | (with_reducible apply wr_subI) | ((with_reducible apply wr_mulR); (· decide); (· decide)) | ((with_reducible apply wr_mulL); (· decide); (· decide)) | ((with_reducible apply wr_divI); (· omega); (· omega)) | ((with_reducible apply wr_modI); (· omega)) | (with_reducible apply wr_neg)
  | (with_reducible apply wr_lt) | (with_reducible apply wr_le) | (with_reducible apply wr_gt) | (with_reducible apply wr_ge) | ((with_reducible apply wr_eqS); exact rfl) | (with_reducible apply wr_ne) | (with_reducible apply wr_isB) | (with_reducible apply wr_isnB)
  | ((with_reducible apply wr_ixT); (· exact rfl)) | ((with_reducible apply wr_ixL); (· array_mem_dec); (· exact rfl)) | (with_reducible apply wr_trB) | ((with_reducible apply wr_trL); array_mem_dec) | ((with_reducible apply wr_lenL); array_mem_dec) | (with_reducible apply wr_lenT) | (with_reducible apply wr_intI) | (with_reducible apply wr_abs) | (with_reducible apply wr_min2)
  | (with_reducible apply wo_nx) | (with_reducible apply wo_retN) | (with_reducible apply wo_raise) | (with_reducible apply wo_asg) | (with_reducible apply wo_par) | (with_reducible apply wo_sub) | (with_reducible apply wo_for) | (with_reducible apply wr_isq) | (with_reducible apply wr_irg1) | (with_reducible apply wr_comp) | (with_reducible apply wr_met) | (with_reducible apply wr_met0)
  | ((with_reducible apply fnGo); (· exact rfl)) | ((with_reducible apply tupGo); (· simp only [List.length_cons, List.length_nil, Nat.reduceAdd, Nat.reduceLeDiff])) | ((with_reducible apply lstGo); (· simp only [List.length_cons, List.length_nil, Nat.reduceAdd, Nat.reduceLeDiff])) | ((with_reducible apply parGo); (· exact rfl)) | ((with_reducible apply asgGo); (· exact rfl)) | (with_reducible apply blGo)
  | ((with_reducible apply metGo); (· array_mem_dec)) | (with_reducible apply wr_fld) | ((with_reducible apply fldGo); (· array_mem_dec); (· exact rfl)) | (with_reducible apply wr_new) | (with_reducible apply wr_prop) | ((with_reducible apply propGo); (· array_mem_dec)) | (with_reducible apply isqT) | ((with_reducible apply isqL); (· array_mem_dec))
  | (with_reducible apply wo_try) | ((with_reducible apply wr_isX); (· array_mem_dec); (· first | exact rfl | decide)) | ((with_reducible apply wr_isXT); (· array_mem_dec); (· first | exact rfl | decide))
  | (with_reducible apply wr_neO) | ((with_reducible apply wr_eqO); (· array_mem_dec); (· array_mem_dec)) | ((with_reducible apply wr_isC); (· array_mem_dec)) | ((with_reducible apply wr_isi); (· first | exact rfl | (apply kindL; array_mem_dec)); (· decide)) | (with_reducible apply wr_sl) | (with_reducible apply wr_nop) | (with_reducible apply wo_dsub) | (with_reducible apply wr_dcomp)
  | (with_reducible apply bif_t) | (with_reducible apply bif_f) | (with_reducible apply bif_n) | ((with_reducible apply bif_dt); (· exact rfl)) | ((with_reducible apply bif_cf); (· decide)) | ((with_reducible apply bif_ct); (· decide)))
theorem ix_sh {s : List Int} {i : Nat} (hi : i < s.length) : atI (s.map Va.int) (0 + (i : Int)) = some (.int (s.getD i 0)) := by
  have := atI_nat (xs := s.map Va.int) (j := i) (v := .int (s.getD i 0)) (by rw [List.getElem?_map, List.getElem?_eq_getElem hi, List.getD_eq_getElem?_getD, List.getElem?_eq_getElem hi]; rfl)
  rw [show (0 : Int) + (i : Int) = (i : Int) by omega]
  exact this
def bwI (s : List Int) (k n : Nat) : List (List Int) := ((List.range n).filter fun t => decide (k < 2 ^ (s.getD t 0).toNat)).map fun (t : Nat) => [(t : Int), (k : Int)]
def bw (s : List Int) (k : Nat) : List (List Int) := bwI s k s.length
theorem bwI_succ (s : List Int) (k i : Nat) : bwI s k (i + 1) = bwI s k i ++ (if k < 2 ^ (s.getD i 0).toNat then [[(i : Int), (k : Int)]] else []) := by
  unfold bwI
  rw [List.range_succ, List.filter_append, List.map_append]
  by_cases c : k < 2 ^ (s.getD i 0).toNat
  · rw [if_pos c, show [i].filter (fun t => decide (k < 2 ^ (s.getD t 0).toNat)) = [i] by simp only [List.filter, decide_eq_true c]]; rfl
  · rw [if_neg c, show [i].filter (fun t => decide (k < 2 ^ (s.getD t 0).toNat)) = [] by simp only [List.filter, decide_eq_false c]]; rfl
theorem bw_len (s : List Int) (k : Nat) : (bw s k).length ≤ s.length := by
  unfold bw bwI
  rw [List.length_map]
  exact Nat.le_trans (List.length_filter_le _ _) (by rw [List.length_range]; exact Nat.le_refl _)
def lU (s : List Int) (k : Nat) : Option Nat := if k + 1 < 2 ^ mxN s then some (k + 1) else none
def upC (s : List Int) (k : Nat) : Va := cV (bw s k) (lU s k)
theorem Sh.mx {s : List Int} (h : Sh s) : mxN s ≤ 5 := (mn_le h).2.2.1
theorem bw_dec : ∀ s ∈ allSh, ∀ k, k < 64 → ((bw s k).all fun a => (plc s).contains a) = true ∧ incr (bw s k) = true ∧ (bw s k).length ≤ 64 := by decide +kernel
def rUp (top : Nat) (s : List Int) : List Va := (List.range (2 ^ top)).map (upC s)
theorem bw_call {s : List Int} (h : Sh s) {n k : Nat} (hk : k < 64) (l : Option Nat) (hl : ∀ j, l = some j → j < n) : CallOk n s (cV (bw s k) l) (bw s k) l := by
  obtain ⟨a, b, c⟩ := bw_dec s h.all k hk
  refine ⟨rfl, fun x hx => ?_, b, c, hl⟩
  have := List.all_eq_true.mp a x hx
  exact List.contains_iff_mem.mp this
theorem up_row {s : List Int} (h : Sh s) {top : Nat} (ht : top ≤ 5) (hm : mxN s ≤ top) : RowOk (2 ^ top) s (rUp top s) := by
  have pl := pw_le ht
  have pm : 2 ^ mxN s ≤ 2 ^ top := Nat.pow_le_pow_right (by decide) hm
  refine ⟨by unfold rUp; rw [List.length_map, List.length_range], fun v hv => ?_⟩
  obtain ⟨k, hk, rfl⟩ := List.mem_map.mp hv
  have kl := List.mem_range.mp hk
  refine ⟨_, _, bw_call h (by omega) (lU s k) fun j hj => ?_⟩
  unfold lU at hj
  by_cases c : k + 1 < 2 ^ mxN s
  · rw [if_pos c] at hj; cases hj; omega
  · rw [if_neg c] at hj; cases hj
theorem dinv_new {S : Sto} {d r : Nat} {R : List Int → List Va} {P : List (List Int)} {s : List Int} (hD : DInv S d P R) (hs : s ∉ P) (hr : S[r]? = some (.lst (R s))) (rd : r ≠ d) :
    ∃ kvs, S[d]? = some (.dct kvs) ∧ kvs.length = P.length ∧ stD kvs (tI' s) (keyS s) (.loc r) = kvs ++ [(tI' s, .loc r)] ∧ ∀ T, KeepB d S T → T[d]? = some (.dct (kvs ++ [(tI' s, .loc r)])) → DInv T d (P ++ [s]) R := by
  obtain ⟨kvs, h1, h2, h3, h4⟩ := hD.ex
  have kl : kvs.length = P.length := by
    have := congrArg List.length h2
    rw [List.length_map, List.length_map] at this
    exact this
  refine ⟨kvs, h1, kl, ?_, fun T kb hT => ⟨_, hT, by rw [List.map_append, List.map_append, h2]; rfl, fun u hu => ?_, fun u hu => ?_⟩⟩
  · unfold stD
    rw [h4 s hs]
    rfl
  · rcases List.mem_append.mp hu with z | z
    · obtain ⟨r', r1, r2, r3⟩ := h3 u z
      exact ⟨r', r1, by rw [valD_app, r2]; rfl, kb _ _ r1 r3⟩
    · rw [List.mem_singleton.mp z]
      exact ⟨r, rd, by rw [valD_app, h4 s hs, if_pos rfl]; rfl, kb _ _ rd hr⟩
  · rw [List.mem_append, List.mem_singleton] at hu
    rw [valD_app, h4 u (fun z => hu (.inl z)), if_neg (fun z => hu (.inr z.symm))]
    rfl
theorem DInv.lt {S : Sto} {d : Nat} {P : List (List Int)} {R : List Int → List Va} (h : DInv S d P R) : d < S.length := by
  obtain ⟨_, h1, _⟩ := h.ex
  exact lt_of h1
theorem bwL {a b c : Nat} {δ : Rz.Env} {s : List Int} (h : Sh s) (k : Nat) (h0 : δ[b]? = some (some (tI' s))) (ha : ∀ w, ((wipeE δ [c]).set c (some w))[a]? = some (some (.int (k : Int)))) (hb : ∀ w, ((wipeE δ [c]).set c (some w))[b]? = some (some (tI' s))) (hc : ∀ w, ((wipeE δ [c]).set c (some w))[c]? = some (some w)) (S : Sto) :
    wr (xcomp [c] (irg1 (xcall fLen (acons (xvar b) anil))) (pname c) (xbinB cLt (xvar a) (ycall 1 m__law_power (acons (xbin oIx (xvar b) (xvar c)) anil))) (xtup (acons (xvar c) (acons (xvar a) anil))) δ S) (fun v T => ∃ d, v = .loc d ∧ S.length ≤ d ∧ T[d]? = some (.lst ((bw s k).map tI')) ∧ Keep S T) noE := by
  have l2 := Sh.len2 h
  have w5 := Sh.wid h
  refine wr_comp (wr_irg1 (wr_call (wr_cons (wr_var h0 (wr_nil (wr_lenT ?_))))))
  refine rngGo s.length (by simp) (by omega) ?_
  intro D T eD eT kT hD
  refine wr_cR (by omega) (fun i acc U => acc = (bwI s k i).map tI' ∧ Keep S U) ⟨rfl, kT⟩ hD (fun i acc U hi ⟨ha', kU⟩ hU => ⟨_, rfl, ?_⟩) (fun acc U ⟨ha', kU⟩ hU => ⟨D, rfl, by omega, by rw [hU, ha']; rfl, kU⟩)
  refine wr_binB (wr_var (ha _) (wr_fn (wr_cons (wr_bin (wr_var (hb _) (wr_var (hc _) (wr_ixT (ix_sh hi) (wr_nil (fnGo rfl ?_)))))))))
  have wi := w5 _ (getD_mem hi)
  have pq := powN_ok (w := (s.getD i 0).toNat) (by omega) U
  rw [show (((s.getD i 0).toNat : Nat) : Int) = s.getD i 0 by omega] at pq
  refine wr_ex pq fun V kV => ?_
  refine wr_lt ?_
  have nx := bwI_succ s k i
  refine bif_d (fun c => ?_) (fun c => ?_)
  · refine wr_tup (wr_cons (wr_var (hc _) (wr_cons (wr_var (ha _) (wr_nil (tupGo (by simp) ?_))))))
    refine ⟨kV _ _ hU, fun T' _ kb hT' => ⟨?_, Keep.kb (Keep.trans kU kV) (by omega) kb⟩⟩
    rw [nx, if_pos (by omega), List.map_append, ha', show (0 : Int) + (i : Int) = (i : Int) by omega]
    rfl
  · refine ⟨kV _ _ hU, ?_, Keep.trans kU kV⟩
    rw [nx, if_neg (by omega), List.append_nil, ha']
theorem cnt_turn {s : List Int} (h : Sh s) (k : Nat) {S : Sto} {r : Nat} {xs : List Va} (hr : S[r]? = some (.lst xs)) (hz : xs.length < 16777216) (d0 d1 d2 d6 d7 : Option Va) :
    wo (l__law_counted_1 [d0, d1, d2, some (tI' s), some (.loc r), some (.int (k : Int)), d6, d7] S) (fun δ T => (∃ e6 e7, δ = [d0, d1, d2, some (tI' s), some (.loc r), some (.int (k : Int)), e6, e7]) ∧ T[r]? = some (.lst (xs ++ [upC s k])) ∧ KeepB r S T) noK := by
  have m5 := h.mx
  refine wl__law_counted_1 ?_
  repeat array_get_dec
  refine wr_of (max1_tup h S) ?_
  repeat array_get_dec
  refine wr_ex (powN_ok m5 S) fun T1 k1 => ?_
  repeat array_get_dec
  have fin : ∀ w, w = lV (lU s k) → wo (sexp (xmetL oApp (xvar 4) (acons (xtup (acons (xcall fTup (acons (xcomp [7] (irg1 (xcall fLen (acons (xvar 3) anil))) (pname 7) (xbinB cLt (xvar 5) (ycall 1 m__law_power (acons (xbin oIx (xvar 3) (xvar 7)) anil))) (xtup (acons (xvar 7) (acons (xvar 5) anil)))) anil)) (acons (xvar 6) anil))) anil)) [d0, d1, d2, some (tI' s), some (.loc r), some (.int (k : Int)), some w, d7] T1) (fun δ T => (∃ e6 e7, δ = [d0, d1, d2, some (tI' s), some (.loc r), some (.int (k : Int)), e6, e7]) ∧ T[r]? = some (.lst (xs ++ [upC s k])) ∧ KeepB r S T) noK := by
    rintro w rfl
    have hr1 := k1 _ _ hr
    refine wo_exp (wr_met (wr_var rfl (metGo hr1 (wr_cons (wr_tup (wr_cons (wr_call (wr_cons ?_))))))))
    refine (bwL h k rfl (fun _ => rfl) (fun _ => rfl) (fun _ => rfl) T1).use fun v T ⟨d, ev, hd, hT, kT⟩ => ?_
    subst ev
    have := bw_len s k
    have := Sh.len2 h
    refine wr_nil (wr_tupL hT (by rw [List.length_map]; omega) ?_)
    repeat array_get_dec
    refine wr_app (kT _ _ hr1) hz fun U _ kb hU => ?_
    exact ⟨⟨_, _, rfl⟩, hU, (Keep.trans k1 kT).but.trans kb⟩
  refine bif_d (fun c => ?_) (fun c => ?_)
  · repeat (first | exact fin _ (by unfold lU; rw [if_pos (by omega)]; rfl) | array_get_dec)
  · repeat (first | exact fin _ (by unfold lU; rw [if_neg (by omega)]; rfl) | array_get_dec)
theorem take_new {α : Type} {L : List α} (nd : L.Nodup) {j : Nat} {s : α} (hs : L[j]? = some s) : s ∈ L ∧ s ∉ L.take j ∧ L.take (j + 1) = L.take j ++ [s] := by
  obtain ⟨jl, es⟩ := List.getElem?_eq_some_iff.mp hs
  refine ⟨List.mem_of_getElem? hs, fun hm => ?_, by rw [List.take_succ, hs]; rfl⟩
  obtain ⟨i, hi, e⟩ := List.getElem_of_mem hm
  rw [List.length_take] at hi
  rw [List.getElem_take] at e
  have := (List.getElem_inj nd).mp (e.trans es.symm)
  omega
theorem pow_ok' {top : Nat} (ht : top ≤ 5) (S : Sto) : ∃ T, m__law_power [.int (top : Int)] S = .ok (.int ((2 ^ top : Nat) : Int)) T ∧ Keep S T := powN_ok ht S
theorem cnt_shape {s : List Int} (h : Sh s) {top : Nat} (ht : top ≤ 5) {S : Sto} {d : Nat} {P : List (List Int)} (hD : DInv S d P (rUp top)) (hP : s ∉ P) (hz : P.length ≤ 1000) (d0 d4 d5 d6 d7 : Option Va) :
    wo (l__law_counted_0 [d0, some (.int (top : Int)), some (.loc d), some (tI' s), d4, d5, d6, d7] S) (fun δ T => (∃ e4 e5 e6 e7, δ = [d0, some (.int (top : Int)), some (.loc d), some (tI' s), e4, e5, e6, e7]) ∧ DInv T d (P ++ [s]) (rUp top) ∧ KeepB d S T ∧ (P.Nodup → DJ S d → DJ T d)) noK := by
  have pl := pw_le ht
  have dl := hD.lt
  refine wl__law_counted_0 ?_
  repeat array_get_dec
  intro r S1 er lr k1 hr
  repeat array_get_dec
  refine wr_ex (pow_ok' ht S1) fun S2 k2 => ?_
  refine rngGo (2 ^ top) rfl (by omega) ?_
  refine wo_rng (fun i δ U => (∃ e5 e6 e7, δ = [d0, some (.int (top : Int)), some (.loc d), some (tI' s), some (.loc r), e5, e6, e7]) ∧ U[r]? = some (.lst ((List.range i).map (upC s))) ∧ KeepB r S2 U) ⟨⟨_, _, _, rfl⟩, k2 _ _ hr, KeepB.refl _ _⟩ (fun i δ U hi ⟨⟨e5, e6, e7, ed⟩, hU, kU⟩ => ?_) (fun δ U ⟨⟨e5, e6, e7, ed⟩, hU, kU⟩ => ?_)
  · subst ed
    refine ⟨_, rfl, ?_⟩
    show wo (l__law_counted_1 [d0, some (.int (top : Int)), some (.loc d), some (tI' s), some (.loc r), some (.int (0 + (i : Int))), e6, e7] U) _ _
    rw [show (0 : Int) + (i : Int) = (i : Int) by omega]
    refine wo.use (cnt_turn h i hU (by rw [List.length_map, List.length_range]; omega) d0 _ _ e6 e7) fun δ' V ⟨⟨e6, e7, ed⟩, hV, kV⟩ => ?_
    refine ⟨⟨_, _, _, ed⟩, ?_, kU.trans kV⟩
    rw [List.range_succ, List.map_append]
    exact hV
  · subst ed
    have kSU : Keep S U := fun j o e => kU _ _ (by have := lt_of e; omega) (k2 _ _ (k1 _ _ e))
    obtain ⟨kvs, g1, g2, g3, g4⟩ := dinv_new (hD.keep kSU) hP hU (by omega)
    repeat array_get_dec
    refine wo_dput g1 (keyT_sh h) (keyS_depth h) (by omega) fun V _ kV hV => ?_
    rw [g3] at hV
    obtain ⟨kv0, z0, _⟩ := hD.ex
    have zz := kSU _ _ z0
    rw [g1] at zz
    cases zz
    exact ⟨⟨_, _, _, _, rfl⟩, g4 V kV hV, kSU.but.trans kV, fun nd hJ => dj_new hD nd hJ z0 (by omega) hV⟩
theorem counted_ok {L : List (List Int)} (sh : ∀ s ∈ L, Sh s) (nd : L.Nodup) (ne : L ≠ []) {S : Sto} {l : Nat} (hl : S[l]? = some (.lst (L.map tI'))) :
    ∃ d T, m__law_counted [.loc l] S = .ok (.tup [.int ((2 ^ topN L : Nat) : Int), .loc d]) T ∧ DInv T d L (rUp (topN L)) ∧ DJ T d ∧ Keep S T ∧ S.length ≤ d := by
  obtain ⟨tm, t5, _⟩ := topN_spec sh ne
  have l36 := nd_len L allSh nd fun s hs => (sh s hs).all
  have l36' : L.length ≤ 36 := l36
  have := ok_ex (r := m__law_counted [.loc l] S) (P := fun v T => ∃ d, v = .tup [.int ((2 ^ topN L : Nat) : Int), .loc d] ∧ DInv T d L (rUp (topN L)) ∧ DJ T d ∧ Keep S T ∧ S.length ≤ d) (by
    refine w__law_counted ?_
    refine wo_seq (wo_set ?_)
    refine wr_ex (top_ok sh ne (by omega) (v := 3) (x := xvar 0) (δ := [some (.loc l), none, none, none, none, none, none, none]) (S := S) (var_at rfl) hl (fun w S' => rfl)) fun T1 k1 => ?_
    refine wo_seq (wo_set (wr_dict0 fun d T2 ed l2 k2 hd => ?_))
    have l2' := k2 _ _ (k1 _ _ hl)
    have ld : l ≠ d := by
      have := lt_of (k1 _ _ hl)
      omega
    repeat array_get_dec
    refine wo_loc (fun j δ U => (∃ e3 e4 e5 e6 e7, δ = [some (.loc l), some (.int (topN L : Int)), some (.loc d), e3, e4, e5, e6, e7]) ∧ DInv U d (L.take j) (rUp (topN L)) ∧ DJ U d ∧ KeepB d T2 U) ⟨⟨_, _, _, _, _, rfl⟩, ⟨[], hd, rfl, (fun s hs => nomatch hs), fun s _ => rfl⟩, DJ.nil hd, KeepB.refl _ _⟩ (fun j δ U p => p.2.2.2 _ _ ld l2') (fun j w δ U hw ⟨⟨e3, e4, e5, e6, e7, ed'⟩, g1, gJ, g2⟩ => ?_) (fun δ U ⟨⟨e3, e4, e5, e6, e7, ed'⟩, g1, gJ, g2⟩ => ?_)
    · subst ed'
      rw [List.getElem?_map] at hw
      obtain ⟨s, hs, rfl⟩ := Option.map_eq_some_iff.mp hw
      obtain ⟨sm, nt, tk⟩ := take_new nd hs
      refine ⟨_, rfl, ?_⟩
      refine wo.use (cnt_shape (sh s sm) t5 g1 nt (by rw [List.length_take]; omega) (some (.loc l)) e4 e5 e6 e7) fun δ' V ⟨⟨e4, e5, e6, e7, ed⟩, h1, h2, h3⟩ => ?_
      rw [tk]
      exact ⟨⟨_, _, _, _, _, ed⟩, h1, h3 (nd.sublist (List.take_sublist _ _)) gJ, g2.trans h2⟩
    · subst ed'
      rw [List.length_map, List.take_length] at g1
      repeat array_get_dec
      refine wr_ex (pow_ok' t5 U) fun V kV => ?_
      repeat array_get_dec
      obtain ⟨kv, z, _⟩ := g1.ex
      exact ⟨d, rfl, g1.keep kV, gJ.eq z (kV _ _ z), fun i o e => kV _ _ (g2 _ _ (by have := lt_of (k1 _ _ e); omega) (k2 _ _ (k1 _ _ e))), by have := Keep.len k1; omega⟩)
  obtain ⟨v, T, e, d, rfl, h1, h2, h3⟩ := this
  exact ⟨d, T, e, h1, h2, h3⟩
end Law
namespace Law
open PySem PySem.Spec PyProof.Rows L2 Rz PySem.W
local macro_rules | `(tactic| array_mem_dec) => `(tactic| first | assumption | ((with_reducible refine Keep.at' (by assumption) ?_); array_mem_dec) | ((with_reducible refine KeepB.at' (by assumption) (by first | assumption | omega) ?_); array_mem_dec))
local macro_rules | `(tactic| array_get_dec) => `(tactic| first
  | (with_reducible apply wo_seq) | (with_reducible apply wo_set) | (with_reducible apply wo_ret) | (with_reducible apply wo_if) | (with_reducible apply wo_exp)
  | (with_reducible apply wr_lit) | ((with_reducible apply wr_var); exact rfl) | (with_reducible apply wr_bin) | (with_reducible apply wr_binB) | (with_reducible apply wr_call) | (with_reducible apply wr_cons) | (with_reducible apply wr_nil)
  | (with_reducible apply wr_fn) | (with_reducible apply wr_not) | (with_reducible apply wr_and) | (with_reducible apply wr_or) | (with_reducible apply wr_ite) | (with_reducible apply wr_boo) | (with_reducible apply wr_tru) | (with_reducible apply wr_yes)
  | (with_reducible apply wr_tup) | (with_reducible apply wr_lst) | (with_reducible apply wr_un) | (with_reducible apply wr_isN) | (with_reducible apply wr_andV) | (with_reducible apply wr_orV) | (with_reducible apply wr_notV) | (with_reducible apply wr_orT) | (with_reducible apply wr_chain)
  | (with_reducible apply wr_addI) | (with_reducible apply wr_subI) | ((with_reducible apply wr_mulR); (· decide); (· decide)) | ((with_reducible apply wr_mulL); (· decide); (· decide)) | ((with_reducible apply wr_divI); (· omega); (· omega)) | ((with_reducible apply wr_modI); (· omega)) | (with_reducible apply wr_neg)
  | (with_reducible apply wr_lt) | (with_reducible apply wr_le) | (with_reducible apply wr_gt) | (with_reducible apply wr_ge) | ((with_reducible apply wr_eqS); exact rfl) | (with_reducible apply wr_ne) | (with_reducible apply wr_isB) | (with_reducible apply wr_isnB)
  | ((with_reducible apply wr_ixT); (· exact rfl)) | ((with_reducible apply wr_ixL); (· array_mem_dec); (· exact rfl)) | (with_reducible apply wr_trB) | ((with_reducible apply wr_trL); array_mem_dec) | ((with_reducible apply wr_lenL); array_mem_dec) | (with_reducible apply wr_lenT) | (with_reducible apply wr_intI) | (with_reducible apply wr_abs) | (with_reducible apply wr_min2)
  | (with_reducible apply wo_nx) | (with_reducible apply wo_retN) | (with_reducible apply wo_raise) | (with_reducible apply wo_asg) | (with_reducible apply wo_par) | (with_reducible apply wo_sub) | (with_reducible apply wo_for) | (with_reducible apply wr_isq) | (with_reducible apply wr_irg1) | (with_reducible apply wr_comp) | (with_reducible apply wr_met) | (with_reducible apply wr_met0)
  | ((with_reducible apply fnGo); (· exact rfl)) | ((with_reducible apply tupGo); (· simp only [List.length_cons, List.length_nil, Nat.reduceAdd, Nat.reduceLeDiff])) | ((with_reducible apply lstGo); (· simp only [List.length_cons, List.length_nil, Nat.reduceAdd, Nat.reduceLeDiff])) | ((with_reducible apply parGo); (· exact rfl)) | ((with_reducible apply asgGo); (· exact rfl)) | (with_reducible apply blGo)
  | ((with_reducible apply metGo); (· array_mem_dec)) | (with_reducible apply wr_fld) | ((with_reducible apply fldGo); (· array_mem_dec); (· exact rfl)) | (with_reducible apply wr_new) | (with_reducible apply wr_prop) | ((with_reducible apply propGo); (· array_mem_dec)) | (with_reducible apply isqT) | ((with_reducible apply isqL); (· array_mem_dec))
  | (with_reducible apply wo_try) | ((with_reducible apply wr_isX); (· array_mem_dec); (· first | exact rfl | decide)) | ((with_reducible apply wr_isXT); (· array_mem_dec); (· first | exact rfl | decide))
  | (with_reducible apply wr_neO) | ((with_reducible apply wr_eqO); (· array_mem_dec); (· array_mem_dec)) | ((with_reducible apply wr_isC); (· array_mem_dec)) | ((with_reducible apply wr_isi); (· first | exact rfl | (apply kindL; array_mem_dec)); (· decide)) | (with_reducible apply wr_sl) | (with_reducible apply wr_nop) | (with_reducible apply wo_dsub) | (with_reducible apply wr_dcomp)
  | (with_reducible apply bif_t) | (with_reducible apply bif_f) | (with_reducible apply bif_n) | ((with_reducible apply bif_dt); (· exact rfl)) | ((with_reducible apply bif_cf); (· decide)) | ((with_reducible apply bif_ct); (· decide)))

theorem vle_lex : ∀ t : Nat, t < 2 → ∀ k : Nat, k < 32 → ∀ t' : Nat, t' < 2 → ∀ k' : Nat, k' < 32 → (vle (tI' [(t : Int), (k : Int)]) (tI' [(t' : Int), (k' : Int)]) == (HT.lexLt [(t : Int), (k : Int)] [(t' : Int), (k' : Int)] || (t == t' && k == k'))) = true := by decide +kernel
theorem plc_lt {s : List Int} (h : Sh s) {a : List Int} (ha : a ∈ plc s) : ∃ t k : Nat, t < 2 ∧ k < 32 ∧ a = [(t : Int), (k : Int)] := by
  obtain ⟨t, j, rfl, ht, hj⟩ := mem_plc ha
  have l2 := Sh.len2 h
  have w5 := Sh.wid h _ (getD_mem ht)
  have := pw_le (k := (s.getD t 0).toNat) (by omega)
  exact ⟨t, j, by omega, by omega, rfl⟩
theorem vle_plc {s : List Int} (h : Sh s) {a b : List Int} (ha : a ∈ plc s) (hb : b ∈ plc s) (v : vle (tI' a) (tI' b) = true) (n : a ≠ b) : HT.lexLt a b = true := by
  obtain ⟨t, k, t2, k2, rfl⟩ := plc_lt h ha
  obtain ⟨t', k', t2', k2', rfl⟩ := plc_lt h hb
  have e := vle_lex t t2 k k2 t' t2' k' k2'
  rw [v] at e
  have e2 := (beq_iff_eq.mp e).symm
  rw [Bool.or_eq_true] at e2
  rcases e2 with z | z
  · exact z
  · rw [Bool.and_eq_true, beq_iff_eq, beq_iff_eq] at z
    exact absurd (by rw [z.1, z.2]) n
theorem incr_of : ∀ {L : List (List Int)}, L.Pairwise (fun a b => HT.lexLt a b = true) → incr L = true
  | [], _ => rfl
  | [a], _ => rfl
  | a :: b :: r, h => by
    obtain ⟨h1, h2⟩ := List.pairwise_cons.mp h
    simp only [incr, Bool.and_eq_true]
    exact ⟨h1 b List.mem_cons_self, incr_of h2⟩
theorem srt_incr {s : List Int} (h : Sh s) {L : List (List Int)} (sub : ∀ a ∈ L, a ∈ plc s) (nd : L.Nodup) : ∃ L', vsort (L.map tI') = L'.map tI' ∧ L'.Perm L ∧ incr L' = true := by
  obtain ⟨L', e, p⟩ := perm_map (f := tI') tI_inj (vsort_perm (L.map tI'))
  refine ⟨L', e, p, incr_of ?_⟩
  have h1 := vsort_sorted (L.map tI')
  rw [e, List.pairwise_map] at h1
  have h2 : L'.Nodup := p.nodup_iff.mpr nd
  have sub' : ∀ a ∈ L', a ∈ plc s := fun a ha => sub a (p.mem_iff.mp ha)
  clear e p nd sub
  induction L' with
  | nil => exact List.Pairwise.nil
  | cons a r ih =>
    obtain ⟨x1, x2⟩ := List.pairwise_cons.mp h1
    obtain ⟨y1, y2⟩ := List.nodup_cons.mp h2
    refine List.pairwise_cons.mpr ⟨fun b hb => vle_plc h (sub' a List.mem_cons_self) (sub' b (List.mem_cons_of_mem _ hb)) (x1 b hb) fun z => y1 (z ▸ hb), ih x2 y2 fun b hb => sub' b (List.mem_cons_of_mem _ hb)⟩
theorem plc_nd : ∀ s ∈ allSh, (plc s).Nodup := by decide +kernel
theorem plc_len {s : List Int} (h : Sh s) : (plc s).length ≤ 64 := by
  have := plcP_len h s.length (Nat.le_refl _)
  have := Sh.len2 h
  unfold plc
  omega
theorem plc_sort {s : List Int} (h : Sh s) {L : List (List Int)} (sub : ∀ a ∈ L, a ∈ plc s) : sortV (L.map tI') = true := sortV_shs fun a ha => by
  obtain ⟨t, k, _, _, e⟩ := plc_lt h (sub a ha)
  rw [e]
  exact List.cons_ne_nil _ _
theorem wr_srt {S : Sto} {l : Nat} {ws : List Va} {QV : Va → Sto → Prop} {E : Xp} (h1 : S[l]? = some (.lst ws)) (h2 : sortV ws = true) (h0 : ws.length ≤ 16777216) (h : ∀ d T, d = S.length → T.length = S.length + 1 → Keep S T → T[d]? = some (.lst (vsort ws)) → QV (.loc d) T) : wr (fSrt [.loc l] S) QV E := by
  have e : fSrt [.loc l] S = llst (vsort ws) S := by
    unfold fSrt Rz.itL
    dsimp only
    rw [getL_lst h1]
    dsimp only
    rw [h2]
    rfl
  rw [e]
  exact wr_llst (by unfold vsort; simp; exact h0) h
theorem pen_ne {S : Sto} {p m q : Nat} {L : List (List Int)} (pn : Pen S p m) (h : S[q]? = some (.lst (L.map tI'))) : q ≠ p := fun e => by
  obtain ⟨l, cs, idx, d, h1, h2, h3, h4⟩ := pn
  rw [e, h2] at h
  have e1 := Ob.lst.inj (Option.some.inj h)
  have m : Va.loc l ∈ L.map tI' := by rw [← e1]; exact List.mem_cons_self
  obtain ⟨a, _, z⟩ := List.mem_map.mp m
  exact nomatch (show Va.tup _ = Va.loc l from z)
theorem law_call_ok {s : List Int} (h : Sh s) {n : Nat} (n1 : 1 ≤ n) (n64 : n ≤ 64) (k : Nat) {p m : Nat} (hm : m + 4000 < 4294967296) {S : Sto} (pn : Pen S p m) :
    wr (m__law_call [.loc p, tI' s, .int (n : Int), .int (k : Int)] S) (fun v T => ∃ ps l, CallOk n s v ps l ∧ Pen T p (m + 2004) ∧ KeepB p S T) noE := by
  have pl := plc_len h
  refine w__law_call ?_
  repeat array_get_dec
  obtain ⟨q, T1, b1, b2, k1⟩ := buckets_ok h S
  refine wr_of b1 ?_
  repeat array_get_dec
  obtain ⟨w, T2, d1, d2, d3, d4, d5⟩ := draw_ok p m (by omega) T1 (pn.keep k1) 8 (by decide) (by decide)
  refine wr_of d1 ?_
  have qp : q ≠ p := pen_ne (pn.keep k1) b2
  have k12 : KeepB p S T2 := k1.but.trans d5
  have b3 := d5 _ _ qp b2
  -- what comes behind the next cursor
  have rest : ∀ (l : Option Nat) (T3 : Sto) (x : Va), x = lV l → (∀ j, l = some j → j < n) → Pen T3 p (m + 2) → KeepB p T2 T3 →
      wo ((sseq (sset 7 (ycall 3 m__law_some (acons (xvar 0) (acons (xvar 4) (acons (xlit (.int 3)) anil)))))
  (sseq (sif (xbinB cEq (ycall 2 m__law_draw (acons (xvar 0) (acons (xlit (.int 3)) anil))) (xlit (.int 0))) (sset 7 (xcomp [8] (isq (xvar 4)) (pname 8) (xbinB cEq (xbin oMod (xcall fInt (acons (xbin oIx (xvar 8) (xlit (.int 1))) anil)) (xlit (.int 2))) (xbin oMod (xcall fInt (acons (xvar 3) anil)) (xlit (.int 2)))) (xvar 8))) snext)
  (sret (xtup (acons (xcall fTup (acons (xcall fSrt (acons (xvar 7) anil)) anil)) (acons (xvar 6) anil)))))) [some (.loc p), some (tI' s), some (.int (n : Int)), some (.int (k : Int)), some (.loc q), some (.int w), some x, none, none] T3)
      (fun _ _ => False) (fnK (fun v T => ∃ ps l, CallOk n s v ps l ∧ Pen T p (m + 2004) ∧ KeepB p S T) noE) := by
    rintro l T3 _ rfl hl p3 k3
    have b4 := k3 _ _ qp b3
    repeat array_get_dec
    obtain ⟨q2, T4, ws, rs, e1, e2, e3, e4, e5, e6, e7⟩ := some_ok (by rw [List.length_map]; omega) p (m + 2) (by omega) T3 p3 q b4 3 (by decide) (by decide)
    refine wr_of e1 ?_
    obtain ⟨L, eL, ndL, memL⟩ := part_of (f := tI') tI_inj e3 (plc_nd s h.all)
    subst eL
    repeat array_get_dec
    obtain ⟨w2, T5, f1, f2, f3, f4, f5⟩ := draw_ok p (m + 2 + 2001) (by omega) T4 e5 3 (by decide) (by decide)
    refine wr_of f1 ?_
    have q2p : q2 ≠ p := by have := p3.lt; omega
    have b5 := f5 _ _ qp (e6 _ _ qp b4)
    have kk : KeepB p S T5 := (k12.trans k3).trans (e6.trans f5)
    -- the end
    have fin : ∀ (M : List (List Int)) (d : Nat) (T6 : Sto) (e8 : Option Va), (∀ a ∈ M, a ∈ plc s) → M.Nodup → T6[d]? = some (.lst (M.map tI')) → Keep T5 T6 →
        wo (sret (xtup (acons (xcall fTup (acons (xcall fSrt (acons (xvar 7) anil)) anil)) (acons (xvar 6) anil))) [some (.loc p), some (tI' s), some (.int (n : Int)), some (.int (k : Int)), some (.loc q), some (.int w), some (lV l), some (.loc d), e8] T6)
          (fun _ _ => False) (fnK (fun v T => ∃ ps l, CallOk n s v ps l ∧ Pen T p (m + 2004) ∧ KeepB p S T) noE) := by
      intro M d T6 e8 sub ndM hd k6
      have zM : M.length ≤ 64 := Nat.le_trans (nd_len M (plc s) ndM sub) pl
      obtain ⟨M', x1, x2, x3⟩ := srt_incr h sub ndM
      repeat array_get_dec
      refine wr_srt hd (plc_sort h sub) (by rw [List.length_map]; omega) fun d2 T7 _ _ k7 h7 => ?_
      repeat array_get_dec
      rw [x1] at h7
      have zM' := x2.length_eq
      refine wr_tupL h7 (by rw [List.length_map]; omega) ?_
      repeat array_get_dec
      refine ⟨M', l, ⟨rfl, fun a ha => sub a (x2.mem_iff.mp ha), x3, by omega, hl⟩, (f4.keep (k6.trans k7)).mono (by omega), kk.trans (k6.trans k7).but⟩
    repeat array_get_dec
    refine bif_d (fun c => ?_) (fun c => ?_)
    · have cf := comp_filter (vs := [8]) (put := pname 8) (cond := xbinB cEq (xbin oMod (xcall fInt (acons (xbin oIx (xvar 8) (xlit (.int 1))) anil)) (xlit (.int 2))) (xbin oMod (xcall fInt (acons (xvar 3) anil)) (xlit (.int 2)))) (elt := xvar 8) (x := xvar 4) tI' tI_inj (fun a => decide (a.getD 1 0 % 2 = (k : Int) % 2)) (δ := [some (.loc p), some (tI' s), some (.int (n : Int)), some (.int (k : Int)), some (.loc q), some (.int w), some (lV l), some (.loc q2), none]) (S := T5) (S0 := T5) (var_at rfl) (getL_lst b5) (by omega) fun a ha => ⟨_, rfl, fun S' kp => by
        obtain ⟨t, j, rfl, _, _⟩ := mem_plc ha
        exact ⟨cmp_at (bin_at (call_at (one_at (bin_at (var_at rfl) lit_at (ixT_at tup1))) rfl) lit_at (mod_at (by decide))) (bin_at (call_at (one_at (var_at rfl)) rfl) lit_at (mod_at (by decide))) (by rw [cEq_int]; rfl), var_at rfl⟩⟩
      exact wo_set (wr_of cf (fin _ _ _ _ (fun a ha => (List.mem_filter.mp ha).1) ((plc_nd s h.all).sublist List.filter_sublist) (get_new _ _ _) (Keep.app _ _)))
    · repeat (first | exact fin L q2 T5 _ (fun a ha => (memL a ha)) ndL (f5 _ _ q2p e2) (Keep.refl _) | array_get_dec)
  repeat array_get_dec
  refine bif_d (fun c => ?_) (fun c => ?_)
  · repeat array_get_dec
    refine bif_d (fun c2 => ?_) (fun c2 => ?_)
    · repeat (first | exact wo.mono (rest (some (k + 1)) T2 _ rfl (fun j hj => by cases hj; omega) (d4.mono (by omega)) (KeepB.refl _ _)) (fun _ _ z => False.elim z) | array_get_dec)
    · repeat (first | exact wo.mono (rest none T2 _ rfl (fun j hj => nomatch hj) (d4.mono (by omega)) (KeepB.refl _ _)) (fun _ _ z => False.elim z) | array_get_dec)
  · repeat array_get_dec
    refine bif_d (fun c2 => ?_) (fun c2 => ?_)
    · repeat array_get_dec
      obtain ⟨w3, T3, g1, g2, g3, g4, g5⟩ := draw_ok p (m + 1) (by omega) T2 d4 (n : Int) (by omega) (by omega)
      refine wr_of g1 ?_
      obtain ⟨j, rfl⟩ := Int.eq_ofNat_of_zero_le g2
      exact wo.mono (rest (some j) T3 _ rfl (fun i hi => by cases hi; omega) g4 g5) (fun _ _ z => False.elim z)
    · repeat (first | exact wo.mono (rest none T2 _ rfl (fun j hj => nomatch hj) (d4.mono (by omega)) (KeepB.refl _ _)) (fun _ _ z => False.elim z) | array_get_dec)
end Law
namespace Law
open PySem PySem.Spec PyProof.Rows L2 Rz PySem.W
local macro_rules | `(tactic| array_mem_dec) => `(tactic| first | assumption | ((with_reducible refine Keep.at' (by assumption) ?_); array_mem_dec) | ((with_reducible refine KeepB.at' (by assumption) (by first | assumption | omega) ?_); array_mem_dec))
local macro_rules | `(tactic| array_get_dec) => `(tactic| first
  | (with_reducible apply wo_seq) | (with_reducible apply wo_set) | (with_reducible apply wo_ret) | (with_reducible apply wo_if) | (with_reducible apply wo_exp)
  | (with_reducible apply wr_lit) | ((with_reducible apply wr_var); exact rfl) | (with_reducible apply wr_bin) | (with_reducible apply wr_binB) | (with_reducible apply wr_call) | (with_reducible apply wr_cons) | (with_reducible apply wr_nil)
  | (with_reducible apply wr_fn) | (with_reducible apply wr_not) | (with_reducible apply wr_and) | (with_reducible apply wr_or) | (with_reducible apply wr_ite) | (with_reducible apply wr_boo) | (with_reducible apply wr_tru) | (with_reducible apply wr_yes)
  | (with_reducible apply wr_tup) | (with_reducible apply wr_lst) | (with_reducible apply wr_un) | (with_reducible apply wr_isN) | (with_reducible apply wr_andV) | (with_reducible apply wr_orV) | (with_reducible apply wr_notV) | (with_reducible apply wr_orT) | (with_reducible apply wr_chain)
  | (with_reducible apply wr_addI) | (with_reducible apply wr_subI) | ((with_reducible apply wr_mulR); (· decide); (· decide)) | ((with_reducible apply wr_mulL); (· decide); (· decide)) | ((with_reducible apply wr_divI); (· omega); (· omega)) | ((with_reducible apply wr_modI); (· omega)) | (with_reducible apply wr_neg)
  | (with_reducible apply wr_lt) | (with_reducible apply wr_le) | (with_reducible apply wr_gt) | (with_reducible apply wr_ge) | ((with_reducible apply wr_eqS); exact rfl) | (with_reducible apply wr_ne) | (with_reducible apply wr_isB) | (with_reducible apply wr_isnB)
  | ((with_reducible apply wr_ixT); (· exact rfl)) | ((with_reducible apply wr_ixL); (· array_mem_dec); (· exact rfl)) | (with_reducible apply wr_trB) | ((with_reducible apply wr_trL); array_mem_dec) | ((with_reducible apply wr_lenL); array_mem_dec) | (with_reducible apply wr_lenT) | (with_reducible apply wr_intI) | (with_reducible apply wr_abs) | (with_reducible apply wr_min2)
  | (with_reducible apply wo_nx) | (with_reducible apply wo_retN) | (with_reducible apply wo_raise) | (with_reducible apply wo_asg) | (with_reducible apply wo_par) | (with_reducible apply wo_sub) | (with_reducible apply wo_for) | (with_reducible apply wr_isq) | (with_reducible apply wr_irg1) | (with_reducible apply wr_comp) | (with_reducible apply wr_met) | (with_reducible apply wr_met0)
  | ((with_reducible apply fnGo); (· exact rfl)) | ((with_reducible apply tupGo); (· simp only [List.length_cons, List.length_nil, Nat.reduceAdd, Nat.reduceLeDiff])) | ((with_reducible apply lstGo); (· simp only [List.length_cons, List.length_nil, Nat.reduceAdd, Nat.reduceLeDiff])) | ((with_reducible apply parGo); (· exact rfl)) | ((with_reducible apply asgGo); (· exact rfl)) | (with_reducible apply blGo)
  | ((with_reducible apply metGo); (· array_mem_dec)) | (with_reducible apply wr_fld) | ((with_reducible apply fldGo); (· array_mem_dec); (· exact rfl)) | (with_reducible apply wr_new) | (with_reducible apply wr_prop) | ((with_reducible apply propGo); (· array_mem_dec)) | (with_reducible apply isqT) | ((with_reducible apply isqL); (· array_mem_dec))
  | (with_reducible apply wo_try) | ((with_reducible apply wr_isX); (· array_mem_dec); (· first | exact rfl | decide)) | ((with_reducible apply wr_isXT); (· array_mem_dec); (· first | exact rfl | decide))
  | (with_reducible apply wr_neO) | ((with_reducible apply wr_eqO); (· array_mem_dec); (· array_mem_dec)) | ((with_reducible apply wr_isC); (· array_mem_dec)) | ((with_reducible apply wr_isi); (· first | exact rfl | (apply kindL; array_mem_dec)); (· decide)) | (with_reducible apply wr_sl) | (with_reducible apply wr_nop) | (with_reducible apply wo_dsub) | (with_reducible apply wr_dcomp)
  | (with_reducible apply bif_t) | (with_reducible apply bif_f) | (with_reducible apply bif_n) | ((with_reducible apply bif_dt); (· exact rfl)) | ((with_reducible apply bif_cf); (· decide)) | ((with_reducible apply bif_ct); (· decide)))

def updR (R : List Int → List Va) (s : List Int) (ws : List Va) : List Int → List Va := fun u => if u = s then ws else R u
theorem updR_same (R : List Int → List Va) (s : List Int) (ws : List Va) : updR R s ws s = ws := if_pos rfl
theorem updR_ne {R : List Int → List Va} {s u : List Int} {ws : List Va} (h : u ≠ s) : updR R s ws u = R u := if_neg h
theorem DInv.congr {S : Sto} {d : Nat} {P : List (List Int)} {R R' : List Int → List Va} (h : DInv S d P R) (e : ∀ s ∈ P, R' s = R s) : DInv S d P R' := by
  obtain ⟨kvs, h1, h2, h3, h4⟩ := h.ex
  exact ⟨kvs, h1, h2, fun s hs => let ⟨r, r1, r2, r3⟩ := h3 s hs; ⟨r, r1, r2, by rw [e s hs]; exact r3⟩, h4⟩
theorem DInv.kb {S T : Sto} {d p : Nat} {P : List (List Int)} {R : List Int → List Va} (h : DInv S d P R) (k : KeepB p S T) (hp : ∃ a b c, S[p]? = some (.lst [.loc a, .int b, .int c])) (ro : ∀ s ∈ P, ∀ v ∈ R s, ∃ us, v = .tup us) : DInv T d P R := by
  obtain ⟨a, b, c, hp⟩ := hp
  obtain ⟨kvs, h1, h2, h3, h4⟩ := h.ex
  have dp : d ≠ p := fun e => by rw [e, hp] at h1; cases h1
  refine ⟨kvs, k _ _ dp h1, h2, fun s hs => ?_, h4⟩
  obtain ⟨r, r1, r2, r3⟩ := h3 s hs
  refine ⟨r, r1, r2, k _ _ (fun e => ?_) r3⟩
  rw [e, hp] at r3
  have e1 := Ob.lst.inj (Option.some.inj r3)
  obtain ⟨us, z⟩ := ro s hs (.loc a) (by rw [← e1]; exact List.mem_cons_self)
  cases z
theorem Pen.at {S : Sto} {p m : Nat} (h : Pen S p m) : ∃ a b c, S[p]? = some (.lst [.loc a, .int b, .int c]) := by
  obtain ⟨l, cs, idx, d, h1, h2, _⟩ := h
  exact ⟨_, _, _, h2⟩
theorem RowOk.tups {n : Nat} {s : List Int} {ws : List Va} (h : RowOk n s ws) : ∀ v ∈ ws, ∃ us, v = .tup us := fun v hv => by
  obtain ⟨ps, l, c⟩ := h.2 v hv
  exact ⟨_, c.eq⟩
theorem DInv.pen {S T : Sto} {d p m n : Nat} {P : List (List Int)} {R : List Int → List Va} (h : DInv S d P R) (pn : Pen S p m) (k : KeepB p S T) (ro : ∀ s ∈ P, RowOk n s (R s)) : DInv T d P R := h.kb k pn.at fun s hs => (ro s hs).tups
theorem DJ.pen {S T : Sto} {d p m : Nat} {P : List (List Int)} {R : List Int → List Va} (hJ : DJ S d) (h : DInv S d P R) (pn : Pen S p m) (k : KeepB p S T) : DJ T d := by
  obtain ⟨a, b, c, hp⟩ := pn.at
  obtain ⟨kvs, h1, _⟩ := h.ex
  exact hJ.eq h1 (k _ _ (fun e => by rw [e, hp] at h1; cases h1) h1)
theorem dinv_set {S T : Sto} {d r : Nat} {P : List (List Int)} {R : List Int → List Va} {s : List Int} {ws : List Va} {kvs : List (Va × Va)} (hD : DInv S d P R) (hJ : DJ S d) (nd : P.Nodup) (hs : s ∈ P) (hk : S[d]? = some (.dct kvs)) (hr : valD kvs (keyS s) = some (.loc r)) (rd : r ≠ d) (k : KeepB r S T) (hT : T[r]? = some (.lst ws)) : DInv T d P (updR R s ws) ∧ DJ T d := by
  obtain ⟨kvs', h1, h2, h3, h4⟩ := hD.ex
  rw [hk] at h1
  cases h1
  have hd := k _ _ (Ne.symm rd) hk
  refine ⟨⟨kvs, hd, h2, fun u hu => ?_, h4⟩, hJ.eq hk hd⟩
  by_cases c : u = s
  · subst c
    exact ⟨r, rd, hr, by rw [updR_same]; exact hT⟩
  · obtain ⟨r', r1, r2, r3⟩ := h3 u hu
    refine ⟨r', r1, r2, ?_⟩
    rw [updR_ne c]
    refine k _ _ (fun e => c ?_) r3
    subst e
    -- two keys with one row
    have nk := (hJ _ hk).1
    have mem : ∀ x, x ∈ P → valD kvs (keyS x) = some (.loc r') → (tI' x, Va.loc r') ∈ kvs := fun x hx hv => by
      unfold valD at hv
      obtain ⟨q, hq, e2⟩ := Option.map_eq_some_iff.mp hv
      have m1 := List.mem_of_find?_eq_some hq
      have m2 := List.find?_some hq
      obtain ⟨y, ry, hy, rfl, _, _, _⟩ := pair_of nd h2 h3 m1
      simp only [decide_eq_true_eq] at m2
      rw [nk_tI] at m2
      have := keyS_inj (Option.some.inj m2)
      subst this
      rw [← e2]
      exact m1
    have a1 := mem u hu r2
    have a2 := mem s hs hr
    obtain ⟨i, hi, e1⟩ := List.getElem_of_mem a1
    obtain ⟨j, hj, e2⟩ := List.getElem_of_mem a2
    have li : i < (kvs.map Prod.snd).length := by rw [List.length_map]; exact hi
    have lj : j < (kvs.map Prod.snd).length := by rw [List.length_map]; exact hj
    have ij : i = j := (List.getElem_inj (h₀ := li) (h₁ := lj) nk).mp (by rw [List.getElem_map, List.getElem_map, e1, e2])
    subst ij
    rw [e1] at e2
    exact tI_inj (congrArg Prod.fst e2)
theorem row_put {n : Nat} {s : List Int} {ws : List Va} (h : RowOk n s ws) {v : Va} {ps : List (List Int)} {l : Option Nat} (c : CallOk n s v ps l) (k : Nat) : RowOk n s (ws.set k v) := ⟨by rw [List.length_set]; exact h.1, fun u hu => by
  rcases List.mem_or_eq_of_mem_set hu with z | z
  · exact h.2 u z
  · exact ⟨ps, l, z ▸ c⟩⟩
theorem drawn_row {s : List Int} (h : Sh s) {n : Nat} (n1 : 1 ≤ n) (n64 : n ≤ 64) {p m : Nat} (hm : m + 2004 * 64 + 4000 < 4294967296) {S : Sto} (pn : Pen S p m) (d1 d2 d5 d6 : Option Va) :
    wr (xcomp [6] (irg1 (xvar 4)) (pname 6) xyes (ycall 4 m__law_call (acons (xvar 0) (acons (xvar 3) (acons (xvar 4) (acons (xvar 6) anil))))) [some (.loc p), d1, d2, some (tI' s), some (.int (n : Int)), d5, d6] S)
      (fun v T => ∃ r ws, v = .loc r ∧ S.length ≤ r ∧ T[r]? = some (.lst ws) ∧ RowOk n s ws ∧ Pen T p (m + 2004 * n) ∧ KeepB p S T) noE := by
  have plt := pn.lt
  repeat array_get_dec
  refine rngGo n rfl (by omega) ?_
  intro D T eD eT kT hD
  refine wr_cR (by omega) (fun i acc U => acc.length = i ∧ (∀ v ∈ acc, ∃ ps l, CallOk n s v ps l) ∧ Pen U p (m + 2004 * i) ∧ KeepB p S U) ⟨rfl, (fun v hv => nomatch hv), pn.keep kT, kT.but⟩ hD (fun i acc U hi ⟨h1, h2, h3, h4⟩ hU => ⟨_, rfl, ?_⟩) (fun acc U ⟨h1, h2, h3, h4⟩ hU => ⟨D, acc, rfl, by omega, hU, ⟨h1, h2⟩, h3, h4⟩)
  repeat array_get_dec
  rw [show (0 : Int) + (i : Int) = (i : Int) by omega]
  refine (law_call_ok h n1 n64 i (m := m + 2004 * i) (by omega) h3).mono fun v V ⟨ps, l, c, q1, q2⟩ => ?_
  have Dp : D ≠ p := by omega
  refine ⟨q2 _ _ Dp hU, fun W _ kb hW => ⟨by simp [h1], fun u hu => ?_, ?_, fun j o n2 e => kb _ _ (by have := lt_of e; omega) (q2 _ _ n2 (h4 _ _ n2 e))⟩⟩
  · rcases List.mem_append.mp hu with z | z
    · exact h2 u z
    · rw [List.mem_singleton.mp z]; exact ⟨ps, l, c⟩
  · obtain ⟨a, cs, ix, dd, e1, e2, e3, e4⟩ := q1
    exact ⟨a, cs, ix, dd, e1, kb _ _ (Ne.symm Dp) e2, kb _ _ (by omega) e3, by omega, by omega⟩
theorem law_drawn_ok {L : List (List Int)} (sh : ∀ s ∈ L, Sh s) (nd : L.Nodup) {p m l : Nat} (hm : m + 1 + 2004 * 64 * 40 + 4000 < 4294967296) {S : Sto} (pn : Pen S p m) (hl : S[l]? = some (.lst (L.map tI'))) {most : Nat} (h1 : 1 ≤ most) (hM : most ≤ 64) :
    wr (m__law_drawn [.loc p, .loc l, .int (most : Int)] S) (fun v T => ∃ (n : Nat) (d : Nat) (R : List Int → List Va), v = .tup [.int (n : Int), .loc d] ∧ 1 ≤ n ∧ n ≤ most ∧ DInv T d L R ∧ DJ T d ∧ (∀ s ∈ L, RowOk n s (R s)) ∧ Pen T p (m + 1 + 2004 * n * L.length) ∧ KeepB p S T) noE := by
  have lp := pen_ne pn hl
  have plt := pn.lt
  have l36 : L.length ≤ 36 := nd_len L allSh nd fun s hs => (sh s hs).all
  refine w__law_drawn ?_
  repeat array_get_dec
  obtain ⟨w, T1, d1, d2, d3, d4, d5⟩ := draw_ok p m (by omega) S pn (most : Int) (by omega) (by omega)
  refine wr_of d1 ?_
  obtain ⟨n0, rfl⟩ := Int.eq_ofNat_of_zero_le d2
  repeat array_get_dec
  refine wr_dict0 fun d T2 ed l2 k2 hd => ?_
  repeat array_get_dec
  have hn : (1 : Int) + (n0 : Int) = ((n0 + 1 : Nat) : Int) := by omega
  rw [hn]
  generalize en : n0 + 1 = n at *
  have n1 : 1 ≤ n := by omega
  have n64 : n ≤ 64 := by omega
  have hl2 := k2 _ _ (d5 _ _ lp hl)
  have p2 := d4.keep k2
  have ll := lt_of (d5 _ _ lp hl)
  have lpT := d4.lt
  refine wo_loc (fun j δ U => (∃ e3 e6, δ = [some (.loc p), some (.loc l), some (.int (most : Int)), e3, some (.int (n : Int)), some (.loc d), e6]) ∧ (∃ R, DInv U d (L.take j) R ∧ DJ U d ∧ ∀ s ∈ L.take j, RowOk n s (R s)) ∧ Pen U p (m + 1 + 2004 * n * j) ∧ (∀ i o, i ≠ p → i ≠ d → T2[i]? = some o → U[i]? = some o)) ⟨⟨_, _, rfl⟩, ⟨fun _ => [], ⟨[], hd, rfl, (fun s hs => nomatch hs), fun s _ => rfl⟩, DJ.nil hd, fun s hs => nomatch hs⟩, p2, fun i o _ _ e => e⟩ (fun j δ U q => q.2.2.2 _ _ lp (by omega) hl2) (fun j v δ U hv ⟨⟨e3, e6, ed'⟩, ⟨R, g1, gJ, g2⟩, g3, g4⟩ => ?_) (fun δ U ⟨⟨e3, e6, ed'⟩, ⟨R, g1, gJ, g2⟩, g3, g4⟩ => ?_)
  · subst ed'
    rw [List.getElem?_map] at hv
    obtain ⟨s, hs, rfl⟩ := Option.map_eq_some_iff.mp hv
    obtain ⟨sm, nt, tk⟩ := take_new nd hs
    have jl : j < L.length := (List.getElem?_eq_some_iff.mp hs).1
    have hb : 2004 * n * j ≤ 2004 * 64 * 36 := Nat.mul_le_mul (Nat.mul_le_mul_left _ n64) (by omega)
    refine ⟨_, rfl, ?_⟩
    refine wl__law_drawn_0 ?_
    refine wo_dsub ?_
    have UL := g1.lt
    refine (drawn_row (sh s sm) n1 n64 (m := m + 1 + 2004 * n * j) (by omega) g3 _ _ _ e6).use fun v T ⟨r, ws, ev, hr, hT, ro, pT, kT⟩ => ?_
    subst ev
    repeat array_get_dec
    have g1' : DInv T d (L.take j) (updR R s ws) := (g1.pen g3 kT g2).congr fun u hu => updR_ne fun e => nt (e ▸ hu)
    obtain ⟨kvs0, z0, _⟩ := g1.ex
    have dp : d ≠ p := by omega
    obtain ⟨kvs, y1, y2, y3, y4⟩ := dinv_new g1' nt (by rw [updR_same]; exact hT) (by omega)
    have zz := kT _ _ dp z0
    rw [y1] at zz
    cases zz
    refine wo_dput y1 (keyT_sh (sh s sm)) (keyS_depth (sh s sm)) (by rw [y2, List.length_take]; omega) fun V _ kV hV => ?_
    rw [y3] at hV
    refine ⟨⟨_, _, rfl⟩, ⟨updR R s ws, by rw [tk]; exact y4 V kV hV, dj_new g1 (nd.sublist (List.take_sublist _ _)) gJ z0 hr hV, fun u hu => ?_⟩, ?_, fun i o i1 i2 e => kV _ _ i2 (kT _ _ i1 (g4 i o i1 i2 e))⟩
    · rw [tk] at hu
      rcases List.mem_append.mp hu with q | q
      · have us : u ≠ s := fun e => nt (by rw [e] at q; exact q)
        rw [updR_ne us]; exact g2 u q
      · rw [List.mem_singleton.mp q, updR_same]; exact ro
    · obtain ⟨a, cs, ix, dd, e1, e2, e3, e4⟩ := pT
      have : 2004 * n * (j + 1) = 2004 * n * j + 2004 * n := Nat.mul_succ _ _
      exact ⟨a, cs, ix, dd, e1, kV _ _ (Ne.symm dp) e2, kV _ _ (by omega) e3, by omega, by omega⟩
  · subst ed'
    rw [List.length_map, List.take_length] at g1
    rw [List.length_map, List.take_length] at g2
    rw [List.length_map] at g3
    repeat array_get_dec
    exact ⟨n, d, R, rfl, n1, by omega, g1, gJ, g2, g3, fun i o i1 e => g4 i o i1 (by have := lt_of (d5 _ _ i1 e); omega) (k2 _ _ (d5 _ _ i1 e))⟩
end Law
namespace Law
open PySem PySem.Spec PyProof.Rows L2 Rz PySem.W
local macro_rules | `(tactic| array_mem_dec) => `(tactic| first | assumption | ((with_reducible refine Keep.at' (by assumption) ?_); array_mem_dec) | ((with_reducible refine KeepB.at' (by assumption) (by first | assumption | omega) ?_); array_mem_dec))
local macro_rules | `(tactic| array_get_dec) => `(tactic| first
  | (with_reducible apply wo_seq) | (with_reducible apply wo_set) | (with_reducible apply wo_ret) | (with_reducible apply wo_if) | (with_reducible apply wo_exp)
  | (with_reducible apply wr_lit) | ((with_reducible apply wr_var); exact rfl) | (with_reducible apply wr_bin) | (with_reducible apply wr_binB) | (with_reducible apply wr_call) | (with_reducible apply wr_cons) | (with_reducible apply wr_nil)
  | (with_reducible apply wr_fn) | (with_reducible apply wr_not) | (with_reducible apply wr_and) | (with_reducible apply wr_or) | (with_reducible apply wr_ite) | (with_reducible apply wr_boo) | (with_reducible apply wr_tru) | (with_reducible apply wr_yes)
  | (with_reducible apply wr_tup) | (with_reducible apply wr_lst) | (with_reducible apply wr_un) | (with_reducible apply wr_isN) | (with_reducible apply wr_andV) | (with_reducible apply wr_orV) | (with_reducible apply wr_notV) | (with_reducible apply wr_orT) | (with_reducible apply wr_chain)
  | (with_reducible apply wr_addI) | (with_reducible apply wr_subI) | ((with_reducible apply wr_mulR); (· decide); (· decide)) | ((with_reducible apply wr_mulL); (· decide); (· decide)) | ((with_reducible apply wr_divI); (· omega); (· omega)) | ((with_reducible apply wr_modI); (· omega)) | (with_reducible apply wr_neg)
  | (with_reducible apply wr_lt) | (with_reducible apply wr_le) | (with_reducible apply wr_gt) | (with_reducible apply wr_ge) | ((with_reducible apply wr_eqS); exact rfl) | (with_reducible apply wr_ne) | (with_reducible apply wr_isB) | (with_reducible apply wr_isnB)
  | ((with_reducible apply wr_ixT); (· exact rfl)) | ((with_reducible apply wr_ixL); (· array_mem_dec); (· exact rfl)) | (with_reducible apply wr_trB) | ((with_reducible apply wr_trL); array_mem_dec) | ((with_reducible apply wr_lenL); array_mem_dec) | (with_reducible apply wr_lenT) | (with_reducible apply wr_intI) | (with_reducible apply wr_abs) | (with_reducible apply wr_min2)
  | (with_reducible apply wo_nx) | (with_reducible apply wo_retN) | (with_reducible apply wo_raise) | (with_reducible apply wo_asg) | (with_reducible apply wo_par) | (with_reducible apply wo_sub) | (with_reducible apply wo_for) | (with_reducible apply wr_isq) | (with_reducible apply wr_irg1) | (with_reducible apply wr_comp) | (with_reducible apply wr_met) | (with_reducible apply wr_met0)
  | ((with_reducible apply fnGo); (· exact rfl)) | ((with_reducible apply tupGo); (· simp only [List.length_cons, List.length_nil, Nat.reduceAdd, Nat.reduceLeDiff])) | ((with_reducible apply lstGo); (· simp only [List.length_cons, List.length_nil, Nat.reduceAdd, Nat.reduceLeDiff])) | ((with_reducible apply parGo); (· exact rfl)) | ((with_reducible apply asgGo); (· exact rfl)) | (with_reducible apply blGo)
  | ((with_reducible apply metGo); (· array_mem_dec)) | (with_reducible apply wr_fld) | ((with_reducible apply fldGo); (· array_mem_dec); (· exact rfl)) | (with_reducible apply wr_new) | (with_reducible apply wr_prop) | ((with_reducible apply propGo); (· array_mem_dec)) | (with_reducible apply isqT) | ((with_reducible apply isqL); (· array_mem_dec))
  | (with_reducible apply wo_try) | ((with_reducible apply wr_isX); (· array_mem_dec); (· first | exact rfl | decide)) | ((with_reducible apply wr_isXT); (· array_mem_dec); (· first | exact rfl | decide))
  | (with_reducible apply wr_neO) | ((with_reducible apply wr_eqO); (· array_mem_dec); (· array_mem_dec)) | ((with_reducible apply wr_isC); (· array_mem_dec)) | ((with_reducible apply wr_isi); (· first | exact rfl | (apply kindL; array_mem_dec)); (· decide)) | (with_reducible apply wr_sl) | (with_reducible apply wr_nop) | (with_reducible apply wo_dsub) | (with_reducible apply wr_dcomp)
  | (with_reducible apply bif_t) | (with_reducible apply bif_f) | (with_reducible apply bif_n) | ((with_reducible apply bif_dt); (· exact rfl)) | ((with_reducible apply bif_cf); (· decide)) | ((with_reducible apply bif_ct); (· decide)))

structure RI (S : Sto) (d : Nat) (L : List (List Int)) (n : Nat) (R : List Int → List Va) : Prop where
  di : DInv S d L R
  dj : DJ S d
  ro : ∀ s ∈ L, RowOk n s (R s)
theorem RI.pen {S T : Sto} {d p m n : Nat} {L : List (List Int)} {R : List Int → List Va} (h : RI S d L n R) (pn : Pen S p m) (k : KeepB p S T) : RI T d L n R := ⟨h.di.pen pn k h.ro, h.dj.pen h.di pn k, h.ro⟩
theorem RI.keep {S T : Sto} {d n : Nat} {L : List (List Int)} {R : List Int → List Va} (h : RI S d L n R) (k : Keep S T) : RI T d L n R := by
  obtain ⟨kv, z, _⟩ := h.di.ex
  exact ⟨h.di.keep k, h.dj.eq z (k _ _ z), h.ro⟩
theorem atI_shs {L : List (List Int)} {i : Nat} (hi : i < L.length) : atI (L.map tI') (i : Int) = some (tI' L[i]) := atI_nat (xs := L.map tI') (j := i) (v := tI' L[i]) (by rw [List.getElem?_map, List.getElem?_eq_getElem hi]; rfl)
theorem valD_mem' {kvs : List (Va × Va)} {k : NestedKey} {w : Va} (h : valD kvs k = some w) : ∃ q ∈ kvs, q.2 = w := by
  unfold valD at h
  obtain ⟨p, e1, e2⟩ := Option.map_eq_some_iff.mp h
  exact ⟨p, List.mem_of_find?_eq_some e1, e2⟩
theorem rule_turn {L : List (List Int)} (sh : ∀ s ∈ L, Sh s) (nd : L.Nodup) (ne : L ≠ []) {p m l d n : Nat} {R : List Int → List Va} (hm : m + 6000 < 4294967296) {S : Sto} (pn : Pen S p m) (hl : S[l]? = some (.lst (L.map tI'))) (n1 : 1 ≤ n) (n64 : n ≤ 64) (hR : RI S d L n R) (d2 d3 d4 d7 d8 : Option Va) :
    wo (l__law_rule_0 [some (.loc p), some (.loc l), d2, d3, d4, some (.int (n : Int)), some (.loc d), d7, d8] S) (fun δ T => (∃ e7 e8, δ = [some (.loc p), some (.loc l), d2, d3, d4, some (.int (n : Int)), some (.loc d), e7, e8]) ∧ (∃ R', RI T d L n R') ∧ Pen T p (m + 2006) ∧ (∀ i ws, i ≠ p → S[i]? = some (.lst ws) → (∀ s ∈ L, ws ≠ R s) → T[i]? = some (.lst ws)) ∧ ∀ (j : Nat) (o : Ob), j ≠ p → j ≤ d → S[j]? = some o → T[j]? = some o) noK := by
  have lp := pen_ne pn hl
  have l36 : L.length ≤ 36 := nd_len L allSh nd fun s hs => (sh s hs).all
  have l0 : 0 < L.length := List.length_pos_iff.mpr ne
  refine wl__law_rule_0 ?_
  repeat array_get_dec
  rw [List.length_map]
  obtain ⟨w, T1, a1, a2, a3, a4, a5⟩ := draw_ok p m (by omega) S pn (L.length : Int) (by omega) (by omega)
  refine wr_of a1 ?_
  obtain ⟨i, rfl⟩ := Int.eq_ofNat_of_zero_le a2
  have il : i < L.length := by omega
  have sm : L[i] ∈ L := List.getElem_mem il
  refine wr_ixL (a5 _ _ lp hl) (atI_shs il) ?_
  repeat array_get_dec
  obtain ⟨w2, T2, b1, b2, b3, b4, b5⟩ := draw_ok p (m + 1) (by omega) T1 a4 (n : Int) (by omega) (by omega)
  refine wr_of b1 ?_
  obtain ⟨k, rfl⟩ := Int.eq_ofNat_of_zero_le b2
  repeat array_get_dec
  generalize L[i] = s at *
  refine (law_call_ok (sh s sm) n1 n64 k (m := m + 2) (by omega) b4).use fun v T3 ⟨ps, lt, c, c2, c3⟩ => ?_
  have k3 : KeepB p S T3 := (a5.trans b5).trans c3
  have R3 := hR.pen pn k3
  obtain ⟨kvs, g1, g2, g3, g4⟩ := R3.di.ex
  obtain ⟨r, r1, r2, r3⟩ := g3 s sm
  have ro := hR.ro s sm
  repeat array_get_dec
  refine wr_dix (dct_get g1) (keyT_sh (sh s sm)) r2 ?_
  repeat array_get_dec
  refine wo_put r3 (ixN_of (by rw [ro.1]; omega)) fun T4 _ k4 h4 => ?_
  obtain ⟨x1, x2⟩ := dinv_set R3.di R3.dj nd sm g1 r2 r1 k4 h4
  have dr : d < r := by
    obtain ⟨q, hq, eq⟩ := valD_mem' r2
    obtain ⟨r', e', h'⟩ := (R3.dj _ g1).2 q hq
    rw [eq] at e'
    cases e'
    exact h'
  have rp : r ≠ p := fun e => by
    obtain ⟨a, b, cc, hp⟩ := c2.at
    rw [← e, r3] at hp
    have e1 := Ob.lst.inj (Option.some.inj hp)
    obtain ⟨us, z⟩ := ro.tups (.loc a) (by rw [e1]; exact List.mem_cons_self)
    cases z
  refine ⟨⟨_, _, rfl⟩, ⟨_, x1, x2, fun u hu => ?_⟩, ?_, (fun j ws jp e nr => k4 _ _ (fun z => ?_) (k3 _ _ jp e)), fun j o jp jd e => k4 _ _ (by omega) (k3 _ _ jp e)⟩
  · by_cases cu : u = s
    · subst cu
      rw [updR_same]
      exact row_put ro c k
    · rw [updR_ne cu]; exact hR.ro u hu
  · obtain ⟨a, cs, ix, dd, e1, e2, e3, e4⟩ := c2
    have ar : a ≠ r := fun e => by
      rw [e, r3] at e3
      have e5 := Ob.lst.inj (Option.some.inj e3)
      cases hc : R s with
      | nil => rw [hc] at ro; have := ro.1; simp at this; omega
      | cons v0 vs0 =>
        obtain ⟨us, z⟩ := ro.tups v0 (by rw [hc]; exact List.mem_cons_self)
        rw [hc, z] at e5
        cases cs with
        | nil => cases e5
        | cons c0 cs0 => cases (List.cons.inj e5).1
    exact ⟨a, cs, ix, dd, e1, k4 _ _ (Ne.symm rp) e2, k4 _ _ ar e3, by omega, by omega⟩
  · have q := k3 _ _ jp e
    rw [z, r3] at q
    exact nr s sm (Ob.lst.inj (Option.some.inj q)).symm
theorem law_rule_ok {L : List (List Int)} (sh : ∀ s ∈ L, Sh s) (nd : L.Nodup) (ne : L ≠ []) {p m l : Nat} (hm : m + 2004 * 64 * 40 + 9000 < 4294967296) {S : Sto} (pn : Pen S p m) (hl : S[l]? = some (.lst (L.map tI'))) {most : Nat} (h1 : 1 ≤ most) (hM : most ≤ 64) :
    wr (m__law_rule [.loc p, .loc l, .int (most : Int)] S) (fun v T => ∃ (n : Nat) (d : Nat) (R : List Int → List Va), v = .tup [.int (n : Int), .loc d] ∧ 1 ≤ n ∧ n ≤ 64 ∧ (n ≤ most ∨ n = 2 ^ topN L) ∧ RI T d L n R ∧ Pen T p (m + 6000 + 2004 * 64 * 36) ∧ KeepB p S T) noE := by
  have lp := pen_ne pn hl
  have l36 : L.length ≤ 36 := nd_len L allSh nd fun s hs => (sh s hs).all
  obtain ⟨tm, t5, _⟩ := topN_spec sh ne
  have pl5 := pw_le t5
  have pp := pw_pos (topN L)
  refine w__law_rule ?_
  repeat array_get_dec
  obtain ⟨w, T1, a1, a2, a3, a4, a5⟩ := draw_ok p m (by omega) S pn 3 (by omega) (by omega)
  refine wr_of a1 ?_
  have hl1 := a5 _ _ lp hl
  repeat array_get_dec
  refine bif_d (fun c => ?_) (fun c => ?_)
  · repeat array_get_dec
    refine (law_drawn_ok sh nd (m := m + 1) (by omega) a4 hl1 h1 hM).use fun v T ⟨n, d, R, ev, x1, x2, x3, x4, x5, x6, x7⟩ => ?_
    have hb : 2004 * n * L.length ≤ 2004 * 64 * 36 := Nat.mul_le_mul (Nat.mul_le_mul_left _ (by omega)) l36
    exact ⟨n, d, R, ev, x1, by omega, .inl x2, ⟨x3, x4, x5⟩, x6.mono (by omega), fun j o jp e => x7 _ _ jp (a5 _ _ jp e)⟩
  · repeat array_get_dec
    obtain ⟨d, T2, b1, b2, b3, b4, b5⟩ := counted_ok sh nd ne hl1
    have s1 := kbLen a5 a4.lt
    have s2 := Keep.len b4
    have kS2 : KeepB p S T2 := fun j o jp e => b4 _ _ (a5 _ _ jp e)
    refine wr_of b1 ?_
    have hl2 := b4 _ _ hl1
    have p2 := a4.keep b4
    repeat array_get_dec
    -- the two changes
    have fin : ∀ (d : Nat) (T : Sto) (R : List Int → List Va) (e4 e7 e8 : Option Va), RI T d L (2 ^ topN L) R → Pen T p (m + 1) → T[l]? = some (.lst (L.map tI')) → S.length ≤ d → KeepB p S T →
        wo ((sseq (sfor (irg1 (ycall 2 m__law_draw (acons (xvar 0) (acons (xlit (.int 3)) anil)))) (pname 4) l__law_rule_0)
  (sret (xtup (acons (xvar 5) (acons (xvar 6) anil))))) [some (.loc p), some (.loc l), some (.int (most : Int)), some (.int w), e4, some (.int ((2 ^ topN L : Nat) : Int)), some (.loc d), e7, e8] T) (fun _ _ => False) (fnK (fun v T => ∃ (n : Nat) (d : Nat) (R : List Int → List Va), v = .tup [.int (n : Int), .loc d] ∧ 1 ≤ n ∧ n ≤ 64 ∧ (n ≤ most ∨ n = 2 ^ topN L) ∧ RI T d L n R ∧ Pen T p (m + 6000 + 2004 * 64 * 36) ∧ KeepB p S T) noE) := by
      intro d T R e4 e7 e8 hR pT hT dS kST
      repeat array_get_dec
      obtain ⟨w2, T3, g1, g2, g3, g4, g5⟩ := draw_ok p (m + 1) (by omega) T pT 3 (by decide) (by decide)
      refine wr_of g1 ?_
      obtain ⟨t, rfl⟩ := Int.eq_ofNat_of_zero_le g2
      refine rngGo t rfl (by omega) ?_
      have hT3 := g5 _ _ lp hT
      -- the list of the shapes is none of the rows
      have nr : ∀ (R : List Int → List Va), (∀ s ∈ L, RowOk (2 ^ topN L) s (R s)) → ∀ s ∈ L, L.map tI' ≠ R s := fun R ro s hs e => by
        obtain ⟨s0, hs0⟩ := List.exists_mem_of_ne_nil _ ne
        have m0 : tI' s0 ∈ R s := by rw [← e]; exact List.mem_map.mpr ⟨s0, hs0, rfl⟩
        obtain ⟨ps, lt, c⟩ := (ro s hs).2 _ m0
        have e2 := c.eq
        have e3 := (Va.tup.inj (show Va.tup (s0.map .int) = Va.tup [.tup (ps.map tI'), lV lt] from e2))
        cases s0 with
        | nil => cases e3
        | cons a r => cases (List.cons.inj e3).1
      refine wo_rng (fun i δ U => (∃ e4 e7 e8, δ = [some (.loc p), some (.loc l), some (.int (most : Int)), some (.int w), e4, some (.int ((2 ^ topN L : Nat) : Int)), some (.loc d), e7, e8]) ∧ (∃ R, RI U d L (2 ^ topN L) R) ∧ Pen U p (m + 2 + 2006 * i) ∧ U[l]? = some (.lst (L.map tI')) ∧ KeepB p S U) ⟨⟨_, _, _, rfl⟩, ⟨R, hR.pen pT g5⟩, g4, hT3, fun j o jp e => g5 _ _ jp (kST _ _ jp e)⟩ (fun i δ U hi ⟨⟨e4, e7, e8, ed⟩, ⟨R, hR⟩, pU, hU, kU⟩ => ?_) (fun δ U ⟨⟨e4, e7, e8, ed⟩, ⟨R, hR⟩, pU, hU, kU⟩ => ?_)
      · subst ed
        refine ⟨_, rfl, ?_⟩
        refine wo.use (rule_turn sh nd ne (m := m + 2 + 2006 * i) (by omega) pU hU (by omega) (by omega) hR _ _ _ e7 e8) fun δ' V ⟨⟨e7, e8, ed⟩, hR', pV, kV, kV2⟩ => ?_
        exact ⟨⟨_, _, _, ed⟩, hR', pV.mono (by omega), kV _ _ lp hU (nr R hR.ro), fun j o jp e => kV2 _ _ jp (by have := lt_of e; omega) (kU _ _ jp e)⟩
      · subst ed
        repeat array_get_dec
        exact ⟨_, d, R, rfl, by omega, by omega, .inr rfl, hR, pU.mono (by omega), kU⟩
    refine bif_d (fun c2 => ?_) (fun c2 => ?_)
    · repeat array_get_dec
      obtain ⟨d', T3, b1, b2, b3, b4, b6⟩ := turned_rule_ok sh nd ne (by omega) hl2
      refine wr_of b1 ?_
      repeat (first | exact wo.mono (fin d' T3 _ _ _ _ ⟨b2, b3, fun s hs => turned_row (sh s hs) t5 (tm s hs)⟩ (p2.keep b4) (b4 _ _ hl2) (by omega) (fun j o jp e => b4 _ _ (kS2 _ _ jp e))) (fun _ _ z => False.elim z) | array_get_dec)
    · repeat (first | exact wo.mono (fin d T2 _ _ _ _ ⟨b2, b3, fun s hs => up_row (sh s hs) t5 (tm s hs)⟩ p2 hl2 (by omega) kS2) (fun _ _ z => False.elim z) | array_get_dec)
end Law
namespace Law
open PySem PySem.Spec PyProof.Rows L2 Rz PySem.W
local macro_rules | `(tactic| array_mem_dec) => `(tactic| first | assumption | ((with_reducible refine Keep.at' (by assumption) ?_); array_mem_dec) | ((with_reducible refine KeepB.at' (by assumption) (by first | assumption | omega) ?_); array_mem_dec))
local macro_rules | `(tactic| array_get_dec) => `(tactic| first
  | (with_reducible apply wo_seq) | (with_reducible apply wo_set) | (with_reducible apply wo_ret) | (with_reducible apply wo_if) | (with_reducible apply wo_exp)
  | (with_reducible apply wr_lit) | ((with_reducible apply wr_var); exact rfl) | (with_reducible apply wr_bin) | (with_reducible apply wr_binB) | (with_reducible apply wr_call) | (with_reducible apply wr_cons) | (with_reducible apply wr_nil)
  | (with_reducible apply wr_fn) | (with_reducible apply wr_not) | (with_reducible apply wr_and) | (with_reducible apply wr_or) | (with_reducible apply wr_ite) | (with_reducible apply wr_boo) | (with_reducible apply wr_tru) | (with_reducible apply wr_yes)
  | (with_reducible apply wr_tup) | (with_reducible apply wr_lst) | (with_reducible apply wr_un) | (with_reducible apply wr_isN) | (with_reducible apply wr_andV) | (with_reducible apply wr_orV) | (with_reducible apply wr_notV) | (with_reducible apply wr_orT) | (with_reducible apply wr_chain)
  | (with_reducible apply wr_addI) | (with_reducible apply wr_subI) | ((with_reducible apply wr_mulR); (· decide); (· decide)) | ((with_reducible apply wr_mulL); (· decide); (· decide)) | ((with_reducible apply wr_divI); (· omega); (· omega)) | ((with_reducible apply wr_modI); (· omega)) | (with_reducible apply wr_neg)
  | (with_reducible apply wr_lt) | (with_reducible apply wr_le) | (with_reducible apply wr_gt) | (with_reducible apply wr_ge) | ((with_reducible apply wr_eqS); exact rfl) | (with_reducible apply wr_ne) | (with_reducible apply wr_isB) | (with_reducible apply wr_isnB)
  | ((with_reducible apply wr_ixT); (· exact rfl)) | ((with_reducible apply wr_ixL); (· array_mem_dec); (· exact rfl)) | (with_reducible apply wr_trB) | ((with_reducible apply wr_trL); array_mem_dec) | ((with_reducible apply wr_lenL); array_mem_dec) | (with_reducible apply wr_lenT) | (with_reducible apply wr_intI) | (with_reducible apply wr_abs) | (with_reducible apply wr_min2)
  | (with_reducible apply wo_nx) | (with_reducible apply wo_retN) | (with_reducible apply wo_raise) | (with_reducible apply wo_asg) | (with_reducible apply wo_par) | (with_reducible apply wo_sub) | (with_reducible apply wo_for) | (with_reducible apply wr_isq) | (with_reducible apply wr_irg1) | (with_reducible apply wr_comp) | (with_reducible apply wr_met) | (with_reducible apply wr_met0)
  | ((with_reducible apply fnGo); (· exact rfl)) | ((with_reducible apply tupGo); (· simp only [List.length_cons, List.length_nil, Nat.reduceAdd, Nat.reduceLeDiff])) | ((with_reducible apply lstGo); (· simp only [List.length_cons, List.length_nil, Nat.reduceAdd, Nat.reduceLeDiff])) | ((with_reducible apply parGo); (· exact rfl)) | ((with_reducible apply asgGo); (· exact rfl)) | (with_reducible apply blGo)
  | ((with_reducible apply metGo); (· array_mem_dec)) | (with_reducible apply wr_fld) | ((with_reducible apply fldGo); (· array_mem_dec); (· exact rfl)) | (with_reducible apply wr_new) | (with_reducible apply wr_prop) | ((with_reducible apply propGo); (· array_mem_dec)) | (with_reducible apply isqT) | ((with_reducible apply isqL); (· array_mem_dec))
  | (with_reducible apply wr_me) | ((with_reducible apply methGo); (· array_mem_dec)) | (with_reducible apply wo_unl) | ((with_reducible apply unlGo); (· array_mem_dec); (· exact rfl); (· exact rfl)) | (with_reducible apply wo_try) | ((with_reducible apply wr_isX); (· array_mem_dec); (· first | exact rfl | decide)) | ((with_reducible apply wr_isXT); (· array_mem_dec); (· first | exact rfl | decide))
  | (with_reducible apply wr_neO) | ((with_reducible apply wr_eqO); (· array_mem_dec); (· array_mem_dec)) | ((with_reducible apply wr_isC); (· array_mem_dec)) | ((with_reducible apply wr_isi); (· first | exact rfl | (apply kindL; array_mem_dec)); (· decide)) | (with_reducible apply wr_sl) | (with_reducible apply wr_nop) | (with_reducible apply wo_dsub) | (with_reducible apply wr_dcomp)
  | (with_reducible apply bif_t) | (with_reducible apply bif_f) | (with_reducible apply bif_n) | ((with_reducible apply bif_dt); (· exact rfl)) | ((with_reducible apply bif_cf); (· decide)) | ((with_reducible apply bif_ct); (· decide)))
theorem tru_lst {x : XE} {δ : Rz.Env} {S S1 : Sto} {l : Nat} {ws : List Va} (h : x δ S = .ok (.loc l) S1) (h2 : getL S1 l = some ws) : xtru x δ S = .ok (!ws.isEmpty) S1 := by
  unfold xtru
  rw [h, bind_ok]
  unfold truV
  dsimp only
  rw [h2]
theorem Sh.len36 {L : List (List Int)} (h : ∀ s ∈ L, Sh s) (nd : L.Nodup) : L.length ≤ 36 := nd_len L allSh nd fun s hs => (h s hs).all
theorem rule_of_ok {L : List (List Int)} (sh : ∀ s ∈ L, Sh s) (nd : L.Nodup) (ne : L ≠ []) {n : Nat} {R : List Int → List Va} (n1 : 1 ≤ n) (n64 : n ≤ 64) (ro : ∀ s ∈ L, RowOk n s (R s)) {S : Sto} {d : Nat} (hD : DInv S d L R) : ∃ i T, m__law_rule_of [.tup [.int (n : Int), .loc d]] S = .ok (.loc i) T ∧ RuleAt T i L n R ∧ Keep S T := by
  have l36 := Sh.len36 sh nd
  have := ok_ex (r := m__law_rule_of [.tup [.int (n : Int), .loc d]] S) (P := fun v T => ∃ i, v = .loc i ∧ RuleAt T i L n R ∧ Keep S T) (by
    refine w__law_rule_of ?_
    repeat array_get_dec
    refine newGo' rfl (init_ok sh nd ne (by omega) n1 n64 ro hD) fun T ⟨h1, h2⟩ => ?_
    exact ⟨_, rfl, h1, h2⟩)
  obtain ⟨v, T, e, i, rfl, h1, h2⟩ := this
  exact ⟨i, T, e, h1, h2⟩
def Fr (U : Sto) (d n : Nat) : Prop := ∀ kvs, U[d]? = some (.dct kvs) → ∀ q ∈ kvs, ∃ r, q.2 = Va.loc r ∧ n ≤ r
theorem dc_fresh {nth : Nth} {put : XP} {kx vx : XE} {δ : Rz.Env} {S1 : Sto} {D : Nat} {P : List (List Int)} {R : List Int → List Va} {ws : List Va} (sh : ∀ s ∈ P, Sh s) (nd : P.Nodup) (hz : P.length ≤ 100) (hl : ws.length = P.length) (hn : ∀ T i, KeepB D S1 T → nth T i = some ws[i]?) (hD : S1[D]? = some (.dct []))
    (hs : ∀ (i : Nat) s w, P[i]? = some s → ws[i]? = some w → ∃ δ1, put w δ = some δ1 ∧ ∀ T, KeepB D S1 T → D < T.length → kx δ1 T = .ok (tI' s) T ∧ wr (vx δ1 T) (fun z T1 => ∃ r, z = .loc r ∧ T.length ≤ r ∧ T1[r]? = some (.lst (R s)) ∧ Keep T T1) noE) :
    wr (dcG nth put xyes kx vx D δ (ws.length + 1) 0 S1) (fun v U => v = .loc D ∧ DInv U D P R ∧ DJ U D ∧ Fr U D S1.length ∧ KeepB D S1 U) noE := by
  refine wr_dcG (ws := ws) (by omega) (fun i acc U => DInv U D (P.take i) R ∧ DJ U D ∧ KeepB D S1 U ∧ ∀ q ∈ acc, ∃ r, q.2 = Va.loc r ∧ S1.length ≤ r) (fun i acc U h => hn U i h.2.2.1) (fun i w acc U hw ⟨h1, h2, h3, h5⟩ hU => ?_) (fun acc U ⟨h1, h2, h3, h5⟩ hU => ⟨rfl, by rw [hl, List.take_length] at h1; exact h1, h2, fun kv e => by rw [hU] at e; cases e; exact h5, h3⟩) ws.length 0 [] S1 (by omega) (Nat.le_refl _) ⟨⟨[], hD, rfl, (fun s hs => nomatch hs), fun s _ => rfl⟩, DJ.nil hD, KeepB.refl _ _, fun q hq => nomatch hq⟩ hD
  have il : i < P.length := by rw [← hl]; exact (List.getElem?_eq_some_iff.mp hw).1
  have hp := List.getElem?_eq_getElem il
  obtain ⟨sm, nt, tk⟩ := take_new nd hp
  obtain ⟨δ1, e1, e2⟩ := hs i _ w hp hw
  obtain ⟨x1, x2⟩ := e2 U h3 (lt_of hU)
  refine ⟨δ1, e1, wr_of x1 (x2.mono fun z T1 ⟨r, ez, hr, hT1, k1⟩ => ?_)⟩
  subst ez
  obtain ⟨kvs, y1, y2, y3, y4⟩ := dinv_new (h1.keep k1) nt hT1 (by have := lt_of hU; omega)
  have hU1 := k1 _ _ hU
  have zz := hU1
  rw [y1] at zz
  cases zz
  refine ⟨_, keyT_sh (sh _ sm), y1, y3, fun V _ kb hV => ⟨by rw [tk]; exact y4 V kb hV, dj_new h1 (nd.sublist (List.take_sublist _ _)) h2 hU hr hV, (fun j o jn e => kb _ _ jn (k1 _ _ (h3 _ _ jn e))), fun q hq => by
    rcases List.mem_append.mp hq with m | m
    · exact h5 q m
    · rw [List.mem_singleton.mp m]; exact ⟨r, rfl, Nat.le_trans (kbLen h3 (lt_of hU)) hr⟩⟩⟩
theorem DInv.kbx {S T : Sto} {d x : Nat} {P : List (List Int)} {R : List Int → List Va} (h : DInv S d P R) (k : KeepB x S T) {kv : List (Va × Va)} (hx : S[x]? = some (.frd kv)) : DInv T d P R := by
  obtain ⟨kvs, h1, h2, h3, h4⟩ := h.ex
  refine ⟨kvs, k _ _ (fun e => by rw [e, hx] at h1; cases h1) h1, h2, fun s hs => ?_, h4⟩
  obtain ⟨r, r1, r2, r3⟩ := h3 s hs
  exact ⟨r, r1, r2, k _ _ (fun e => by rw [e, hx] at r3; cases r3) r3⟩
theorem calls_ok {T : Sto} {i n : Nat} {L : List (List Int)} {R : List Int → List Va} (sh : ∀ s ∈ L, Sh s) (nd : L.Nodup) (n64 : n ≤ 64) (ro : ∀ s ∈ L, RowOk n s (R s)) (h : RuleAt T i L n R) : ∃ d U P, m_Rule_calls [.loc i] T = .ok (.loc d) U ∧ P.Perm L ∧ P.map tI' = vsort (L.map tI') ∧ RI U d P n R ∧ T.length ≤ d ∧ Fr U d T.length ∧ Keep T U := by
  obtain ⟨D, P, a1, a2, a3, a4⟩ := h.ex
  have l36 := Sh.len36 sh nd
  have shP : ∀ s ∈ P, Sh s := fun s hs => sh s (a4.mem_iff.mp hs)
  have ndP : P.Nodup := a4.nodup_iff.mpr nd
  have zP := a4.length_eq
  obtain ⟨kvs, h1, h2, h3, h4⟩ := a2.ex
  have kl : kvs.length = P.length := by
    have := congrArg List.length h2
    rw [List.length_map, List.length_map] at this
    exact this
  have iD : i ≠ D := fun e => by rw [e, h1] at a1; cases a1
  have key := ok_ex (r := m_Rule_calls [.loc i] T) (P := fun v U => ∃ d, v = .loc d ∧ DInv U d P R ∧ DJ U d ∧ T.length ≤ d ∧ Fr U d T.length ∧ Keep T U) (by
    refine w_Rule_calls (wo_ret ?_)
    refine wr_lock (l := D) (fld_at (var_at rfl) a1 rfl) h1 fun T1 l1 k1 hT1 => ?_
    refine wr_dcomp (wr_items (wr_fld (wr_var rfl (fldGo (k1 _ _ iD a1) rfl ⟨D, kvs, rfl, hT1, fun d T2 ed l2 k2 hd => ?_⟩))))
    have hw : (kvs.map fun p => Va.tup [p.1, p.2]).length = kvs.length := List.length_map _
    have dc := dc_fresh (nth := nseq (kvs.map fun p => .tup [p.1, p.2])) (put := ptup 2 (pcons (pname 1) (pcons (pname 2) pnil))) (kx := xvar 1) (vx := xcall fList (acons (xvar 2) anil)) (δ := wipeE [some (.loc i), none, none] [1, 2]) (S1 := T2) (D := d) (P := P) (R := R) (ws := kvs.map fun p => Va.tup [p.1, p.2]) shP ndP (by omega) (by omega) (fun T i _ => rfl) hd (fun j s w hs hw => by
      rw [List.getElem?_map] at hw
      obtain ⟨q, hq, rfl⟩ := Option.map_eq_some_iff.mp hw
      obtain ⟨s', r, hs', rfl, rd, hr, _⟩ := pair_of ndP h2 h3 (List.mem_of_getElem? hq)
      have es : s' = s := by
        have e1 : (kvs.map Prod.fst)[j]? = some (tI' s') := by rw [List.getElem?_map, hq]; rfl
        rw [h2, List.getElem?_map, hs] at e1
        exact (tI_inj (Option.some.inj e1)).symm
      subst es
      refine ⟨_, rfl, fun U kU dU => ⟨var_at rfl, ?_⟩⟩
      have rl := lt_of hr
      have hrU : U[r]? = some (.lst (R s')) := kU _ _ (by omega) (k2 _ _ (k1 _ _ rd hr))
      refine wr_call (wr_cons (wr_var rfl (wr_nil ?_)))
      refine wr_lsL hrU (by rw [(ro s' (a4.mem_iff.mp hs')).1]; omega) fun e V ee _ kV hV => ⟨e, rfl, by omega, hV, kV⟩)
    rw [hw] at dc
    refine dc.use fun v U ⟨ev, g1, g2, gF, g3⟩ => ?_
    subst ev
    have Dd : D ≠ d := by have := lt_of hT1; omega
    have hUD := g3 _ _ Dd (k2 _ _ hT1)
    obtain ⟨kvd, z, _⟩ := g1.ex
    refine ⟨hUD, fun V _ kV hV => ⟨d, rfl, g1.kbx kV hUD, g2.eq z (kV _ _ (Ne.symm Dd) z), by omega, fun kv e => by
      have := kV _ _ (Ne.symm Dd) z
      rw [e] at this
      cases this
      intro q hq
      obtain ⟨r, r1, r2⟩ := gF _ z q hq
      exact ⟨r, r1, by omega⟩, fun j o e => ?_⟩⟩
    by_cases c : j = D
    · subst c
      rw [h1] at e
      cases e
      exact hV
    · exact kV _ _ c (g3 _ _ (by have := lt_of e; omega) (k2 _ _ (k1 _ _ c e))))
  obtain ⟨v, U, e, d, rfl, g1, g2, g3, gF, g4⟩ := key
  exact ⟨d, U, P, e, a4, a3, ⟨g1, g2, fun s hs => ro s (a4.mem_iff.mp hs)⟩, g3, gF, g4⟩
theorem RuleAt.perm {T : Sto} {i n : Nat} {P L : List (List Int)} {R : List Int → List Va} (h : RuleAt T i P n R) (p : P.Perm L) : RuleAt T i L n R := by
  obtain ⟨D, P', h1, h2, h3, h4⟩ := h.ex
  exact ⟨D, P', h1, h2, by rw [h3]; exact vsort_eq (alikeV_map tI' pur_tI alike_tI P) (p.map tI'), h4.trans p⟩
theorem RuleAt.congr {T : Sto} {i n : Nat} {L : List (List Int)} {R R' : List Int → List Va} (h : RuleAt T i L n R) (e : ∀ s ∈ L, R' s = R s) : RuleAt T i L n R' := by
  obtain ⟨D, P', h1, h2, h3, h4⟩ := h.ex
  exact ⟨D, P', h1, h2.congr fun s hs => e s (h4.mem_iff.mp hs), h3, h4⟩
theorem wr_listD {S : Sto} {l : Nat} {kvs : List (Va × Va)} {QV : Va → Sto → Prop} {E : Xp} (h1 : dctAt (.loc l) S = some kvs) (h0 : kvs.length ≤ 16777216) (h : ∀ d T, d = S.length → T.length = S.length + 1 → Keep S T → T[d]? = some (.lst (kvs.map Prod.fst)) → QV (.loc d) T) : wr (fListD [.loc l] S) QV E := by
  have e : fListD [.loc l] S = llst (kvs.map Prod.fst) S := by
    unfold fListD
    dsimp only
    rw [h1]
  rw [e]
  exact wr_llst (by rw [List.length_map]; exact h0) h
theorem shapes_ok {T : Sto} {i n : Nat} {L : List (List Int)} {R : List Int → List Va} (sh : ∀ s ∈ L, Sh s) (nd : L.Nodup) (h : RuleAt T i L n R) : ∃ (e : Nat) (U : Sto) (P : List (List Int)), m_Rule_shapes [.loc i] T = .ok (.loc e) U ∧ U[e]? = some (.lst (P.map tI')) ∧ P.map tI' = vsort (L.map tI') ∧ P.Perm L ∧ T.length ≤ e ∧ Keep T U := by
  obtain ⟨D, P, a1, a2, a3, a4⟩ := h.ex
  have l36 := Sh.len36 sh nd
  have zP := a4.length_eq
  obtain ⟨kvs, h1, h2, h3, h4⟩ := a2.ex
  have kl : kvs.length = P.length := by
    have := congrArg List.length h2
    rw [List.length_map, List.length_map] at this
    exact this
  have key := ok_ex (r := m_Rule_shapes [.loc i] T) (P := fun v U => ∃ e, v = .loc e ∧ U[e]? = some (.lst (P.map tI')) ∧ T.length ≤ e ∧ Keep T U) (by
    refine w_Rule_shapes (wo_ret (wr_call (wr_cons (wr_fld (wr_var rfl (fldGo a1 rfl (wr_nil ?_)))))))
    refine wr_listD (dct_get h1) (by omega) fun e U ee _ kU hU => ⟨e, rfl, by rw [hU, h2], by omega, kU⟩)
  obtain ⟨v, U, e, d, rfl, g1, g2, g3⟩ := key
  exact ⟨d, U, P, e, g1, a3, a4, g2, g3⟩
theorem wr_meth {c n : Nat} {m : List Va → Sto → Rs Va} {x : XE} {as : XA} {δ : Rz.Env} {S S1 : Sto} {l : Nat} {fs : List Va} {QV : Va → Sto → Prop} {E : Xp} (hx : x δ S = .ok (.loc l) S1) (h1 : S1[l]? = some (.ins c fs)) (h : wr (as δ S1) (fun us S2 => us.length + 1 = n ∧ wr (m (.loc l :: us) S2) QV E) E) : wr (ymeth c n m x as δ S) QV E := by
  unfold ymeth
  refine wr_bind ?_
  rw [hx]
  refine wr_of rfl ?_
  rw [show insAt c (.loc l) S1 = some fs from insAt_eq h1]
  dsimp only
  exact wr_bind (h.mono fun us S2 h => by rw [if_pos h.1]; exact h.2)
end Law
namespace Law
open PySem PySem.Spec PyProof.Rows L2 Rz PySem.W
local macro_rules | `(tactic| array_mem_dec) => `(tactic| first | assumption | ((with_reducible refine Keep.at' (by assumption) ?_); array_mem_dec) | ((with_reducible refine KeepB.at' (by assumption) (by first | assumption | omega) ?_); array_mem_dec))
local macro_rules | `(tactic| array_get_dec) => `(tactic| first
  | (with_reducible apply wo_seq) | (with_reducible apply wo_set) | (with_reducible apply wo_ret) | (with_reducible apply wo_if) | (with_reducible apply wo_exp)
  | (with_reducible apply wr_lit) | ((with_reducible apply wr_var); exact rfl) | (with_reducible apply wr_bin) | (with_reducible apply wr_binB) | (with_reducible apply wr_call) | (with_reducible apply wr_cons) | (with_reducible apply wr_nil)
  | (with_reducible apply wr_fn) | (with_reducible apply wr_not) | (with_reducible apply wr_and) | (with_reducible apply wr_or) | (with_reducible apply wr_ite) | (with_reducible apply wr_boo) | (with_reducible apply wr_tru) | (with_reducible apply wr_yes)
  | (with_reducible apply wr_tup) | (with_reducible apply wr_lst) | (with_reducible apply wr_un) | (with_reducible apply wr_isN) | (with_reducible apply wr_andV) | (with_reducible apply wr_orV) | (with_reducible apply wr_notV) | (with_reducible apply wr_orT) | (with_reducible apply wr_chain)
  | (with_reducible apply wr_addI) | (with_reducible apply wr_subI) | ((with_reducible apply wr_mulR); (· decide); (· decide)) | ((with_reducible apply wr_mulL); (· decide); (· decide)) | ((with_reducible apply wr_divI); (· omega); (· omega)) | ((with_reducible apply wr_modI); (· omega)) | (with_reducible apply wr_neg)
  | (with_reducible apply wr_lt) | (with_reducible apply wr_le) | (with_reducible apply wr_gt) | (with_reducible apply wr_ge) | ((with_reducible apply wr_eqS); exact rfl) | (with_reducible apply wr_ne) | (with_reducible apply wr_isB) | (with_reducible apply wr_isnB)
  | ((with_reducible apply wr_ixT); (· exact rfl)) | ((with_reducible apply wr_ixL); (· array_mem_dec); (· exact rfl)) | (with_reducible apply wr_trB) | ((with_reducible apply wr_trL); array_mem_dec) | ((with_reducible apply wr_lenL); array_mem_dec) | (with_reducible apply wr_lenT) | (with_reducible apply wr_intI) | (with_reducible apply wr_abs) | (with_reducible apply wr_min2)
  | (with_reducible apply wo_nx) | (with_reducible apply wo_retN) | (with_reducible apply wo_raise) | (with_reducible apply wo_asg) | (with_reducible apply wo_par) | (with_reducible apply wo_sub) | (with_reducible apply wo_for) | (with_reducible apply wr_isq) | (with_reducible apply wr_irg1) | (with_reducible apply wr_comp) | (with_reducible apply wr_met) | (with_reducible apply wr_met0)
  | ((with_reducible apply fnGo); (· exact rfl)) | ((with_reducible apply tupGo); (· simp only [List.length_cons, List.length_nil, Nat.reduceAdd, Nat.reduceLeDiff])) | ((with_reducible apply lstGo); (· simp only [List.length_cons, List.length_nil, Nat.reduceAdd, Nat.reduceLeDiff])) | ((with_reducible apply parGo); (· exact rfl)) | ((with_reducible apply asgGo); (· exact rfl)) | (with_reducible apply blGo)
  | ((with_reducible apply metGo); (· array_mem_dec)) | (with_reducible apply wr_fld) | ((with_reducible apply fldGo); (· array_mem_dec); (· exact rfl)) | (with_reducible apply wr_new) | (with_reducible apply wr_prop) | ((with_reducible apply propGo); (· array_mem_dec)) | (with_reducible apply isqT) | ((with_reducible apply isqL); (· array_mem_dec))
  | (with_reducible apply wr_me) | ((with_reducible apply methGo); (· array_mem_dec)) | (with_reducible apply wo_unl) | ((with_reducible apply unlGo); (· array_mem_dec); (· exact rfl); (· exact rfl)) | (with_reducible apply wo_try) | ((with_reducible apply wr_isX); (· array_mem_dec); (· first | exact rfl | decide)) | ((with_reducible apply wr_isXT); (· array_mem_dec); (· first | exact rfl | decide))
  | (with_reducible apply wr_neO) | ((with_reducible apply wr_eqO); (· array_mem_dec); (· array_mem_dec)) | ((with_reducible apply wr_isC); (· array_mem_dec)) | ((with_reducible apply wr_isi); (· first | exact rfl | (apply kindL; array_mem_dec)); (· decide)) | (with_reducible apply wr_sl) | (with_reducible apply wr_nop) | (with_reducible apply wo_dsub) | (with_reducible apply wr_dcomp)
  | (with_reducible apply bif_t) | (with_reducible apply bif_f) | (with_reducible apply bif_n) | ((with_reducible apply bif_dt); (· exact rfl)) | ((with_reducible apply bif_cf); (· decide)) | ((with_reducible apply bif_ct); (· decide))
  | ((with_reducible apply wr_isv); (· first | exact rfl | assumption)) | ((with_reducible apply bif_df); (· simp only [List.length_cons, List.length_nil]; omega))
  | (with_reducible apply wr_inc))
def shB : List Int → Bool
  | [a] => decide (0 ≤ a) && decide (a ≤ 5)
  | [a, b] => decide (0 ≤ a) && decide (a ≤ 5) && (decide (0 ≤ b) && decide (b ≤ 5)) && decide (a ≠ b)
  | _ => false
theorem shB_sh {s : List Int} (h : shB s = true) : Sh s := by
  unfold shB at h
  split at h
  · simp only [Bool.and_eq_true, decide_eq_true_eq] at h
    exact .one _ h
  · simp only [Bool.and_eq_true, decide_eq_true_eq] at h
    exact .two _ _ h.1.1 h.1.2 h.2
  · cases h
def dif (i j : Nat) : Int := if ((i : Int) - (j : Int)) < 0 then -((i : Int) - (j : Int)) else (i : Int) - (j : Int)
def adjG (g : Nat) (d : Int) (i m : Nat) : List (List Int) := ((List.range m).filter fun j => decide (dif i j = d)).map fun (j : Nat) => [(i : Int), (j : Int)]
def poolG (g : Nat) : Nat → List (List Int)
  | 0 => (List.range (g + 1)).map fun (i : Nat) => [(i : Int)]
  | i + 1 => poolG g i ++ adjG g 1 i (g + 1) ++ (adjG g 2 i (g + 1)).take 1
theorem poolG_ok : ∀ g, g < 6 → (poolG g (g + 1)).all shB = true ∧ (poolG g (g + 1)).Nodup ∧ (∀ i, i < g + 2 → (poolG g i).length ≤ 36) ∧ (poolG g (g + 1)).all (fun s => s.all fun i => decide (i ≤ (g : Int))) = true := by decide +kernel
theorem adjG_len (g : Nat) (d : Int) (i m : Nat) : (adjG g d i m).length ≤ m := by
  unfold adjG
  rw [List.length_map]
  exact Nat.le_trans (List.length_filter_le _ _) (by simp)
theorem adjG_va (g : Nat) (d : Int) (i m : Nat) : (adjG g d i (m + 1)).map tI' = (adjG g d i m).map tI' ++ (if decide (dif i m = d) then [Va.tup [.int i, .int m]] else []) := by
  unfold adjG
  rw [List.range_succ, List.filter_append, List.map_append, List.map_append]
  congr 1
  by_cases c : dif i m = d <;> simp [c]
theorem adjG_ok {g i : Nat} (hg : g < 6) {d : Int} {δ : Rz.Env} {S : Sto} (h2 : δ[2]? = some (some (.int (g : Int)))) (h4 : δ[4]? = some (some (.int (i : Int)))) (h6 : δ.length = 7) {QV : Va → Sto → Prop} {E : Xp} (q : ∀ D T, D = S.length → Keep S T → T[D]? = some (.lst ((adjG g d i (g + 1)).map tI')) → QV (.loc D) T) :
    wr (xcomp [6] (irg1 (xbin oAdd (xvar 2) (xlit (.int 1)))) (pname 6) (xbinB cEq (xcall fAbs (acons (xbin oSub (xvar 4) (xvar 6)) anil)) (xlit (.int d))) (xtup (acons (xvar 4) (acons (xvar 6) anil))) δ S) QV E := by
  refine wr_comp (wr_irg1 (wr_bin (wr_var h2 (wr_lit (wr_addI ?_)))))
  refine rngGo (g + 1) (by omega) (by omega) ?_
  intro D T0 eD lT kT hD
  have w4 : ∀ v, ((wipeE δ [6]).set 6 (some v))[4]? = some (some (.int (i : Int))) := fun v => by
    rw [List.getElem?_set_ne (by decide)]
    show (δ.set 6 none)[4]? = _
    rw [List.getElem?_set_ne (by decide), h4]
  have w6 : ∀ v, ((wipeE δ [6]).set 6 (some v))[6]? = some (some v) := fun v => List.getElem?_set_self (by show 6 < (δ.set 6 none).length; rw [List.length_set]; omega)
  refine wr_cR (n := g + 1) (by omega) (fun m acc T => acc = (adjG g d i m).map tI' ∧ Keep S T) ⟨rfl, kT⟩ hD (fun m acc T hm ⟨ea, kk⟩ hT => ⟨(wipeE δ [6]).set 6 (some (.int (0 + (m : Int)))), rfl, ?_⟩) (fun acc T ⟨ea, kk⟩ hT => q D T eD kk (by rw [hT, ea]))
  refine wr_binB (wr_call (wr_cons (wr_bin (wr_var (w4 _) (wr_var (w6 _) (wr_subI (wr_nil (wr_abs (wr_lit (wr_eqS rfl ?_))))))))))
  have e : (if (i : Int) - (0 + (m : Int)) < 0 then -((i : Int) - (0 + (m : Int))) else (i : Int) - (0 + (m : Int))) = dif i m := by unfold dif; rw [Int.zero_add]
  rw [e]
  have va := adjG_va g d i m
  by_cases c : dif i m = d
  · rw [decide_eq_true c] at va ⊢
    refine bif_t (wr_tup (wr_cons (wr_var (w4 _) (wr_cons (wr_var (w6 _) (wr_nil (tupGo (by simp) ?_)))))))
    refine ⟨hT, fun U lU kU hU => ⟨?_, kk.kb (by omega) kU⟩⟩
    rw [ea, va, Int.zero_add]
    rfl
  · rw [decide_eq_false c] at va ⊢
    refine bif_f ⟨hT, ?_, kk⟩
    rw [ea, va]
    simp
theorem shapes_g {g most : Nat} (hg : g < 6) (hm : most ≤ 1000) (p n : Nat) (hn : n + 4000 < 4294967296) (S : Sto) (hp : Pen S p n) : ∃ q S' L, m__law_shapes [.loc p, .int most, .int g] S = .ok (.loc q) S' ∧ S'[q]? = some (.lst (L.map tI')) ∧ L ≠ [] ∧ (∀ s ∈ L, Sh s) ∧ L.Nodup ∧ (L.length ≤ most ∨ L.length = 1) ∧ (∀ s ∈ L, ∀ i ∈ s, i ≤ (g : Int)) ∧ Pen S' p (n + 2002) ∧ KeepB p S S' ∧ S.length ≤ q := by
  have plt := hp.lt
  obtain ⟨o1, o2, o3, o4⟩ := poolG_ok g hg
  have o1' : ∀ s ∈ poolG g (g + 1), Sh s := fun s hs => shB_sh (List.all_eq_true.mp o1 s hs)
  have o4' : ∀ s ∈ poolG g (g + 1), ∀ i ∈ s, i ≤ (g : Int) := fun s hs i hi => of_decide_eq_true (List.all_eq_true.mp (List.all_eq_true.mp o4 s hs) i hi)
  suffices z : wr (m__law_shapes [.loc p, .int most, .int g] S) (fun v T => ∃ q L, v = .loc q ∧ T[q]? = some (.lst (L.map tI')) ∧ L ≠ [] ∧ (∀ s ∈ L, Sh s) ∧ L.Nodup ∧ (L.length ≤ most ∨ L.length = 1) ∧ (∀ s ∈ L, ∀ i ∈ s, i ≤ (g : Int)) ∧ Pen T p (n + 2002) ∧ KeepB p S T ∧ S.length ≤ q) noE by
    obtain ⟨v, T, e, q, L, rfl, h⟩ := ok_ex z
    exact ⟨q, T, L, e, h⟩
  refine w__law_shapes (wt__law_shapes_0 ?_)
  repeat array_get_dec
  refine rngGo (g + 1) (by omega) (by omega) ?_
  intro D T0 eD lT kT hD
  refine wr_cR (n := g + 1) (by omega) (fun m acc T => acc = ((List.range m).map fun (i : Nat) => [(i : Int)]).map tI' ∧ Keep S T) ⟨rfl, kT⟩ hD (fun m acc T hm ⟨ea, kk⟩ hT => ⟨_, rfl, wr_yes (bif_t ?_)⟩) (fun acc T ⟨ea, kk⟩ hT => ?_)
  · repeat array_get_dec
    refine ⟨hT, fun U lU kU hU => ⟨?_, kk.kb (by omega) kU⟩⟩
    rw [ea, List.range_succ, List.map_append, List.map_append, Int.zero_add]
    rfl
  rw [ea] at hT
  refine wt__law_shapes_1 ?_
  repeat array_get_dec
  refine rngGo (g + 1) (by omega) (by omega) ?_
  refine wo_rng (n := g + 1) (fun m δ U => ∃ e d4 d5 d6, δ = [some (.loc p), some (.int (most : Int)), some (.int (g : Int)), some (.loc e), d4, d5, d6] ∧ U[e]? = some (.lst ((poolG g m).map tI')) ∧ Keep S U ∧ S.length ≤ e) ⟨D, none, none, none, rfl, hT, kk, by omega⟩ (fun m δ U hm ⟨e, d4, d5, d6, ed, he, kU, le⟩ => ?_) (fun δ U ⟨e, d4, d5, d6, ed, he, kU, le⟩ => ?_)
  · subst ed
    refine ⟨_, rfl, ?_⟩
    rw [Int.zero_add]
    refine wl__law_shapes_0 (wt__law_shapes_0_0 ?_)
    have l1 := o3 m (by omega)
    have l2 := adjG_len g 1 m (g + 1)
    have l3 := adjG_len g 2 m (g + 1)
    refine wo_set (wr_bin (wr_var rfl (adjG_ok hg rfl rfl rfl fun D1 T1 e1 k1 h1 => ?_)))
    refine wr_addL (k1 _ _ he) h1 (by simp only [List.length_append, List.length_map]; omega) fun x1 U1 f1 t1 g1 hx1 => ?_
    refine wt__law_shapes_0_1 ?_
    refine wo_set (wr_bin (wr_var rfl (wr_sl (adjG_ok hg rfl rfl rfl fun D2 T2 e2 k2 h2 => wr_nop (wr_part (wr_lit ⟨1, rfl, ?_⟩))))))
    refine wr_cut h2 (by rw [List.length_map]; omega) fun x2 U2 f2 t2 g2 hx2 => ?_
    rw [cut1, ← List.map_take] at hx2
    have k3 : Keep U U2 := fun j o z => g2 _ _ (k2 _ _ (g1 _ _ (k1 _ _ z)))
    refine wr_addL (g2 _ _ (k2 _ _ hx1)) hx2 (by simp only [List.length_append, List.length_map, List.length_take]; omega) fun x3 U3 f3 t3 g3 hx3 => ?_
    refine ⟨x3, some (.int (m : Int)), d5, d6, rfl, ?_, fun j o z => g3 _ _ (k3 _ _ (kU _ _ z)), by have := Keep.len (fun j o z => k3 _ _ (kU _ _ z) : Keep S U2); omega⟩
    rw [hx3]
    show some (Ob.lst _) = some (Ob.lst ((poolG g m ++ adjG g 1 m (g + 1) ++ (adjG g 2 m (g + 1)).take 1).map tI'))
    rw [List.map_append, List.map_append]
  · subst ed
    refine wt__law_shapes_2 ?_
    obtain ⟨q, S3, ws, rest, s1, s2, s3, s4, s5, s6, s7⟩ := some_ok (pool := (poolG g (g + 1)).map tI') (by rw [List.length_map]; have := o3 (g + 1) (by omega); omega) p n (by omega) U (hp.keep kU) e he (most : Int) (by omega) (by omega)
    obtain ⟨L, rfl, ndL, inL⟩ := part_of tI_inj s3 o2
    rw [List.length_map] at s4
    have lq : S.length ≤ q := Nat.le_trans (Keep.len kU) s7
    have kb3 : KeepB p S S3 := fun x o ne z => s6 _ _ ne (kU _ _ z)
    repeat array_get_dec
    refine wr_of s1 ?_
    refine wt__law_shapes_3 ?_
    repeat array_get_dec
    intro em S4 e4 t4 k4 h4
    refine wr_of (cNe_emp (getL_lst (k4 _ _ s2)) (getL_lst h4)) ?_
    have kb4 : KeepB p S S4 := fun x o ne z => k4 _ _ (kb3 _ _ ne z)
    cases L with
    | cons x r =>
      refine bif_t ?_
      repeat array_get_dec
      exact ⟨q, x :: r, rfl, k4 _ _ s2, by simp, fun s hs => o1' s (inL s hs), ndL, .inl (by omega), fun s hs => o4' s (inL s hs), (s5.keep k4).mono (by omega), kb4, lq⟩
    | nil =>
      refine bif_f ?_
      obtain ⟨v, S5, d1, d2, d3, d5', d6'⟩ := draw_ok p (n + 2001) (by omega) S4 (s5.keep k4) ((g : Int) + 1) (by omega) (by omega)
      repeat array_get_dec
      refine wr_of d1 ?_
      repeat array_get_dec
      intro z S6 e6 t6 k6 h6
      have l5 := kbLen kb4 (s5.keep k4).lt
      refine ⟨z, [[v]], rfl, h6, by simp, fun s hs => ?_, by simp, .inr rfl, fun s hs i hi => ?_, (d5'.keep k6).mono (by omega), fun x o ne y => k6 _ _ (d6' _ _ ne (kb4 _ _ ne y)), by have := kbLen d6' d5'.lt; omega⟩
      · rw [List.mem_singleton.mp hs]
        exact .one v (by omega)
      · rw [List.mem_singleton.mp hs] at hi
        rw [List.mem_singleton.mp hi]
        omega
end Law
namespace Law
open PySem PySem.Spec PyProof.Rows L2 Rz PySem.W
theorem chg {c : List Int × List Int} (h : Ch c) (S : Sto) : m_is_change [cI c] S = .ok (.bl true) S := by
  have h1 := shp h.fst S
  have h2 := shp h.snd S
  have h3 := cEq_tI c.1 c.2 S
  rw [decide_eq_false h.ne] at h3
  simp [m_is_change, b_is_change, tup0, tup1, h1, h2, h3, cEq_int, kind]
theorem are_sh {L : List (List Int)} (hL : ∀ s ∈ L, Sh s) (nd : L.Nodup) (ne : L ≠ []) {S : Sto} {l : Nat} (h : S[l]? = some (.lst (L.map tI'))) : ∃ S', m_are_shapes [.loc l] S = .ok (.bl true) S' ∧ Keep S S' := by
  have l36 := Sh.len36 hL nd
  obtain ⟨S1, e1, k1⟩ := all_list (δ := [some (.loc l), none]) (v := 1) (x := xvar 0) (elt := ycall 1 m_is_shape (acons (xvar 1) anil)) (S := S) (S0 := S) (l := l) (ws := L.map tI') (var_at rfl) (getL_lst h) (by rw [List.length_map]; omega) (fun w hw S' kp => by
    obtain ⟨s, hs, rfl⟩ := List.mem_map.mp hw
    exact fn_at (one_at (var_at rfl)) rfl (shp (hL s hs) S'))
  have h1 := k1 _ _ h
  have nb : (nub (L.map tI')).length = L.length := by
    rw [← (nub_same (alikeV_map tI' pur_tI alike_tI L) (nd_map tI_inj nd)).length_eq, List.length_map]
  have ky : keyV (L.map tI') = true := keyV_shs (fun s hs => (hL s hs).ne) (by omega)
  have em : (L.map tI').isEmpty = false := by
    cases L with
    | nil => exact absurd rfl ne
    | cons a r => rfl
  refine ⟨S1, ?_, k1⟩
  have t : xor (xnot (xtru (xcall fIsi (acons (xvar 0) (acons (xlit (.ty 5)) anil))))) (xnot (xtru (xvar 0))) [some (.loc l), none] S = .ok false S :=
    or_f (not_at (tru_bl (call_at (cons_at (var_at rfl) (one_at lit_at)) (isiL h)))) (by
      have := not_at (tru_lst (x := xvar 0) (δ := [some (.loc l), none]) (var_at rfl) (getL_lst h))
      rw [em] at this
      exact this)
  have r : b_are_shapes [some (.loc l), none] S = .rt (.bl true) S1 := by
    unfold b_are_shapes
    refine seq_at (if_f t rfl) (ret_at (andV_t e1 (boo_at ?_)))
    exact cmp_at (call_at (one_at (var_at rfl)) (lenset_at (getL_lst h1) ky)) (call_at (one_at (var_at rfl)) (len_at (getL_lst h1))) (by rw [cEq_int, nb, List.length_map]; simp)
  show (b_are_shapes [some (.loc l), none] S).fin = _
  rw [r]
  rfl
theorem are_ch {C : List (List Int × List Int)} (hC : ∀ c ∈ C, Ch c) (nd : C.Nodup) (hz : C.length ≤ 60) {S : Sto} {l : Nat} (h : S[l]? = some (.lst (C.map cI))) : ∃ S', m_are_changes [.loc l] S = .ok (.bl true) S' ∧ Keep S S' := by
  obtain ⟨S1, e1, k1⟩ := all_list (δ := [some (.loc l), none]) (v := 1) (x := xvar 0) (elt := ycall 1 m_is_change (acons (xvar 1) anil)) (S := S) (S0 := S) (l := l) (ws := C.map cI) (var_at rfl) (getL_lst h) (by rw [List.length_map]; omega) (fun w hw S' kp => by
    obtain ⟨s, hs, rfl⟩ := List.mem_map.mp hw
    exact fn_at (one_at (var_at rfl)) rfl (chg (hC s hs) S'))
  have h1 := k1 _ _ h
  have nb : (nub (C.map cI)).length = C.length := by
    rw [← (nub_same (alikeV_map cI pur_cI alike_cI C) (nd_map cI_inj nd)).length_eq, List.length_map]
  have ky : keyV (C.map cI) = true := keyV_chs (by omega)
  refine ⟨S1, ?_, k1⟩
  have t : xnot (xtru (xcall fIsi (acons (xvar 0) (acons (xlit (.ty 5)) anil)))) [some (.loc l), none] S = .ok false S :=
    not_at (tru_bl (call_at (cons_at (var_at rfl) (one_at lit_at)) (isiL h)))
  have r : b_are_changes [some (.loc l), none] S = .rt (.bl true) S1 := by
    unfold b_are_changes
    refine seq_at (if_f t rfl) (ret_at (andV_t e1 (boo_at ?_)))
    exact cmp_at (call_at (one_at (var_at rfl)) (lenset_at (getL_lst h1) ky)) (call_at (one_at (var_at rfl)) (len_at (getL_lst h1))) (by rw [cEq_int, nb, List.length_map]; simp)
  show (b_are_changes [some (.loc l), none] S).fin = _
  rw [r]
  rfl
abbrev ends (C : List (List Int × List Int)) : List (List Int) := C.flatMap fun c => [c.1, c.2]
structure RoadOk (L : List (List Int)) (C : List (List Int × List Int)) : Prop where
  ne : L ≠ []
  sh : ∀ s ∈ L, Sh s
  nd : L.Nodup
  ch : ∀ c ∈ C, Ch c
  ndc : C.Nodup
  few : C.length ≤ 60
theorem RoadOk.all {L C} (R : RoadOk L C) : ∀ s ∈ L ++ ends C, Sh s := fun s h => by
  rcases List.mem_append.mp h with h | h
  · exact R.sh s h
  · obtain ⟨c, hc, h⟩ := List.mem_flatMap.mp h
    rcases List.mem_cons.mp h with z | z
    · rw [z]; exact (R.ch c hc).fst
    · rw [List.mem_singleton.mp z]; exact (R.ch c hc).snd
theorem ends_len : ∀ C : List (List Int × List Int), (ends C).length = 2 * C.length
  | [] => rfl
  | c :: C => by
    have := ends_len C
    show ([c.1, c.2] ++ ends C).length = _
    rw [List.length_append, this]
    simp
    omega
abbrev sB (L : List (List Int)) : List Va := vsort (L.map tI')
abbrev sC (C : List (List Int × List Int)) : List Va := vsort (C.map cI)
abbrev sS (L : List (List Int)) (C : List (List Int × List Int)) : List Va := vsort (nub ((L ++ ends C).map tI'))
def RoadAt (S : Sto) (i : Nat) (L : List (List Int)) (C : List (List Int × List Int)) : Prop := ∃ a b c, S[i]? = some (.ins 41 [.loc a, .loc b, .loc c]) ∧ S[a]? = some (.lst (sB L)) ∧ S[b]? = some (.lst (sC C)) ∧ S[c]? = some (.lst (sS L C))
theorem RoadAt.keep {S S' : Sto} {i : Nat} {L C} (h : RoadAt S i L C) (k : Keep S S') : RoadAt S' i L C := by
  obtain ⟨a, b, c, h1, h2, h3, h4⟩ := h
  exact ⟨a, b, c, k _ _ h1, k _ _ h2, k _ _ h3, k _ _ h4⟩
def tupOf : Va → List Va
  | .tup us => us
  | _ => []
theorem ends_va (C : List (List Int × List Int)) : ((C.map cI).flatMap fun w => (tupOf w).filterMap fun u => some u) = (ends C).map tI' := by
  induction C with
  | nil => rfl
  | cons c C ih =>
    rw [List.map_cons, List.flatMap_cons, ih]
    rfl
theorem road_init {L C} (R : RoadOk L C) {S : Sto} {i l q : Nat} (hi : S[i]? = some (.ins 41 [])) (hl : S[l]? = some (.lst (L.map tI'))) (hq : S[q]? = some (.lst (C.map cI))) :
    ∃ S', m_Road___init__ [.loc i, .loc l, .loc q] S = .ok .non S' ∧ KeepB i S S' ∧ RoadAt S' i L C ∧ ∃ a b c, S'[i]? = some (.ins 41 [.loc a, .loc b, .loc c]) ∧ S.length ≤ a ∧ S.length ≤ b ∧ S.length ≤ c := by
  have ilt : i < S.length := (List.getElem?_eq_some_iff.mp hi).1
  have nl : l ≠ i := fun z => by rw [z, hi] at hl; cases hl
  have nq : q ≠ i := fun z => by rw [z, hi] at hq; cases hq
  have l36 := Sh.len36 R.sh R.nd
  obtain ⟨S1, e1, k1⟩ := are_sh R.sh R.nd R.ne hl
  obtain ⟨S2, e2, k2⟩ := are_ch R.ch R.ndc R.few (k1 _ _ hq)
  have k12 := k1.trans k2
  have hi2 := k12 _ _ hi
  have hl2 := k12 _ _ hl
  have hq2 := k12 _ _ hq
  have ln2 := k12.len
  have q1 : sif (xor (xnot (xtru (ycall 1 m_are_shapes (acons (xvar 1) anil)))) (xnot (xtru (ycall 1 m_are_changes (acons (xvar 2) anil))))) (sraise 13) snext [some (.loc i), some (.loc l), some (.loc q), none, none] S = .nx [some (.loc i), some (.loc l), some (.loc q), none, none] S2 :=
    if_f (or_f (not_at (tru_bl (fn_at (one_at (var_at rfl)) rfl e1))) (not_at (tru_bl (fn_at (one_at (var_at rfl)) rfl e2)))) rfl
  -- the first
  generalize eS3 : S2 ++ [Ob.lst (sB L)] = S3
  have k23 : Keep S2 S3 := by rw [← eS3]; exact Keep.app _ _
  have ha3 : S3[S2.length]? = some (.lst (sB L)) := by rw [← eS3]; exact get_new _ _ _
  have hi3 := k23 _ _ hi2
  have ln3 := k23.len
  generalize eS4 : S3.set i (.ins 41 [.loc S2.length]) = S4
  have q2 : sfld 41 0 (xvar 0) (xcall fSrt (acons (xvar 1) anil)) [some (.loc i), some (.loc l), some (.loc q), none, none] S2 = .nx [some (.loc i), some (.loc l), some (.loc q), none, none] S4 := by
    have s := srt_at (getL_lst hl2) (sortV_shs fun s hs => (R.sh s hs).ne) (by rw [List.length_map]; omega)
    rw [eS3] at s
    rw [← eS4]
    exact sfld_at (call_at (one_at (var_at rfl)) s) (var_at rfl) hi3 rfl
  have k34 : KeepB i S3 S4 := by rw [← eS4]; exact KeepB.set _ _ _
  have i3lt : i < S3.length := (List.getElem?_eq_some_iff.mp hi3).1
  have hi4 : S4[i]? = some (.ins 41 [.loc S2.length]) := by rw [← eS4]; exact List.getElem?_set_self i3lt
  have ha4 := k34 _ _ (by omega) ha3
  have hl4 := k34 _ _ nl (k23 _ _ hl2)
  have hq4 := k34 _ _ nq (k23 _ _ hq2)
  have ln4 : S4.length = S3.length := by rw [← eS4]; simp
  -- the second
  generalize eS5 : S4 ++ [Ob.lst (sC C)] = S5
  have k45 : Keep S4 S5 := by rw [← eS5]; exact Keep.app _ _
  have hb5 : S5[S4.length]? = some (.lst (sC C)) := by rw [← eS5]; exact get_new _ _ _
  have hi5 := k45 _ _ hi4
  have ln5 := k45.len
  generalize eS6 : S5.set i (.ins 41 [.loc S2.length, .loc S4.length]) = S6
  have q3 : sfld 41 1 (xvar 0) (xcall fSrt (acons (xvar 2) anil)) [some (.loc i), some (.loc l), some (.loc q), none, none] S4 = .nx [some (.loc i), some (.loc l), some (.loc q), none, none] S6 := by
    have s := srt_at (getL_lst hq4) (sortV_chs C) (by rw [List.length_map]; have := R.few; omega)
    rw [eS5] at s
    rw [← eS6]
    exact sfld_at (call_at (one_at (var_at rfl)) s) (var_at rfl) hi5 rfl
  have k56 : KeepB i S5 S6 := by rw [← eS6]; exact KeepB.set _ _ _
  have i5lt : i < S5.length := (List.getElem?_eq_some_iff.mp hi5).1
  have hi6 : S6[i]? = some (.ins 41 [.loc S2.length, .loc S4.length]) := by rw [← eS6]; exact List.getElem?_set_self i5lt
  have ha6 := k56 _ _ (by omega) (k45 _ _ ha4)
  have hb6 := k56 _ _ (by omega) hb5
  have hl6 := k56 _ _ nl (k45 _ _ hl4)
  have hq6 := k56 _ _ nq (k45 _ _ hq4)
  have ln6 : S6.length = S5.length := by rw [← eS6]; simp
  -- the third
  have few := R.few
  have cm : xcomp2 [3, 4] [4] (isq (xvar 2)) (pname 3) xyes (isq (xvar 3)) (pname 4) xyes (xvar 4) [some (.loc i), some (.loc l), some (.loc q), none, none] S6 = .ok (.loc S6.length) (S6 ++ [.lst ((ends C).map tI')]) := by
    have := comp2_list (x := xvar 2) (vs := [3, 4]) (vs1 := [4]) (xi1 := isq (xvar 3)) (put := pname 3) (put1 := pname 4) (cond1 := xyes) (elt := xvar 4) (δ := [some (.loc i), some (.loc l), some (.loc q), none, none]) (S := S6) (S0 := S6) tupOf (fun _ u => some u) (var_at rfl) (getL_lst hq6) (by rw [List.length_map]; omega) (fun w hw => by
      obtain ⟨c, hc, rfl⟩ := List.mem_map.mp hw
      refine ⟨by show 2 ≤ 64; decide, _, nseq [tI' c.1, tI' c.2], rfl, fun S' kp => isq_tup (var_at rfl), fun S' i kp => rfl, fun u hu => ⟨_, rfl, fun S' kp => .inl ⟨u, rfl, rfl, var_at rfl⟩⟩⟩)
    rw [ends_va] at this
    exact this
  generalize eS7 : S6 ++ [Ob.lst ((ends C).map tI')] = S7 at cm
  have k67 : Keep S6 S7 := by rw [← eS7]; exact Keep.app _ _
  have he7 : S7[S6.length]? = some (.lst ((ends C).map tI')) := by rw [← eS7]; exact get_new _ _ _
  generalize eS8 : S7 ++ [Ob.lst ((L ++ ends C).map tI')] = S8
  have k78 : Keep S7 S8 := by rw [← eS8]; exact Keep.app _ _
  have hc8 : S8[S7.length]? = some (.lst ((L ++ ends C).map tI')) := by rw [← eS8]; exact get_new _ _ _
  have cat : oAdd (.loc l) (.loc S6.length) S7 = .ok (.loc S7.length) S8 := by
    have := cat_at (k67 _ _ hl6) he7 (by rw [List.length_append, List.length_map, List.length_map, ends_len]; omega)
    rw [← List.map_append, eS8] at this
    exact this
  generalize eS9 : S8 ++ [Ob.lst (sS L C)] = S9
  have k89 : Keep S8 S9 := by rw [← eS9]; exact Keep.app _ _
  have hs9 : S9[S8.length]? = some (.lst (sS L C)) := by rw [← eS9]; exact get_new _ _ _
  have n36 := nub_shs R.all
  have srs := srtset_at (getL_lst hc8) (keyV_shs (fun s hs => (R.all s hs).ne) (by omega)) (by omega)
  rw [eS9] at srs
  have k69 := (k67.trans k78).trans k89
  have hi9 := k69 _ _ hi6
  have i9lt : i < S9.length := (List.getElem?_eq_some_iff.mp hi9).1
  have q4 : sfld 41 2 (xvar 0) (xcall fSrtSet (acons (xbin oAdd (xvar 1) (xcomp2 [3, 4] [4] (isq (xvar 2)) (pname 3) xyes (isq (xvar 3)) (pname 4) xyes (xvar 4))) anil)) [some (.loc i), some (.loc l), some (.loc q), none, none] S6 = .nx [some (.loc i), some (.loc l), some (.loc q), none, none] (S9.set i (.ins 41 [.loc S2.length, .loc S4.length, .loc S8.length])) :=
    sfld_at (call_at (one_at (bin_at (var_at rfl) cm cat)) srs) (var_at rfl) hi9 rfl
  have k9 : KeepB i S9 (S9.set i (.ins 41 [.loc S2.length, .loc S4.length, .loc S8.length])) := KeepB.set _ _ _
  have ln8 := (k67.trans k78).len
  refine ⟨_, ?_, (((k12.trans k23).but.trans k34).trans (k45.but.trans k56)).trans (k69.but.trans k9), ⟨S2.length, S4.length, S8.length, List.getElem?_set_self i9lt, k9 _ _ (by omega) (k69 _ _ ha6), k9 _ _ (by omega) (k69 _ _ hb6), k9 _ _ (by omega) hs9⟩, S2.length, S4.length, S8.length, List.getElem?_set_self i9lt, by omega, by omega, by omega⟩
  show (b_Road___init__ [some (.loc i), some (.loc l), some (.loc q), none, none] S).fin = _
  unfold b_Road___init__
  rw [seq_at q1 (seq_at q2 (seq_at q3 q4))]
  rfl
end Law
namespace Law
open PySem PySem.Spec PyProof.Rows L2 Rz PySem.W
theorem as_map {α : Type} {f : α → Va} {rs : List α} : ∀ {l : List Va}, (∀ w ∈ l, ∃ s ∈ rs, w = f s) → ∃ rs2 : List α, l = rs2.map f ∧ ∀ s ∈ rs2, s ∈ rs
  | [], _ => ⟨[], rfl, fun s h => nomatch h⟩
  | w :: l, h => by
    obtain ⟨s, hs, e⟩ := h w List.mem_cons_self
    obtain ⟨rs2, e2, h2⟩ := as_map (l := l) fun u hu => h u (List.mem_cons_of_mem _ hu)
    exact ⟨s :: rs2, by rw [List.map_cons, ← e, ← e2], fun x hx => by
      rcases List.mem_cons.mp hx with z | z
      · rw [z]; exact hs
      · exact h2 x z⟩
theorem sB_eq (L : List (List Int)) : ∃ rs : List (List Int), sB L = rs.map tI' ∧ rs.Perm L := perm_map tI_inj (vsort_perm _)
theorem sC_eq (C : List (List Int × List Int)) : ∃ cs : List (List Int × List Int), sC C = cs.map cI ∧ cs.Perm C := perm_map cI_inj (vsort_perm _)
theorem sS_eq {L C} (R : RoadOk L C) : ∃ rs : List (List Int), sS L C = rs.map tI' ∧ rs.length ≤ 36 ∧ ∀ s, s ∈ rs ↔ s ∈ L ++ ends C := by
  obtain ⟨r1, e1, h1⟩ := as_map (f := tI') (rs := L ++ ends C) (l := nub ((L ++ ends C).map tI')) fun w hw => by
    obtain ⟨s, hs, rfl⟩ := List.mem_map.mp (nub_mem hw)
    exact ⟨s, hs, rfl⟩
  obtain ⟨rs, e2, p⟩ := perm_map (f := tI') (L := r1) tI_inj (l := sS L C) (by rw [← e1]; exact vsort_perm _)
  have ln : rs.length = (nub ((L ++ ends C).map tI')).length := by rw [p.length_eq, e1, List.length_map]
  refine ⟨rs, e2, by rw [ln]; exact nub_shs R.all, fun s => ⟨fun h => h1 s (p.mem_iff.mp h), fun h => ?_⟩⟩
  obtain ⟨u, hu, e⟩ := nub_tk (List.mem_map.mpr ⟨s, h, rfl⟩ : tI' s ∈ (L ++ ends C).map tI')
  have same : u = tI' s := tk_inj (alikeV_map tI' pur_tI alike_tI (L ++ ends C)) (nub_mem hu) (List.mem_map.mpr ⟨s, h, rfl⟩) e
  rw [e1, same] at hu
  obtain ⟨t, ht, e3⟩ := List.mem_map.mp hu
  rw [tI_inj e3] at ht
  exact p.mem_iff.mpr ht
theorem in_tps {S : Sto} {l : Nat} {rs : List (List Int)} {s : List Int} (h : getL S l = some (rs.map tI')) (hs : s ∈ rs) : cNin (tI' s) (.loc l) S = .ok false S := by
  have e : cIn (tI' s) (.loc l) S = .ok true S := by
    unfold cIn
    rw [toD_tI s 62, toD_list h (allD_tps S 61 rs)]
    dsimp only
    rw [shaped_tI, shaped_tps]
    have : ((tpd rs).any fun z => PyData.eqv z (dat (tI' s))) = true := by
      rw [List.any_eq_true]
      refine ⟨.tuple (s.map .int), List.mem_map.mpr ⟨s, hs, rfl⟩, ?_⟩
      rw [← dat_tI, eqv_tI]
      exact decide_eq_true rfl
    rw [this]
    rfl
  unfold cNin
  rw [e]
  rfl
theorem sortV_perm {l m : List Va} (p : l.Perm m) (h : sortV l = true) : sortV m = true := by
  unfold sortV at h ⊢
  simp only [Bool.and_eq_true, Bool.or_eq_true, List.all_eq_true] at h ⊢
  exact ⟨⟨alikeV_perm p h.1.1, h.1.2.imp (fun z x hx => z x (p.mem_iff.mpr hx)) fun z x hx => z x (p.mem_iff.mpr hx)⟩, fun x hx => h.2 x (p.mem_iff.mpr hx)⟩
theorem road_begin_ok {L C} (R : RoadOk L C) {S : Sto} {i : Nat} (h : RoadAt S i L C) : m_Road_begin [.loc i] S = .ok (.loc S.length) (S ++ [.lst (sB L)]) := by
  obtain ⟨a, b, c, h1, h2, h3, h4⟩ := h
  have l36 := Sh.len36 R.sh R.nd
  show (sret (xcall fList (acons (xfld 41 0 (xvar 0)) anil)) [some (.loc i)] S).fin = _
  rw [ret_at (call_at (one_at (fld_at (var_at rfl) h1 rfl)) (list_at (getL_lst h2) (by rw [(vsort_perm _).length_eq, List.length_map]; omega)))]
  rfl
theorem road_shapes_ok {L C} (R : RoadOk L C) {S : Sto} {i : Nat} (h : RoadAt S i L C) : m_Road_shapes [.loc i] S = .ok (.loc S.length) (S ++ [.lst (sS L C)]) := by
  obtain ⟨a, b, c, h1, h2, h3, h4⟩ := h
  have n36 := nub_shs R.all
  show (sret (xcall fList (acons (xfld 41 2 (xvar 0)) anil)) [some (.loc i)] S).fin = _
  rw [ret_at (call_at (one_at (fld_at (var_at rfl) h1 rfl)) (list_at (getL_lst h4) (by rw [(vsort_perm _).length_eq]; omega)))]
  rfl
def nxt (C : List (List Int × List Int)) (s : List Int) : List (List Int) := (C.filter fun c => decide (c.1 = s)).map (·.2)
theorem nxt_perm {C D : List (List Int × List Int)} (p : C.Perm D) (s : List Int) : (nxt C s).Perm (nxt D s) := (p.filter _).map _
theorem nxt_len (C : List (List Int × List Int)) (s : List Int) : (nxt C s).length ≤ C.length := by
  unfold nxt
  rw [List.length_map]
  exact List.length_filter_le _ _
theorem nxt_sh {C : List (List Int × List Int)} (h : ∀ c ∈ C, Ch c) (s : List Int) : ∀ t ∈ nxt C s, Sh t := fun t ht => by
  obtain ⟨c, hc, rfl⟩ := List.mem_map.mp ht
  exact (h c (List.mem_filter.mp hc).1).snd
def fB (s : List Int) (w : Va) : Option Va := match tupOf w with
  | [a, b] => bif PyData.eqv (dat a) (dat (tI' s)) then some b else none
  | _ => none
theorem fB_eq (s : List Int) (c : List Int × List Int) : fB s (cI c) = bif decide (c.1 = s) then some (tI' c.2) else none := by
  show (bif PyData.eqv (dat (tI' c.1)) (dat (tI' s)) then some (tI' c.2) else none) = _
  rw [eqv_tI]
theorem fB_map (s : List Int) : ∀ C : List (List Int × List Int), (C.map cI).filterMap (fB s) = (nxt C s).map tI'
  | [] => rfl
  | c :: C => by
    have ih := fB_map s C
    rw [List.map_cons, List.filterMap_cons, fB_eq]
    unfold nxt at ih ⊢
    by_cases h : c.1 = s
    · rw [decide_eq_true h, List.filter_cons_of_pos (by simpa using h), cond_true]
      dsimp only
      rw [ih]
      rfl
    · rw [decide_eq_false h, List.filter_cons_of_neg (by simpa using h), cond_false]
      dsimp only
      rw [ih]
theorem road_behind_ok {L C} (R : RoadOk L C) {S : Sto} {i : Nat} (h : RoadAt S i L C) {s : List Int} (hs : s ∈ L ++ ends C) : ∃ q S', m_Road_behind [.loc i, tI' s] S = .ok (.loc q) S' ∧ S'[q]? = some (.lst (vsort ((s :: nxt C s).map tI'))) ∧ Keep S S' ∧ S.length ≤ q := by
  obtain ⟨a, b, c, h1, h2, h3, h4⟩ := h
  obtain ⟨rs, e1, l1, m1⟩ := sS_eq R
  obtain ⟨cs, e2, p2⟩ := sC_eq C
  have few := R.few
  have hS := R.all s hs
  have q1 : sif (xor (xnot (xtru (ycall 1 m_is_shape (acons (xvar 1) anil)))) (xbinB cNin (xvar 1) (xfld 41 2 (xvar 0)))) (sraise 11) snext [some (.loc i), some (tI' s), none, none] S = .nx [some (.loc i), some (tI' s), none, none] S :=
    if_f (or_f (not_at (tru_bl (fn_at (one_at (var_at rfl)) rfl (shp hS S)))) (cmp_at (var_at rfl) (fld_at (var_at rfl) h1 rfl) (in_tps (by rw [← e1]; exact getL_lst h4) ((m1 s).mpr hs)))) rfl
  generalize eS1 : S ++ [Ob.lst [tI' s]] = S1
  have k1 : Keep S S1 := by rw [← eS1]; exact Keep.app _ _
  have hx1 : S1[S.length]? = some (.lst [tI' s]) := by rw [← eS1]; exact get_new _ _ _
  have l0 : xlst (acons (xvar 1) anil) [some (.loc i), some (tI' s), none, none] S = .ok (.loc S.length) S1 := by
    have := lst_at (δ := [some (.loc i), some (tI' s), none, none]) (S := S) (as := acons (xvar 1) anil) (one_at (var_at rfl)) (by show 1 ≤ _; omega)
    rw [eS1] at this
    exact this
  have h31 := k1 _ _ h3
  rw [e2] at h31
  have cm : xcomp [2, 3] (isq (xfld 41 1 (xvar 0))) (ptup 2 (pcons (pname 2) (pcons (pname 3) pnil))) (xbinB cEq (xvar 2) (xvar 1)) (xvar 3) [some (.loc i), some (tI' s), none, none] S1 = .ok (.loc S1.length) (S1 ++ [.lst ((nxt cs s).map tI')]) := by
    have := comp_list (x := xfld 41 1 (xvar 0)) (vs := [2, 3]) (put := ptup 2 (pcons (pname 2) (pcons (pname 3) pnil))) (cond := xbinB cEq (xvar 2) (xvar 1)) (elt := xvar 3) (δ := [some (.loc i), some (tI' s), none, none]) (S := S1) (S0 := S1) (fB s) (fld_at (var_at rfl) (k1 _ _ h1) rfl) (getL_lst h31) (by rw [List.length_map, p2.length_eq]; omega) (fun w hw => by
      obtain ⟨c, hc, rfl⟩ := List.mem_map.mp hw
      refine ⟨[some (.loc i), some (tI' s), some (tI' c.1), some (tI' c.2)], rfl, fun S' kp => ?_⟩
      rw [fB_eq]
      by_cases z : c.1 = s
      · rw [decide_eq_true z]
        exact .inl ⟨tI' c.2, rfl, cmp_at (var_at rfl) (var_at rfl) (by rw [cEq_tI, decide_eq_true z]), var_at rfl⟩
      · rw [decide_eq_false z]
        exact .inr ⟨rfl, cmp_at (var_at rfl) (var_at rfl) (by rw [cEq_tI, decide_eq_false z])⟩)
    rw [fB_map] at this
    exact this
  generalize eS2 : S1 ++ [Ob.lst ((nxt cs s).map tI')] = S2 at cm
  have k2 : Keep S1 S2 := by rw [← eS2]; exact Keep.app _ _
  have hy2 : S2[S1.length]? = some (.lst ((nxt cs s).map tI')) := by rw [← eS2]; exact get_new _ _ _
  generalize eS3 : S2 ++ [Ob.lst ((s :: nxt cs s).map tI')] = S3
  have k3 : Keep S2 S3 := by rw [← eS3]; exact Keep.app _ _
  have hz3 : S3[S2.length]? = some (.lst ((s :: nxt cs s).map tI')) := by rw [← eS3]; exact get_new _ _ _
  have nl := nxt_len cs s
  rw [p2.length_eq] at nl
  have cat : oAdd (.loc S.length) (.loc S1.length) S2 = .ok (.loc S2.length) S3 := by
    have := cat_at (k2 _ _ hx1) hy2 (by rw [List.length_append, List.length_map]; show 1 + _ ≤ _; omega)
    rw [← eS3]
    exact this
  have pm : ((s :: nxt cs s).map tI').Perm ((s :: nxt C s).map tI') := ((nxt_perm p2 s).cons s).map _
  have so : sortV ((s :: nxt cs s).map tI') = true := sortV_perm pm.symm (sortV_shs fun t ht => by
    rcases List.mem_cons.mp ht with z | z
    · rw [z]; exact hS.ne
    · exact (nxt_sh R.ch s t z).ne)
  have ve : vsort ((s :: nxt cs s).map tI') = vsort ((s :: nxt C s).map tI') := vsort_eq (alikeV_map tI' pur_tI alike_tI _) pm
  have srt := srt_at (getL_lst hz3) so (by rw [List.length_map, List.length_cons]; omega)
  rw [ve] at srt
  have kk := (k1.trans k2).trans k3
  refine ⟨S3.length, S3 ++ [.lst (vsort ((s :: nxt C s).map tI'))], ?_, get_new _ _ _, kk.trans (Keep.app _ _), kk.len⟩
  have r : b_Road_behind [some (.loc i), some (tI' s), none, none] S = .rt (.loc S3.length) (S3 ++ [.lst (vsort ((s :: nxt C s).map tI'))]) := by
    unfold b_Road_behind
    exact seq_at q1 (ret_at (call_at (one_at (bin_at l0 cm cat)) srt))
  show (b_Road_behind [some (.loc i), some (tI' s), none, none] S).fin = _
  rw [r]
  rfl
end Law
namespace Law
open PySem PySem.Spec PyProof.Rows L2 Rz PySem.W
def outs (L : List (List Int)) (a : List Int) : List (List Int × List Int) := (L.filter fun b => !decide (b = a)).map fun b => (a, b)
def full (L : List (List Int)) : List (List Int × List Int) := L.flatMap (outs L)
def gF (a : List Int) (w : Va) : Option Va := bif PyData.eqv (dat w) (dat (tI' a)) then none else some (.tup [tI' a, w])
theorem gF_eq (a b : List Int) : gF a (tI' b) = bif decide (b = a) then none else some (cI (a, b)) := by
  unfold gF
  rw [eqv_tI]
theorem gF_map (a : List Int) : ∀ L : List (List Int), (L.map tI').filterMap (gF a) = (outs L a).map cI
  | [] => rfl
  | b :: L => by
    have ih := gF_map a L
    rw [List.map_cons, List.filterMap_cons, gF_eq]
    unfold outs at ih ⊢
    by_cases h : b = a
    · rw [decide_eq_true h, List.filter_cons_of_neg (by simpa using h), cond_true]
      dsimp only
      rw [ih]
    · rw [decide_eq_false h, List.filter_cons_of_pos (by simpa using h), cond_false]
      dsimp only
      rw [ih]
      rfl
theorem outs_len (L : List (List Int)) (a : List Int) : (outs L a).length ≤ L.length := by
  unfold outs
  rw [List.length_map]
  exact List.length_filter_le _ _
theorem flat_len {α β : Type} (f : α → List β) (m : Nat) : ∀ M : List α, (∀ a ∈ M, (f a).length ≤ m) → (M.flatMap f).length ≤ m * M.length
  | [], _ => Nat.zero_le _
  | a :: M, h => by
    have ih := flat_len f m M fun x hx => h x (List.mem_cons_of_mem _ hx)
    have := h a List.mem_cons_self
    rw [List.flatMap_cons, List.length_append, List.length_cons, Nat.mul_succ]
    omega
theorem full_len (L : List (List Int)) : (full L).length ≤ L.length * L.length := flat_len _ _ L fun a _ => outs_len L a
theorem full_ch {L : List (List Int)} (h : ∀ s ∈ L, Sh s) : ∀ c ∈ full L, Ch c := fun c hc => by
  obtain ⟨a, ha, hc⟩ := List.mem_flatMap.mp hc
  obtain ⟨b, hb, rfl⟩ := List.mem_map.mp hc
  obtain ⟨hb, nb⟩ := List.mem_filter.mp hb
  exact ⟨h a ha, h b hb, fun z => by simp [show b = a from z.symm] at nb⟩
theorem flat_nd {L : List (List Int)} (nd : L.Nodup) : ∀ {M : List (List Int)}, M.Nodup → (M.flatMap (outs L)).Nodup
  | [], _ => List.nodup_nil
  | a :: M, h => by
    have h' := List.nodup_cons.mp h
    rw [List.flatMap_cons, List.nodup_append]
    refine ⟨?_, flat_nd nd h'.2, fun x hx y hy z => ?_⟩
    · exact nd_map (f := fun b => (a, b)) (fun e => (Prod.mk.inj e).2) (nd.sublist List.filter_sublist)
    · obtain ⟨b, hb, rfl⟩ := List.mem_map.mp hx
      obtain ⟨a', ha', hy⟩ := List.mem_flatMap.mp hy
      obtain ⟨b', hb', rfl⟩ := List.mem_map.mp hy
      have := (Prod.mk.inj z).1
      rw [this] at h'
      exact h'.1 ha'
theorem full_nd {L : List (List Int)} (nd : L.Nodup) : (full L).Nodup := flat_nd nd nd
theorem changes_made {L : List (List Int)} (hz : L.length ≤ 40) (S : Sto) (l : Nat) (hl : S[l]? = some (.lst (L.map tI'))) : ∃ q S', m__law_changes [.loc l] S = .ok (.loc q) S' ∧ S'[q]? = some (.lst ((full L).map cI)) ∧ Keep S S' ∧ S.length ≤ q := by
  generalize eS1 : S ++ [Ob.lst []] = S1
  have k1 : Keep S S1 := by rw [← eS1]; exact Keep.app _ _
  have a1 : S1[S.length]? = some (.lst []) := by rw [← eS1]; exact get_new _ _ _
  have q1 : sset 1 (xlst anil) [some (.loc l), none, none, none] S = .nx [some (.loc l), some (.loc S.length), none, none] S1 := by
    have := lst_at (δ := [some (.loc l), none, none, none]) (S := S) nil_at (Nat.zero_le _)
    rw [eS1] at this
    exact set_at this
  obtain ⟨δ2, S2, f2, ⟨e, d2, rfl, he, le⟩, k2⟩ := for_loc (put := pname 2) (body := l__law_changes_0) (l := l) (ws := L.map tI') (δ := [some (.loc l), some (.loc S.length), none, none]) (S := S1)
    (fun j δ S' => (∃ e d2, δ = [some (.loc l), some (.loc e), d2, none] ∧ S'[e]? = some (.lst (((L.take j).flatMap (outs L)).map cI)) ∧ S.length ≤ e) ∧ Keep S1 S')
    ⟨⟨_, _, rfl, a1, Nat.le_refl _⟩, Keep.refl _⟩ (fun j δ S' p => getL_lst (p.2 _ _ (k1 _ _ hl))) (fun j w δ S' hw ⟨⟨e, d2, ed, he, le⟩, kp⟩ => by
      subst ed
      rw [List.getElem?_map] at hw
      obtain ⟨a, haj, rfl⟩ := Option.map_eq_some_iff.mp hw
      have tk : L.take (j + 1) = L.take j ++ [a] := by rw [List.take_succ, haj]; rfl
      have en : (L.take (j + 1)).flatMap (outs L) = (L.take j).flatMap (outs L) ++ outs L a := by rw [tk, List.flatMap_append]; simp
      have hl' := kp _ _ (k1 _ _ hl)
      have cm : xcomp [3] (isq (xvar 0)) (pname 3) (xbinB cNe (xvar 3) (xvar 2)) (xtup (acons (xvar 2) (acons (xvar 3) anil))) [some (.loc l), some (.loc e), some (tI' a), none] S' = .ok (.loc S'.length) (S' ++ [.lst ((outs L a).map cI)]) := by
        have := comp_list (x := xvar 0) (vs := [3]) (put := pname 3) (cond := xbinB cNe (xvar 3) (xvar 2)) (elt := xtup (acons (xvar 2) (acons (xvar 3) anil))) (δ := [some (.loc l), some (.loc e), some (tI' a), none]) (S := S') (S0 := S') (gF a) (var_at rfl) (getL_lst hl') (by rw [List.length_map]; omega) (fun w hw => by
          obtain ⟨b, hb, rfl⟩ := List.mem_map.mp hw
          refine ⟨[some (.loc l), some (.loc e), some (tI' a), some (tI' b)], rfl, fun S'' kp => ?_⟩
          rw [gF_eq]
          by_cases z : b = a
          · rw [decide_eq_true z]
            exact .inr ⟨rfl, cmp_at (var_at rfl) (var_at rfl) (by rw [cNe_tI, decide_eq_true z]; rfl)⟩
          · rw [decide_eq_false z]
            exact .inl ⟨_, rfl, cmp_at (var_at rfl) (var_at rfl) (by rw [cNe_tI, decide_eq_false z]; rfl), tup_at (cons_at (var_at rfl) (one_at (var_at rfl))) (by show 2 ≤ _; omega)⟩)
        rw [gF_map] at this
        exact this
      generalize eT : S' ++ [Ob.lst ((outs L a).map cI)] = T at cm
      have t1 : Keep S' T := by rw [← eT]; exact Keep.app _ _
      have b1 : T[S'.length]? = some (.lst ((outs L a).map cI)) := by rw [← eT]; exact get_new _ _ _
      have l1 := flat_len (outs L) L.length (L.take j) fun a _ => outs_len L a
      have l2 : (L.take j).length ≤ L.length := by rw [List.length_take]; omega
      have l3 := Nat.mul_le_mul_left L.length l2
      have l4 : L.length * L.length ≤ 40 * 40 := Nat.mul_le_mul hz hz
      have lo := outs_len L a
      have cat := cat_at (t1 _ _ he) b1 (by rw [List.length_append, List.length_map, List.length_map]; omega)
      rw [← List.map_append, ← en] at cat
      exact ⟨_, rfl, _, _, .inl (set_at (bin_at (var_at rfl) cm cat)), ⟨_, _, rfl, get_new _ _ _, by have := (k1.trans (kp.trans t1)).len; omega⟩, (kp.trans t1).trans (Keep.app _ _)⟩)
  have he' : S2[e]? = some (.lst ((full L).map cI)) := by
    rw [List.length_map, List.take_length] at he
    exact he
  refine ⟨e, S2, ?_, he', k1.trans k2, le⟩
  have r : b__law_changes [some (.loc l), none, none, none] S = .rt (.loc e) S2 := by
    unfold b__law_changes
    exact seq_at q1 (seq_at ((sfor_at (isq_loc (x := xvar 0) (var_at rfl) (getL_lst (k1 _ _ hl)))).trans f2) (ret_at (var_at rfl)))
  show (b__law_changes [some (.loc l), none, none, none] S).fin = _
  rw [r]
  rfl
theorem Pen.ne {S : Sto} {p n l : Nat} {ws : List Va} (h : Pen S p n) (hl : S[l]? = some (.lst ws)) (hw : ∀ a r, ws ≠ .loc a :: r) : l ≠ p := fun z => by
  obtain ⟨l', cs, idx, d, h1, h2, _⟩ := h
  rw [z, h2] at hl
  cases hl
  exact hw _ _ rfl
theorem tI_nl (L : List (List Int)) (a : Nat) (r : List Va) : L.map tI' ≠ .loc a :: r := by
  cases L with
  | nil => exact fun z => by cases z
  | cons x L => exact fun z => by cases z
end Law
namespace Law
open PySem PySem.Spec PyProof.Rows L2 Rz PySem.W
theorem keep_fresh {S S1 S2 : Sto} {i : Nat} (k : Keep S S1) (kb : KeepB i S1 S2) (h : S.length ≤ i) : Keep S S2 := fun j o e => by
  have := (List.getElem?_eq_some_iff.mp e).1
  exact kb _ _ (by omega) (k _ _ e)
theorem made_ok {L C} (R : RoadOk L C) {as : XA} {δ : Rz.Env} {S0 S : Sto} {l q : Nat} (h : as δ S0 = .ok [.loc l, .loc q] S) (hl : S[l]? = some (.lst (L.map tI'))) (hq : S[q]? = some (.lst (C.map cI))) :
    ∃ i S', ynew 41 3 m_Road___init__ as δ S0 = .ok (.loc i) S' ∧ RoadAt S' i L C ∧ Keep S S' ∧ S.length ≤ i ∧ ∃ a b c, S'[i]? = some (.ins 41 [.loc a, .loc b, .loc c]) ∧ S.length ≤ a ∧ S.length ≤ b ∧ S.length ≤ c := by
  generalize eS1 : S ++ [Ob.ins 41 []] = S1
  have k1 : Keep S S1 := by rw [← eS1]; exact Keep.app _ _
  have hi : S1[S.length]? = some (.ins 41 []) := by rw [← eS1]; exact get_new _ _ _
  obtain ⟨S2, e2, k2, r2, a, b, c, g, ga, gb, gc⟩ := road_init R hi (k1 _ _ hl) (k1 _ _ hq)
  have := k1.len
  exact ⟨S.length, S2, new_at h rfl (by rw [eS1]; exact e2), r2, keep_fresh k1 k2 (Nat.le_refl _), Nat.le_refl _, a, b, c, g, by omega, by omega, by omega⟩
def Made (S0 S : Sto) (i : Nat) (L : List (List Int)) (C : List (List Int × List Int)) : Prop := RoadAt S i L C ∧ S0.length ≤ i ∧ ∃ a b c, S[i]? = some (.ins 41 [.loc a, .loc b, .loc c]) ∧ S0.length ≤ a ∧ S0.length ≤ b ∧ S0.length ≤ c
theorem Made.set {S0 S : Sto} {i r : Nat} {o : Ob} {L C} (h : Made S0 S i L C) (hr : r < S0.length) : RoadAt (S.set r o) i L C := by
  obtain ⟨⟨a', b', c', h1, h2, h3, h4⟩, hi, a, b, c, g, ga, gb, gc⟩ := h
  rw [h1] at g
  cases g
  exact ⟨_, _, _, by rw [List.getElem?_set_ne (by omega)]; exact h1, by rw [List.getElem?_set_ne (by omega)]; exact h2, by rw [List.getElem?_set_ne (by omega)]; exact h3, by rw [List.getElem?_set_ne (by omega)]; exact h4⟩
theorem Made.low {S0 S1 S : Sto} {i : Nat} {L C} (h : Made S1 S i L C) (k : Keep S0 S1) : Made S0 S i L C := by
  obtain ⟨r, hi, a, b, c, g, ga, gb, gc⟩ := h
  have := k.len
  exact ⟨r, by omega, a, b, c, g, by omega, by omega, by omega⟩
theorem chs_more : ∀ C : List (List Int × List Int), PyData.canLayAll0 (dats (C.map cI)) = true ∧ PyData.eqvAll (dats (C.map cI)) (dats (C.map cI)) = true
  | [] => by simp [dats, PyData.canLayAll0, PyData.eqvAll]
  | c :: C => by
    obtain ⟨h1, h2⟩ := chs_more C
    have l1 := lay_tps [c.1, c.2]
    have e1 := eqv_tps [c.1, c.2]
    have e : dat (cI c) = .tuple (tpd [c.1, c.2]) := by
      rw [dat_cI, dat_tI, dat_tI]
      rfl
    have e2 : dats ((c :: C).map cI) = .tuple (tpd [c.1, c.2]) :: dats (C.map cI) := by
      rw [List.map_cons, dats, e]
    rw [e2]
    generalize dats (C.map cI) = D at *
    generalize tpd [c.1, c.2] = T at *
    exact ⟨by simp only [PyData.canLayAll0, PyData.canLay0, l1, h1, Bool.and_self], by simp only [PyData.eqvAll, PyData.eqv, e1, h2, Bool.and_self]⟩
end Law
namespace Law
open PySem PySem.Spec PyProof.Rows L2 Rz PySem.W
theorem sB_perm {L L' : List (List Int)} (p : L.Perm L') : sB L = sB L' := vsort_eq (alikeV_map tI' pur_tI alike_tI L) (p.map _)
theorem sC_perm {C C' : List (List Int × List Int)} (p : C.Perm C') : sC C = sC C' := vsort_eq (alikeV_map cI pur_cI alike_cI C) (p.map _)
theorem ends_perm {C C' : List (List Int × List Int)} (p : C.Perm C') : (ends C).Perm (ends C') := p.flatMap_right _
theorem nub_perm2 {ws us : List Va} (al : alikeV ws = true) (p : ws.Perm us) : (nub ws).Perm (nub us) :=
  nub_perm (alikeV_perm p al) (fun c hc => p.mem_iff.mp (nub_mem hc)) (nd_of_map (nub_nd ws)) fun w hw => nub_tk (p.mem_iff.mpr hw)
theorem nub_al {ws : List Va} (al : alikeV ws = true) : alikeV (nub ws) = true := by
  obtain ⟨h1, h2⟩ := alikeV_iff.mp al
  refine alikeV_iff.mpr ⟨?_, fun a ha b hb => h2 a (nub_mem ha) b (nub_mem hb)⟩
  have : ∀ us : List Va, (∀ w ∈ us, pur w = true) → purs us = true := fun us => by
    induction us with
    | nil => intro _; rfl
    | cons w us ih => intro h; simp only [purs, Bool.and_eq_true]; exact ⟨h w List.mem_cons_self, ih fun u m => h u (List.mem_cons_of_mem _ m)⟩
  exact this _ fun w hw => purs_mem h1 w (nub_mem hw)
theorem sS_perm {L L' : List (List Int)} {C C' : List (List Int × List Int)} (p : L.Perm L') (q : C.Perm C') : sS L C = sS L' C' := by
  have al := alikeV_map tI' pur_tI alike_tI (L ++ ends C)
  exact vsort_eq (nub_al al) (nub_perm2 al ((p.append (ends_perm q)).map _))
theorem RoadAt.perm {S : Sto} {i : Nat} {L L' C C'} (h : RoadAt S i L C) (p : L.Perm L') (q : C.Perm C') : RoadAt S i L' C' := by
  obtain ⟨a, b, c, h1, h2, h3, h4⟩ := h
  exact ⟨a, b, c, h1, by rw [← sB_perm p]; exact h2, by rw [← sC_perm q]; exact h3, by rw [← sS_perm p q]; exact h4⟩
theorem RoadOk.perm {L L' C C'} (R : RoadOk L C) (p : L.Perm L') (q : C.Perm C') : RoadOk L' C' :=
  ⟨fun z => R.ne (List.perm_nil.mp (z ▸ p)), fun s hs => R.sh s (p.mem_iff.mpr hs), p.nodup_iff.mp R.nd, fun c hc => R.ch c (q.mem_iff.mpr hc), q.nodup_iff.mp R.ndc, by rw [← q.length_eq]; exact R.few⟩
theorem eqv_tps2 : ∀ rs us : List (List Int), PyData.eqvAll (tpd rs) (tpd us) = decide (rs = us)
  | [], [] => by simp [PyData.eqvAll]
  | [], u :: us => by simp [PyData.eqvAll]
  | r :: rs, [] => by simp [PyData.eqvAll]
  | r :: rs, u :: us => by
    have ih := eqv_tps2 rs us
    have h := eqv_ints2 r u
    show PyData.eqvAll (.tuple (r.map .int) :: tpd rs) (.tuple (u.map .int) :: tpd us) = _
    generalize tpd rs = q at *
    generalize tpd us = q' at *
    simp only [PyData.eqvAll, PyData.eqv, h, ih, List.cons.injEq, Bool.decide_and]
theorem eqv_cI (a b : List Int × List Int) : PyData.eqv (dat (cI a)) (dat (cI b)) = decide (a = b) := by
  rw [dat_cI, dat_cI]
  simp only [PyData.eqv, PyData.eqvAll, eqv_tI, Bool.and_true]
  obtain ⟨a1, a2⟩ := a
  obtain ⟨b1, b2⟩ := b
  simp only [Prod.mk.injEq, Bool.decide_and]
theorem eqv_cps : ∀ rs us : List (List Int × List Int), PyData.eqvAll (dats (rs.map cI)) (dats (us.map cI)) = decide (rs = us)
  | [], [] => by simp [dats, PyData.eqvAll]
  | [], u :: us => by simp [dats, PyData.eqvAll]
  | r :: rs, [] => by simp [dats, PyData.eqvAll]
  | r :: rs, u :: us => by
    have ih := eqv_cps rs us
    have h := eqv_cI r u
    rw [List.map_cons, List.map_cons, dats, dats]
    generalize dats (rs.map cI) = q at *
    generalize dats (us.map cI) = q' at *
    simp only [PyData.eqvAll, h, ih, List.cons.injEq, Bool.decide_and]
theorem cEq_tps {S : Sto} {l m : Nat} {rs us : List (List Int)} (h : getL S l = some (rs.map tI')) (h2 : getL S m = some (us.map tI')) : cEq (.loc l) (.loc m) S = .ok (decide (rs = us)) S := by
  unfold cEq
  show deepE (.loc l) (.loc m) S = _
  unfold deepE
  rw [toD_list h (allD_tps S 61 rs), toD_list h2 (allD_tps S 61 us)]
  dsimp only
  rw [shaped_tps, shaped_tps]
  simp only [PyData.eqv]
  rw [eqv_tps2]
  rfl
theorem chs_dep : ∀ C : List (List Int × List Int), PyData.depthAll (dats (C.map cI)) ≤ 2
  | [] => by simp [dats, PyData.depthAll]
  | c :: C => by
    have h := chs_dep C
    have d := depth_cI c
    rw [List.map_cons, dats]
    generalize dats (C.map cI) = D at *
    simp only [PyData.depthAll]
    omega
theorem shaped_cps (C : List (List Int × List Int)) : SeqAt.shaped (.list (dats (C.map cI))) = true := by
  unfold SeqAt.shaped
  rw [Bool.and_eq_true]
  refine ⟨by simp only [PyData.canLay0]; exact (chs_more C).1, decide_eq_true ?_⟩
  have := chs_dep C
  simp only [PyData.depth]
  omega
theorem read_cps {S : Sto} {l n : Nat} {C : List (List Int × List Int)} (hn : 2 < n) (h : getL S l = some (C.map cI)) : toD S (n + 1) (.loc l) = some (.list (dats (C.map cI))) :=
  toD_list h (allD_pur S _ n (purs_map cI pur_cI C) (by have := chs_dep C; omega))
theorem cEq_cps {S : Sto} {l m : Nat} {rs us : List (List Int × List Int)} (h : getL S l = some (rs.map cI)) (h2 : getL S m = some (us.map cI)) : cEq (.loc l) (.loc m) S = .ok (decide (rs = us)) S := by
  unfold cEq
  show deepE (.loc l) (.loc m) S = _
  unfold deepE
  rw [read_cps (n := 63) (by decide) h, read_cps (n := 63) (by decide) h2]
  dsimp only
  rw [shaped_cps, shaped_cps]
  simp only [PyData.eqv]
  rw [eqv_cps]
  rfl
theorem andV_f {x y : XE} {δ : Rz.Env} {S S1 : Sto} (h : x δ S = .ok (.bl false) S1) : xandV x y δ S = .ok (.bl false) S1 := by
  unfold xandV
  rw [h, bind_ok]
theorem eq_dec {L C L' C'} (R : RoadOk L C) (R' : RoadOk L' C') {S : Sto} {i j : Nat} (h : RoadAt S i L C) (h' : RoadAt S j L' C') : ∃ t, m_Road___eq__ [.loc i, .loc j] S = .ok (.bl t) S ∧ (t = true ↔ L.Perm L' ∧ C.Perm C') := by
  obtain ⟨a, b, c, h1, h2, h3, h4⟩ := h
  obtain ⟨a', b', c', g1, g2, g3, g4⟩ := h'
  obtain ⟨rB, eB, pB⟩ := sB_eq L
  obtain ⟨rC, eC, pC⟩ := sC_eq C
  obtain ⟨uB, eB', pB'⟩ := sB_eq L'
  obtain ⟨uC, eC', pC'⟩ := sC_eq C'
  have isc : fIsC 41 [.loc j, .cl 41] S = .ok (.bl true) S := by
    unfold fIsC
    dsimp only
    rw [if_pos rfl, insAt_eq g1]
  rw [eB] at h2
  rw [eC] at h3
  rw [eB'] at g2
  rw [eC'] at g3
  have e1 := cEq_tps (getL_lst h2) (getL_lst g2)
  have e2 := cEq_cps (getL_lst h3) (getL_lst g3)
  have x0 := call_at (δ := [some (.loc i), some (.loc j)]) (cons_at (x := xvar 1) (var_at rfl) (one_at (x := xlit (.cl 41)) lit_at)) isc
  have x1 := boo_at (cmp_at (δ := [some (.loc i), some (.loc j)]) (fld_at (j := 0) (x := xvar 0) (var_at rfl) h1 rfl) (fld_at (j := 0) (x := xvar 1) (var_at rfl) g1 rfl) e1)
  have x2 := boo_at (cmp_at (δ := [some (.loc i), some (.loc j)]) (fld_at (j := 1) (x := xvar 0) (var_at rfl) h1 rfl) (fld_at (j := 1) (x := xvar 1) (var_at rfl) g1 rfl) e2)
  have iB : rB = uB ↔ L.Perm L' := by
    refine ⟨fun z => pB.symm.trans (z ▸ pB'), fun p => ?_⟩
    have := sB_perm p
    rw [eB, eB'] at this
    exact List.map_inj_right (f := tI') (fun _ _ e => tI_inj e) |>.mp this
  have iC : rC = uC ↔ C.Perm C' := by
    refine ⟨fun z => pC.symm.trans (z ▸ pC'), fun p => ?_⟩
    have := sC_perm p
    rw [eC, eC'] at this
    exact List.map_inj_right (f := cI) (fun _ _ e => cI_inj e) |>.mp this
  have fin : ∀ {t : Bool}, (xandV (xcall (fIsC 41) (acons (xvar 1) (acons (xlit (.cl 41)) anil))) (xandV (xboo (xbinB cEq (xfld 41 0 (xvar 0)) (xfld 41 0 (xvar 1)))) (xboo (xbinB cEq (xfld 41 1 (xvar 0)) (xfld 41 1 (xvar 1)))))) [some (.loc i), some (.loc j)] S = .ok (.bl t) S → m_Road___eq__ [.loc i, .loc j] S = .ok (.bl t) S := fun {t} e => by
    show (b_Road___eq__ [some (.loc i), some (.loc j)] S).fin = _
    unfold b_Road___eq__
    rw [ret_at e]
    rfl
  by_cases z : rB = uB
  · rw [decide_eq_true z] at x1
    refine ⟨decide (rC = uC), fin (andV_t x0 (andV_t x1 x2)), ?_⟩
    rw [decide_eq_true_eq, iC]
    exact ⟨fun q => ⟨iB.mp z, q⟩, fun q => q.2⟩
  · rw [decide_eq_false z] at x1
    refine ⟨false, fin (andV_t x0 (andV_f x1)), ?_⟩
    exact ⟨(fun q => by cases q), fun q => absurd (iB.mpr q.1) z⟩
theorem eqO_at {L C L' C'} (R : RoadOk L C) (R' : RoadOk L' C') {S : Sto} {i j : Nat} (h : RoadAt S i L C) (h' : RoadAt S j L' C') : ∃ t, cEqO 41 m_Road___eq__ (.loc i) (.loc j) S = .ok t S ∧ cNeO 41 m_Road___eq__ (.loc i) (.loc j) S = .ok (!t) S ∧ (t = true ↔ L.Perm L' ∧ C.Perm C') := by
  obtain ⟨t, e, it⟩ := eq_dec R R' h h'
  obtain ⟨a, b, c, h1, _⟩ := h
  obtain ⟨a', b', c', g1, _⟩ := h'
  have q : cEqO 41 m_Road___eq__ (.loc i) (.loc j) S = .ok t S := by
    unfold cEqO
    rw [insAt_eq h1, insAt_eq g1]
    dsimp only [Option.isSome, Bool.true_or]
    rw [e]
    rfl
  refine ⟨t, q, ?_, it⟩
  unfold cNeO
  rw [q]
end Law
namespace Law
open PySem PySem.Spec PyProof.Rows L2 Rz PySem.W
local macro_rules | `(tactic| array_mem_dec) => `(tactic| first | assumption | ((with_reducible refine Keep.at' (by assumption) ?_); array_mem_dec) | ((with_reducible refine KeepB.at' (by assumption) (by first | assumption | omega) ?_); array_mem_dec))
local macro_rules | `(tactic| array_get_dec) => `(tactic| first
  | (with_reducible apply wo_seq) | (with_reducible apply wo_set) | (with_reducible apply wo_ret) | (with_reducible apply wo_if) | (with_reducible apply wo_exp)
  | (with_reducible apply wr_lit) | ((with_reducible apply wr_var); exact rfl) | (with_reducible apply wr_bin) | (with_reducible apply wr_binB) | (with_reducible apply wr_call) | (with_reducible apply wr_cons) | (with_reducible apply wr_nil)
  | (with_reducible apply wr_fn) | (with_reducible apply wr_not) | (with_reducible apply wr_and) | (with_reducible apply wr_or) | (with_reducible apply wr_ite) | (with_reducible apply wr_boo) | (with_reducible apply wr_tru) | (with_reducible apply wr_yes)
  | (with_reducible apply wr_tup) | (with_reducible apply wr_lst) | (with_reducible apply wr_un) | (with_reducible apply wr_isN) | (with_reducible apply wr_andV) | (with_reducible apply wr_orV) | (with_reducible apply wr_notV) | (with_reducible apply wr_orT) | (with_reducible apply wr_chain)
  | (with_reducible apply wr_addI) | (with_reducible apply wr_subI) | ((with_reducible apply wr_mulR); (· decide); (· decide)) | ((with_reducible apply wr_mulL); (· decide); (· decide)) | ((with_reducible apply wr_divI); (· omega); (· omega)) | ((with_reducible apply wr_modI); (· omega)) | (with_reducible apply wr_neg)
  | (with_reducible apply wr_lt) | (with_reducible apply wr_le) | (with_reducible apply wr_gt) | (with_reducible apply wr_ge) | ((with_reducible apply wr_eqS); exact rfl) | (with_reducible apply wr_ne) | (with_reducible apply wr_isB) | (with_reducible apply wr_isnB)
  | ((with_reducible apply wr_ixT); (· exact rfl)) | ((with_reducible apply wr_ixL); (· array_mem_dec); (· exact rfl)) | (with_reducible apply wr_trB) | ((with_reducible apply wr_trL); array_mem_dec) | ((with_reducible apply wr_lenL); array_mem_dec) | (with_reducible apply wr_lenT) | (with_reducible apply wr_intI) | (with_reducible apply wr_abs) | (with_reducible apply wr_min2)
  | (with_reducible apply wo_nx) | (with_reducible apply wo_retN) | (with_reducible apply wo_raise) | (with_reducible apply wo_asg) | (with_reducible apply wo_par) | (with_reducible apply wo_sub) | (with_reducible apply wo_for) | (with_reducible apply wr_isq) | (with_reducible apply wr_irg1) | (with_reducible apply wr_comp) | (with_reducible apply wr_met) | (with_reducible apply wr_met0)
  | ((with_reducible apply fnGo); (· exact rfl)) | ((with_reducible apply tupGo); (· simp only [List.length_cons, List.length_nil, Nat.reduceAdd, Nat.reduceLeDiff])) | ((with_reducible apply lstGo); (· simp only [List.length_cons, List.length_nil, Nat.reduceAdd, Nat.reduceLeDiff])) | ((with_reducible apply parGo); (· exact rfl)) | ((with_reducible apply asgGo); (· exact rfl)) | (with_reducible apply blGo)
  | ((with_reducible apply metGo); (· array_mem_dec)) | (with_reducible apply wr_fld) | ((with_reducible apply fldGo); (· array_mem_dec); (· exact rfl)) | (with_reducible apply wr_new) | (with_reducible apply wr_prop) | ((with_reducible apply propGo); (· array_mem_dec)) | (with_reducible apply isqT) | ((with_reducible apply isqL); (· array_mem_dec))
  | (with_reducible apply wr_me) | ((with_reducible apply methGo); (· array_mem_dec)) | (with_reducible apply wo_unl) | ((with_reducible apply unlGo); (· array_mem_dec); (· exact rfl); (· exact rfl)) | (with_reducible apply wo_try) | ((with_reducible apply wr_isX); (· array_mem_dec); (· first | exact rfl | decide)) | ((with_reducible apply wr_isXT); (· array_mem_dec); (· first | exact rfl | decide))
  | (with_reducible apply wr_neO) | ((with_reducible apply wr_eqO); (· array_mem_dec); (· array_mem_dec)) | ((with_reducible apply wr_isC); (· array_mem_dec)) | ((with_reducible apply wr_isi); (· first | exact rfl | (apply kindL; array_mem_dec)); (· decide)) | (with_reducible apply wr_sl) | (with_reducible apply wr_nop) | (with_reducible apply wo_dsub) | (with_reducible apply wr_dcomp)
  | (with_reducible apply bif_t) | (with_reducible apply bif_f) | (with_reducible apply bif_n) | ((with_reducible apply bif_dt); (· exact rfl)) | ((with_reducible apply bif_cf); (· decide)) | ((with_reducible apply bif_ct); (· decide))
  | ((with_reducible apply wr_isv); (· first | exact rfl | assumption)) | ((with_reducible apply bif_df); (· simp only [List.length_cons, List.length_nil]; omega)))
theorem full_in {L : List (List Int)} {c : List Int × List Int} (h : c ∈ full L) : c.1 ∈ L ∧ c.2 ∈ L := by
  obtain ⟨a, ha, h⟩ := List.mem_flatMap.mp h
  obtain ⟨b, hb, rfl⟩ := List.mem_map.mp h
  exact ⟨ha, (List.mem_filter.mp hb).1⟩
theorem road_g {most : Nat} (hmost : most ≤ 60) (p n : Nat) (hn : n + 9000 < 4294967296) (S : Sto) (hp : Pen S p n) {P : List (List Int)} (ne : P ≠ []) (sh : ∀ s ∈ P, Sh s) (nd : P.Nodup) (lP : P.length ≤ 5) (l : Nat) (hl : S[l]? = some (.lst (P.map tI'))) :
    ∃ lb lc S' L C, m__law_road [.loc p, .loc l, .int (most : Int)] S = .ok (.tup [.loc lb, .loc lc]) S' ∧ S'[lb]? = some (.lst (L.map tI')) ∧ S'[lc]? = some (.lst (C.map cI)) ∧ RoadOk L C ∧ (∀ s ∈ L, s ∈ P) ∧ C.length ≤ most ∧ (∀ c ∈ C, c.1 ∈ P ∧ c.2 ∈ P) ∧ Pen S' p (n + 4002) ∧ KeepB p S S' := by
  obtain ⟨b, S1, ws, rest, s1, s2, s3, s4, s5, s6, s7⟩ := some_ok (pool := P.map tI') (by rw [List.length_map]; omega) p n (by omega) S hp l hl (P.length : Int) (by omega) (by omega)
  obtain ⟨B, rfl, ndB, inB⟩ := part_of tI_inj s3 nd
  have nl : l ≠ p := hp.ne hl (tI_nl P)
  have q3 : sset 3 (ycall 3 m__law_some (acons (xvar 0) (acons (xvar 1) (acons (xcall fLen (acons (xvar 1) anil)) anil)))) [some (.loc p), some (.loc l), some (.int (most : Int)), none, none] S = .nx [some (.loc p), some (.loc l), some (.int (most : Int)), some (.loc b), none] S1 := by
    have hlen : fLen [.loc l] S = .ok (.int (P.length : Nat)) S := by
      have := len_at (getL_lst hl)
      rw [List.length_map] at this
      exact this
    exact set_at (fn_at (cons_at (var_at rfl) (cons_at (var_at rfl) (one_at (call_at (one_at (var_at rfl)) hlen)))) rfl s1)
  have hl1 := s6 _ _ nl hl
  obtain ⟨c0, S2, c1, c2, c3, c4⟩ := changes_made (L := P) (by omega) S1 l hl1
  have fl := full_len P
  have fl2 : P.length * P.length ≤ 5 * 5 := Nat.mul_le_mul lP lP
  obtain ⟨cq, S3, vs, rest2, t1, t2, t3, t4, t5, t6, t7⟩ := some_ok (pool := (full P).map cI) (by rw [List.length_map]; omega) p (n + 2001) (by omega) S2 (s5.keep c3) c0 c2 (most : Int) (by omega) (by omega)
  obtain ⟨C, rfl, ndC, inC⟩ := part_of cI_inj t3 (full_nd nd)
  rw [List.length_map] at t4
  have q4 : sset 4 (ycall 3 m__law_some (acons (xvar 0) (acons (ycall 1 m__law_changes (acons (xvar 1) anil)) (acons (xvar 2) anil)))) [some (.loc p), some (.loc l), some (.int (most : Int)), some (.loc b), none] S1 = .nx [some (.loc p), some (.loc l), some (.int (most : Int)), some (.loc b), some (.loc cq)] S3 :=
    set_at (fn_at (cons_at (var_at rfl) (cons_at (fn_at (one_at (var_at rfl)) rfl c1) (one_at (var_at rfl)))) rfl t1)
  have nb : b ≠ p := s5.ne s2 (tI_nl B)
  have hb3 := t6 _ _ nb (c3 _ _ s2)
  have hl3 := t6 _ _ nl (c3 _ _ hl1)
  generalize eS4 : S3 ++ [Ob.lst []] = S4
  have k4 : Keep S3 S4 := by rw [← eS4]; exact Keep.app _ _
  have a4 : S4[S3.length]? = some (.lst []) := by rw [← eS4]; exact get_new _ _ _
  have em : xlst anil [some (.loc p), some (.loc l), some (.int (most : Int)), some (.loc b), some (.loc cq)] S3 = .ok (.loc S3.length) S4 := by
    have := lst_at (δ := [some (.loc p), some (.loc l), some (.int (most : Int)), some (.loc b), some (.loc cq)]) (S := S3) nil_at (Nat.zero_le _)
    rw [eS4] at this
    exact this
  have tst := cmp_at (δ := [some (.loc p), some (.loc l), some (.int (most : Int)), some (.loc b), some (.loc cq)]) (S := S3) (x := xvar 3) (f := cNe) (var_at rfl) em (cNe_emp (getL_lst (k4 _ _ hb3)) (getL_lst a4))
  have kk : KeepB p S S4 := ((s6.trans c3.but).trans t6).trans k4.but
  have okC : ∀ {L : List (List Int)}, L ≠ [] → (∀ s ∈ L, Sh s) → L.Nodup → RoadOk L C := fun h1 h2 h3 => ⟨h1, h2, h3, fun c hc => full_ch sh c (inC c hc), ndC, by omega⟩
  have fin : ∀ {lb : Nat} {T : Sto}, xite (xbinB cNe (xvar 3) (xlst anil)) (xvar 3) (xslice (xvar 1) xnop (xpart (xlit (.int 1)))) [some (.loc p), some (.loc l), some (.int (most : Int)), some (.loc b), some (.loc cq)] S3 = .ok (.loc lb) T → m__law_road [.loc p, .loc l, .int (most : Int)] S = .ok (.tup [.loc lb, .loc cq]) T := fun {lb T} h => by
    have r : b__law_road [some (.loc p), some (.loc l), some (.int (most : Int)), none, none] S = .rt (.tup [.loc lb, .loc cq]) T := by
      unfold b__law_road
      exact seq_at q3 (seq_at q4 (ret_at (tup_at (cons_at h (one_at (var_at rfl))) (by show 2 ≤ _; omega))))
    show (b__law_road [some (.loc p), some (.loc l), some (.int (most : Int)), none, none] S).fin = _
    rw [r]
    rfl
  cases B with
  | cons x r => exact ⟨b, cq, S4, x :: r, C, fin (ite_t tst (var_at rfl)), k4 _ _ hb3, k4 _ _ t2, okC (by simp) (fun s hs => sh s (inB s hs)) ndB, inB, by omega, fun c hc => full_in (inC c hc), t5.keep k4 |>.mono (by omega), kk⟩
  | nil =>
    have sl := slice1_at (x := xvar 1) (δ := [some (.loc p), some (.loc l), some (.int (most : Int)), some (.loc b), some (.loc cq)]) (var_at rfl) (getL_lst (k4 _ _ hl3)) (by rw [List.length_map]; omega)
    rw [← List.map_take] at sl
    refine ⟨S4.length, cq, S4 ++ [.lst ((P.take 1).map tI')], P.take 1, C, fin (ite_f tst sl), get_new _ _ _, (k4.trans (Keep.app _ _)) _ _ t2, okC ?_ (fun s hs => sh s (List.mem_of_mem_take hs)) (nd.sublist (List.take_sublist _ _)), fun s hs => List.mem_of_mem_take hs, by omega, fun c hc => full_in (inC c hc), ((t5.keep k4).keep (Keep.app _ _)).mono (by omega), kbApp kk _⟩
    cases P with
    | nil => exact absurd rfl ne
    | cons x r => simp
end Law
namespace Law
open PySem PySem.Spec PyProof.Rows L2 Rz PySem.W
local macro_rules | `(tactic| array_mem_dec) => `(tactic| first | assumption | ((with_reducible refine Keep.at' (by assumption) ?_); array_mem_dec) | ((with_reducible refine KeepB.at' (by assumption) (by first | assumption | omega) ?_); array_mem_dec))
local macro_rules | `(tactic| array_get_dec) => `(tactic| first
  | (with_reducible apply wo_seq) | (with_reducible apply wo_set) | (with_reducible apply wo_ret) | (with_reducible apply wo_if) | (with_reducible apply wo_exp)
  | (with_reducible apply wr_lit) | ((with_reducible apply wr_var); exact rfl) | (with_reducible apply wr_bin) | (with_reducible apply wr_binB) | (with_reducible apply wr_call) | (with_reducible apply wr_cons) | (with_reducible apply wr_nil)
  | (with_reducible apply wr_fn) | (with_reducible apply wr_not) | (with_reducible apply wr_and) | (with_reducible apply wr_or) | (with_reducible apply wr_ite) | (with_reducible apply wr_boo) | (with_reducible apply wr_tru) | (with_reducible apply wr_yes)
  | (with_reducible apply wr_tup) | (with_reducible apply wr_lst) | (with_reducible apply wr_un) | (with_reducible apply wr_isN) | (with_reducible apply wr_andV) | (with_reducible apply wr_orV) | (with_reducible apply wr_notV) | (with_reducible apply wr_orT) | (with_reducible apply wr_chain)
  | (with_reducible apply wr_addI) | (with_reducible apply wr_subI) | ((with_reducible apply wr_mulR); (· decide); (· decide)) | ((with_reducible apply wr_mulL); (· decide); (· decide)) | ((with_reducible apply wr_divI); (· omega); (· omega)) | ((with_reducible apply wr_modI); (· omega)) | (with_reducible apply wr_neg)
  | (with_reducible apply wr_lt) | (with_reducible apply wr_le) | (with_reducible apply wr_gt) | (with_reducible apply wr_ge) | ((with_reducible apply wr_eqS); exact rfl) | (with_reducible apply wr_ne) | (with_reducible apply wr_isB) | (with_reducible apply wr_isnB)
  | ((with_reducible apply wr_ixT); (· exact rfl)) | ((with_reducible apply wr_ixL); (· array_mem_dec); (· exact rfl)) | (with_reducible apply wr_trB) | ((with_reducible apply wr_trL); array_mem_dec) | ((with_reducible apply wr_lenL); array_mem_dec) | (with_reducible apply wr_lenT) | (with_reducible apply wr_intI) | (with_reducible apply wr_abs) | (with_reducible apply wr_min2)
  | (with_reducible apply wo_nx) | (with_reducible apply wo_retN) | (with_reducible apply wo_raise) | (with_reducible apply wo_asg) | (with_reducible apply wo_par) | (with_reducible apply wo_sub) | (with_reducible apply wo_for) | (with_reducible apply wr_isq) | (with_reducible apply wr_irg1) | (with_reducible apply wr_comp) | (with_reducible apply wr_met) | (with_reducible apply wr_met0)
  | ((with_reducible apply fnGo); (· exact rfl)) | ((with_reducible apply tupGo); (· simp only [List.length_cons, List.length_nil, Nat.reduceAdd, Nat.reduceLeDiff])) | ((with_reducible apply lstGo); (· simp only [List.length_cons, List.length_nil, Nat.reduceAdd, Nat.reduceLeDiff])) | ((with_reducible apply parGo); (· exact rfl)) | ((with_reducible apply asgGo); (· exact rfl)) | (with_reducible apply blGo)
  | ((with_reducible apply metGo); (· array_mem_dec)) | (with_reducible apply wr_fld) | ((with_reducible apply fldGo); (· array_mem_dec); (· exact rfl)) | (with_reducible apply wr_new) | (with_reducible apply wr_prop) | ((with_reducible apply propGo); (· array_mem_dec)) | (with_reducible apply isqT) | ((with_reducible apply isqL); (· array_mem_dec))
  | (with_reducible apply wr_me) | ((with_reducible apply methGo); (· array_mem_dec)) | (with_reducible apply wo_unl) | ((with_reducible apply unlGo); (· array_mem_dec); (· exact rfl); (· exact rfl)) | (with_reducible apply wo_try) | ((with_reducible apply wr_isX); (· array_mem_dec); (· first | exact rfl | decide)) | ((with_reducible apply wr_isXT); (· array_mem_dec); (· first | exact rfl | decide))
  | (with_reducible apply wr_neO) | ((with_reducible apply wr_eqO); (· array_mem_dec); (· array_mem_dec)) | ((with_reducible apply wr_isC); (· array_mem_dec)) | ((with_reducible apply wr_isi); (· first | exact rfl | (apply kindL; array_mem_dec)); (· decide)) | (with_reducible apply wr_sl) | (with_reducible apply wr_nop) | (with_reducible apply wo_dsub) | (with_reducible apply wr_dcomp)
  | (with_reducible apply bif_t) | (with_reducible apply bif_f) | (with_reducible apply bif_n) | ((with_reducible apply bif_dt); (· exact rfl)) | ((with_reducible apply bif_cf); (· decide)) | ((with_reducible apply bif_ct); (· decide))
  | ((with_reducible apply wr_isv); (· first | exact rfl | assumption)) | ((with_reducible apply bif_df); (· simp only [List.length_cons, List.length_nil]; omega))
  | (with_reducible apply wr_inc))
abbrev here (n d : Nat) : Va := .tup [.int (n : Int), .loc d]
abbrev road2 (lb lc : Nat) : Va := .tup [.loc lb, .loc lc]
structure World (T : Sto) (g : Nat) (L : List (List Int)) (n d : Nat) (R : List Int → List Va) (lb lc : Nat) (B : List (List Int)) (C : List (List Int × List Int)) : Prop where
  ne : L ≠ []
  sh : ∀ s ∈ L, Sh s
  nd : L.Nodup
  wd : ∀ s ∈ L, ∀ i ∈ s, i ≤ (g : Int)
  n1 : 1 ≤ n
  n64 : n ≤ 64
  ri : RI T d L n R
  hb : T[lb]? = some (.lst (B.map tI'))
  hc : T[lc]? = some (.lst (C.map cI))
  ro : RoadOk B C
  bl : ∀ s ∈ B, s ∈ L
  cl : ∀ c ∈ C, c.1 ∈ L ∧ c.2 ∈ L
section
variable {S T : Sto} {p m g n d lb lc : Nat} {L B : List (List Int)} {C : List (List Int × List Int)} {R : List Int → List Va}
theorem World.keep (w : World S g L n d R lb lc B C) (k : Keep S T) : World T g L n d R lb lc B C := ⟨w.ne, w.sh, w.nd, w.wd, w.n1, w.n64, w.ri.keep k, k _ _ w.hb, k _ _ w.hc, w.ro, w.bl, w.cl⟩
theorem World.on (w : World S g L n d R lb lc B C) : ∀ s ∈ B ++ ends C, s ∈ L := fun s hs => by
  rcases List.mem_append.mp hs with z | z
  · exact w.bl s z
  · obtain ⟨c, hc, h⟩ := List.mem_flatMap.mp z
    rcases List.mem_cons.mp h with y | y
    · rw [y]; exact (w.cl c hc).1
    · rw [List.mem_singleton.mp y]; exact (w.cl c hc).2
end
def inR (lo hi : Int) : Va → Bool
  | .int i => decide (lo ≤ i) && decide (i ≤ hi)
  | _ => false
theorem wr_inS {S : Sto} {l : Nat} {rs : List (List Int)} (s : List Int) (h : S[l]? = some (.lst (rs.map tI'))) {QB : Bool → Sto → Prop} {E : Xp} (q : QB (decide (s ∈ rs)) S) : wr (cIn (tI' s) (.loc l) S) QB E := by
  have e : cIn (tI' s) (.loc l) S = .ok (decide (s ∈ rs)) S := by
    unfold cIn
    rw [toD_tI s 62, toD_list (getL_lst h) (allD_tps S 61 rs)]
    dsimp only
    rw [shaped_tI, shaped_tps]
    have : ((tpd rs).any fun z => PyData.eqv z (dat (tI' s))) = decide (s ∈ rs) := by
      clear h q
      induction rs with
      | nil => rfl
      | cons r rs ih =>
        show (PyData.eqv (.tuple (r.map .int)) (dat (tI' s)) || (tpd rs).any fun z => PyData.eqv z (dat (tI' s))) = _
        rw [ih, ← dat_tI, eqv_tI]
        by_cases z : r = s
        · subst z
          simp
        · simp [z, Ne.symm z]
    rw [this]
    rfl
  exact wr_of e q
section
variable {S : Sto} {i j n : Nat} {L B : List (List Int)} {C : List (List Int × List Int)} {R : List Int → List Va}
theorem match_wr (sh : ∀ s ∈ L, Sh s) (nd : L.Nodup) (hi : RuleAt S i L n R) (ok : RoadOk B C) (hj : RoadAt S j B C) :
    wr (m_check_match [.loc i, .loc j] S) (fun v T => v = .non ∧ Keep S T ∧ ∀ s ∈ B ++ ends C, s ∈ L) (fun c fs T => c = 15 ∧ fs = [] ∧ Keep S T ∧ ¬ ∀ s ∈ B ++ ends C, s ∈ L) := by
  obtain ⟨D, _, a1, _⟩ := hi.ex
  obtain ⟨b1, b2, b3, b4, _⟩ := hj
  refine v_check_match (wt_check_match_0 ?_)
  repeat array_get_dec
  obtain ⟨e, T, P, c1, c2, c3, c4, c5, c6⟩ := shapes_ok sh nd hi
  refine wt_check_match_1 ?_
  repeat array_get_dec
  refine wr_of c1 ?_
  refine wt_check_match_2 ?_
  have hjT := RoadAt.keep (⟨b1, b2, b3, b4, by assumption⟩ : RoadAt S j B C) c6
  obtain ⟨x1, x2, x3, x4, _⟩ := id hjT
  repeat array_get_dec
  obtain ⟨rs, y1, y2, y3⟩ := sS_eq ok
  refine wr_of (road_shapes_ok ok hjT) ?_
  generalize eT2 : T ++ [Ob.lst (sS B C)] = T2
  obtain ⟨k2, h2, l2⟩ := new2 eT2
  rw [y1] at h2
  have hc2 := k2 _ _ c2
  refine isqL h2 ?_
  intro D U eD lU kU hD
  have hcU := kU _ _ hc2
  have h2U := kU _ _ h2
  have cD : e ≠ D := by have := lt_of hc2; omega
  have rD : T.length ≠ D := by have := lt_of h2; omega
  have kk : ∀ {V : Sto}, KeepB D U V → Keep S V := fun k x o z => k _ _ (by have := lt_of z; have := Keep.len c6; omega) (kU _ _ (k2 _ _ (c6 _ _ z)))
  refine wr_cL (by rw [List.length_map]; omega) (fun q acc V => acc = ((rs.take q).map fun s => Va.bl (decide (s ∈ P))) ∧ KeepB D U V) ⟨rfl, KeepB.refl _ _⟩ hD (fun q acc V h => h.2 _ _ rD h2U) (fun q w acc V hw ⟨g1, g2⟩ hV => ?_) (fun acc V ⟨g1, g2⟩ hV => ?_)
  · rw [List.getElem?_map] at hw
    obtain ⟨s, hs, rfl⟩ := Option.map_eq_some_iff.mp hw
    refine ⟨_, rfl, ?_⟩
    repeat array_get_dec
    refine wr_inS s (g2 _ _ cD hcU) ?_
    refine ⟨hV, fun W lW kW hW => ⟨?_, fun x o n z => kW _ _ n (g2 _ _ n z)⟩⟩
    rw [g1, List.take_succ, hs, List.map_append]
    rfl
  · rw [g1, List.length_map, List.take_length] at hV
    have hV' : V[D]? = some (.lst ((rs.map fun s => decide (s ∈ P)).map .bl)) := hV.trans (by rw [List.map_map]; rfl)
    refine wr_nil (wr_allL hV' ?_)
    refine wr_trB ?_
    have iff : ((rs.map fun s => decide (s ∈ P)).all id = true) ↔ ∀ s ∈ B ++ ends C, s ∈ L := by
      rw [List.all_eq_true]
      refine ⟨fun h s hs => ?_, fun h b hb => ?_⟩
      · have := h _ (List.mem_map.mpr ⟨s, (y3 s).mpr hs, rfl⟩)
        exact c4.mem_iff.mp (of_decide_eq_true this)
      · obtain ⟨s, hs, rfl⟩ := List.mem_map.mp hb
        exact decide_eq_true (c4.mem_iff.mpr (h s ((y3 s).mp hs)))
    cases hb : (rs.map fun s => decide (s ∈ P)).all id with
    | true =>
      repeat array_get_dec
      exact ⟨rfl, kk g2, iff.mp hb⟩
    | false =>
      repeat array_get_dec
      exact ⟨rfl, rfl, kk g2, fun h => by rw [iff.mpr h] at hb; cases hb⟩
end
abbrev St := List Int × Nat
def stV (q : St) : Va := .tup [tI' q.1, .int (q.2 : Int)]
def stK (q : St) : NestedKey := .tup [keyS q.1, .num (q.2 : Int)]
theorem nk_st (q : St) : nkV (stV q) = some (stK q) := by
  show (nkV.nksV [tI' q.1, .int (q.2 : Int)]).map NestedKey.tup = _
  show (match nkV (tI' q.1), nkV.nksV [.int (q.2 : Int)] with | some k, some ks => some (k :: ks) | _, _ => none).map NestedKey.tup = _
  rw [nk_tI]
  rfl
theorem stK_depth {q : St} (h : Sh q.1) : (stK q).depth ≤ 8 := by
  obtain ⟨s, k⟩ := q
  cases h with
  | one a h => simp [stK, keyS, NestedKey.depth, NestedKey.depthAll]
  | two a b h h' n => simp [stK, keyS, NestedKey.depth, NestedKey.depthAll]
theorem keyT_st {q : St} (h : Sh q.1) : keyT (stV q) = some (stK q) := by
  show (match nkV (stV q) with | some k => if k.depth ≤ 8 then some k else none | none => none) = _
  rw [nk_st]
  exact if_pos (stK_depth h)
theorem stK_inj {a b : St} (h : stK a = stK b) : a = b := by
  have h1 := NestedKey.tup.inj h
  have h2 := List.cons.inj h1
  have h3 := NestedKey.num.inj (List.cons.inj h2.2).1
  exact Prod.ext (keyS_inj h2.1) (Int.ofNat_inj.mp h3)
abbrev SE' := St × Nat
def seK (e : SE') : Va × Va := (stV e.1, .loc e.2)
theorem valD_se : ∀ (E : List SE') (q : St), q ∉ E.map Prod.fst → valD (E.map seK) (stK q) = none
  | [], _, _ => rfl
  | e :: E, q, h => by
    rw [List.map_cons, List.mem_cons, not_or] at h
    have ih := valD_se E q h.2
    unfold valD at ih ⊢
    rw [List.map_cons, List.find?_cons]
    have ne : ¬ nkV (stV e.1) = some (stK q) := fun y => by
      rw [nk_st] at y
      exact h.1 (stK_inj (Option.some.inj y)).symm
    show (match decide (nkV (stV e.1) = some (stK q)) with | true => some (seK e) | false => (E.map seK).find? fun p => decide (nkV p.1 = some (stK q))).map (fun p : Va × Va => p.2) = none
    rw [decide_eq_false ne]
    exact ih
theorem valD_se_mem : ∀ (E : List SE'), (E.map Prod.fst).Nodup → ∀ e ∈ E, valD (E.map seK) (stK e.1) = some (.loc e.2)
  | [], _, e, h => nomatch h
  | a :: E, nd, e, h => by
    rw [List.map_cons, List.nodup_cons] at nd
    unfold valD
    rw [List.map_cons, List.find?_cons]
    show (match decide (nkV (stV a.1) = some (stK e.1)) with | true => some (seK a) | false => (E.map seK).find? fun p => decide (nkV p.1 = some (stK e.1))).map (fun p : Va × Va => p.2) = _
    rw [nk_st]
    rcases List.mem_cons.mp h with z | z
    · rw [z, decide_eq_true rfl]
      rfl
    · rw [decide_eq_false fun y => nd.1 (by rw [stK_inj (Option.some.inj y)]; exact List.mem_map.mpr ⟨e, z, rfl⟩)]
      exact valD_se_mem E nd.2 e z
structure SD (S : Sto) (d : Nat) (Q : List St) (F : St → List Va) : Prop where
  ex : ∃ E : List SE', S[d]? = some (.dct (E.map seK)) ∧ E.map Prod.fst = Q ∧ ∀ e ∈ E, S[e.2]? = some (.lst (F e.1))
section
variable {S T : Sto} {d r : Nat} {Q : List St} {F : St → List Va} {q : St}
theorem SD.keep (h : SD S d Q F) (k : Keep S T) : SD T d Q F := by
  obtain ⟨E, h1, h2, h3⟩ := h.ex
  exact ⟨E, k _ _ h1, h2, fun e he => k _ _ (h3 e he)⟩
theorem SD.lt (h : SD S d Q F) : d < S.length := by
  obtain ⟨E, h1, _⟩ := h.ex
  exact lt_of h1
theorem SD.nil (h : S[d]? = some (.dct [])) : SD S d [] F := ⟨[], h, rfl, fun e he => nomatch he⟩
theorem wo_st {δ : Rz.Env} {N : Rz.Env → Sto → Prop} {K : Ke} (h : SD S d Q F) (nq : q ∉ Q) (sh : Sh q.1) (lQ : Q.length ≤ 100000) (hr : S[r]? = some (.lst (F q))) (k : ∀ T, T.length = S.length → KeepB d S T → SD T d (Q ++ [q]) F → N δ T) : wo (oDput (.loc d) (stV q) (.loc r) δ S) N K := by
  obtain ⟨E', h1, h2, h3⟩ := h.ex
  have rd : r ≠ d := fun e => by rw [e, h1] at hr; cases hr
  have dk := stK_depth sh
  refine wo_dput h1 (keyT_st sh) dk (by have := congrArg List.length h2; rw [List.length_map] at this; rw [List.length_map]; omega) fun T lT kT hT => k T lT kT ⟨E' ++ [(q, r)], ?_, by rw [List.map_append, h2]; rfl, fun e he => ?_⟩
  · rw [hT]
    unfold stD
    rw [valD_se E' q (by rw [h2]; exact nq), List.map_append]
    rfl
  · rcases List.mem_append.mp he with z | z
    · exact kT _ _ (fun y => by have := h3 e z; rw [y, h1] at this; cases this) (h3 e z)
    · rw [List.mem_singleton.mp z]
      exact kT _ _ rd hr
end
def toI : Va → List Int
  | .tup us => us.filterMap fun u => match u with | .int i => some i | _ => none
  | _ => []
theorem toI_tI (s : List Int) : toI (tI' s) = s := by
  show (s.map Va.int).filterMap _ = s
  rw [List.filterMap_map]
  induction s with
  | nil => rfl
  | cons a s ih => rw [List.filterMap_cons]; exact congrArg (a :: ·) ih
theorem toI_map (L : List (List Int)) : (L.map tI').map toI = L := by
  induction L with
  | nil => rfl
  | cons a L ih => rw [List.map_cons, List.map_cons, toI_tI, ih]
def aft (C : List (List Int × List Int)) (s : List Int) : List (List Int) := (vsort ((s :: nxt C s).map tI')).map toI
theorem aft_perm (C : List (List Int × List Int)) (s : List Int) : (aft C s).Perm (s :: nxt C s) := by
  have p := (vsort_perm ((s :: nxt C s).map tI')).map toI
  rw [toI_map] at p
  exact p
theorem aft_va (C : List (List Int × List Int)) (s : List Int) : (aft C s).map tI' = vsort ((s :: nxt C s).map tI') := by
  unfold aft
  obtain ⟨L, e, _⟩ := perm_map tI_inj (vsort_perm ((s :: nxt C s).map tI'))
  rw [e, toI_map]
def psOf : Va → List (List Int)
  | .tup [.tup ps, _] => ps.map toI
  | _ => []
def ltOf : Va → Option Nat
  | .tup [_, .int i] => some i.toNat
  | _ => none
theorem ps_cV (ps : List (List Int)) (l : Option Nat) : psOf (cV ps l) = ps := by
  exact toI_map ps
theorem lt_cV (ps : List (List Int)) (l : Option Nat) : ltOf (cV ps l) = l := by
  cases l with
  | none => rfl
  | some k => show some ((k : Int).toNat) = some k; rw [Int.toNat_natCast]
def bhL (C : List (List Int × List Int)) (s : List Int) : Option Nat → List St
  | none => []
  | some k => (aft C s).map fun t => (t, k)
def bh (C : List (List Int × List Int)) (R : List Int → List Va) (q : St) : List St := bhL C q.1 (ltOf ((R q.1).getD q.2 .non))
def mv (s : List Int) : List Bool := if s.length = 1 then [false] else [false, true]
def spot (s : List Int) (code : Nat) (b : Bool) : List Int := if b then [1, (code : Int) % 2 ^ (s.getD 1 0).toNat] else [0, (code : Int) % 2 ^ (s.getD 0 0).toNat]
def un (R : List Int → List Va) (code : Nat) (q : St) : List Bool := (mv q.1).filter fun b => decide (spot q.1 code b ∉ psOf ((R q.1).getD q.2 .non))
def shs (B : List (List Int)) (C : List (List Int × List Int)) : List (List Int) := (sS B C).map toI
theorem shs_ok {B : List (List Int)} {C : List (List Int × List Int)} (ok : RoadOk B C) : (shs B C).map tI' = sS B C ∧ (shs B C).length ≤ 36 ∧ ∀ s, s ∈ shs B C ↔ s ∈ B ++ ends C := by
  obtain ⟨rs, e, l, h⟩ := sS_eq ok
  have e2 : shs B C = rs := by
    unfold shs
    rw [e, toI_map]
  rw [e2]
  exact ⟨e.symm, l, h⟩
def sts (n : Nat) (P : List (List Int)) : List St := P.flatMap fun s => (List.range n).map fun k => (s, k)
theorem wr_dinv {S : Sto} {d : Nat} {P : List (List Int)} {R : List Int → List Va} {s : List Int} {QV : Va → Sto → Prop} {E : Xp} (h : DInv S d P R) (hs : s ∈ P) (sh : Sh s) (q : ∀ r, S[r]? = some (.lst (R s)) → QV (.loc r) S) : wr (oDix (.loc d) (tI' s) S) QV E := by
  obtain ⟨kvs, h1, h2, h3, h4⟩ := h.ex
  obtain ⟨r, _, r2, r3⟩ := h3 s hs
  exact wr_dix (k := keyS s) (dct_get h1) (keyT_sh sh) r2 (q r r3)
theorem row_at {n c : Nat} {s : List Int} {ws : List Va} {w : Va} (h : RowOk n s ws) (hw : ws[c]? = some w) : ∃ ps l, w = cV ps l ∧ CallOk n s w ps l ∧ ws.getD c .non = w ∧ c < n := by
  obtain ⟨ps, l, k⟩ := h.2 w (List.mem_of_getElem? hw)
  exact ⟨ps, l, k.eq, k, by rw [List.getD_eq_getElem?_getD, hw]; rfl, by rw [← h.1]; exact (List.getElem?_eq_some_iff.mp hw).1⟩
def plB : List (List Int) := [0, 1].flatMap fun (t : Int) => (List.range 32).map fun (j : Nat) => [t, (j : Int)]
theorem plB_of {t j : Nat} (ht : t < 2) (hj : j < 32) : [(t : Int), (j : Int)] ∈ plB := by
  unfold plB
  refine List.mem_flatMap.mpr ⟨(t : Int), ?_, List.mem_map.mpr ⟨j, List.mem_range.mpr hj, rfl⟩⟩
  rcases (show t = 0 ∨ t = 1 by omega) with e | e <;> subst e <;> simp
theorem plB_small : ∀ p ∈ plB, ((dat (tI' p)).canLay0 && decide ((dat (tI' p)).weight ≤ 100) && decide ((dat (tI' p)).depth ≤ 2)) = true := by decide +kernel
theorem plB_mix : ∀ p ∈ plB, ∀ q ∈ plB, SeqAt.noMix (dat (tI' p)) (dat (tI' q)) = true := by decide +kernel
theorem plc_plB {s a : List Int} (h : Sh s) (ha : a ∈ plc s) : a ∈ plB := by
  obtain ⟨t, j, rfl, ht, hj⟩ := mem_plc ha
  have := Sh.len2 h
  have w := Sh.wid h _ (getD_mem ht)
  have : 2 ^ (s.getD t 0).toNat ≤ 2 ^ 5 := Nat.pow_le_pow_right (by decide) (by omega)
  exact plB_of (by omega) (by omega)
theorem plBs_lay : ∀ ps : List (List Int), (∀ p ∈ ps, p ∈ plB) → PyData.canLayAll0 (ps.map fun a => dat (tI' a)) = true ∧ PyData.weightAll (ps.map fun a => dat (tI' a)) ≤ 101 * ps.length ∧ PyData.depthAll (ps.map fun a => dat (tI' a)) ≤ 2
  | [], _ => ⟨by simp [PyData.canLayAll0], by simp [PyData.weightAll], by simp [PyData.depthAll]⟩
  | p :: ps, h => by
    obtain ⟨h1, h2, h3⟩ := plBs_lay ps fun x hx => h x (List.mem_cons_of_mem _ hx)
    have s := plB_small p (h p List.mem_cons_self)
    simp only [Bool.and_eq_true, decide_eq_true_eq] at s
    obtain ⟨⟨s1, s2⟩, s3⟩ := s
    refine ⟨?_, ?_, ?_⟩
    · rw [List.map_cons, PyData.canLayAll0, s1, h1]; rfl
    · rw [List.map_cons, PyData.weightAll, List.length_cons]; omega
    · rw [List.map_cons]; simp only [PyData.depthAll]; omega
section
variable {S : Sto} {s : List Int} {code : Nat}
theorem mv_two (h : Sh s) (hb : true ∈ mv s) : s.length = 2 := by
  unfold mv at hb
  by_cases c : s.length = 1
  · rw [if_pos c] at hb; simp at hb
  · cases h with
    | one a _ => exact absurd rfl c
    | two a b _ _ _ => rfl
theorem spot_plB (h : Sh s) {b : Bool} (hb : b ∈ mv s) : spot s code b ∈ plB := by
  have len1 : 0 < s.length := List.length_pos_iff.mpr h.ne
  have key : ∀ t, t < s.length → ∃ j : Nat, j < 32 ∧ (code : Int) % 2 ^ (s.getD t 0).toNat = j := fun t ht => by
    have w := Sh.wid h _ (getD_mem ht)
    have p : 2 ^ (s.getD t 0).toNat ≤ 2 ^ 5 := Nat.pow_le_pow_right (by decide) (by omega)
    have p0 : 0 < 2 ^ (s.getD t 0).toNat := Nat.two_pow_pos _
    have lt := Nat.mod_lt code p0
    refine ⟨code % 2 ^ (s.getD t 0).toNat, by omega, ?_⟩
    push_cast
    rfl
  cases b with
  | false =>
    obtain ⟨j, hj, e⟩ := key 0 len1
    show [(0 : Int), (code : Int) % 2 ^ (s.getD 0 0).toNat] ∈ plB
    rw [e]
    exact plB_of (t := 0) (by decide) hj
  | true =>
    have l2 := mv_two h hb
    obtain ⟨j, hj, e⟩ := key 1 (by omega)
    show [(1 : Int), (code : Int) % 2 ^ (s.getD 1 0).toNat] ∈ plB
    rw [e]
    exact plB_of (t := 1) (by decide) hj
end
section
variable {s : List Int}
theorem aft_len (C : List (List Int × List Int)) (s : List Int) : (aft C s).length ≤ C.length + 1 := by
  rw [(aft_perm C s).length_eq, List.length_cons]
  have := nxt_len C s
  omega
theorem mv_len (s : List Int) : (mv s).length ≤ 2 := by unfold mv; split <;> decide
end
def bs (B : List (List Int)) : List (List Int) := (sB B).map toI
theorem bs_ok (B : List (List Int)) : (bs B).map tI' = sB B ∧ (bs B).Perm B := by
  obtain ⟨rs, e, p⟩ := sB_eq B
  have e2 : bs B = rs := by unfold bs; rw [e, toI_map]
  rw [e2]
  exact ⟨e.symm, p⟩
abbrev Si := List Int × Bool × Nat
def siV (x : Si) : Va := .tup [tI' x.1, .bl x.2.1, .int (x.2.2 : Int)]
def paV (x : Si) : Va := .tup [tI' x.1, .bl x.2.1]
def starts (B : List (List Int)) : List Si := (bs B).flatMap fun s => (mv s).map fun g => (s, g, 0)
def later (C : List (List Int × List Int)) (R : List Int → List Va) (x : Si) : List Si := (bh C R (x.1, x.2.2)).flatMap fun t => (mv t.1).map fun g => (t.1, g, t.2)
def isL (R : List Int → List Va) (code : Nat) (x : Si) : Bool := decide (spot x.1 code x.2.1 ∈ psOf ((R x.1).getD x.2.2 .non))
theorem in_plc {q : List Int} {ps : List (List Int)} (hq : q ∈ plB) (hp : ∀ p ∈ ps, p ∈ plB) (hz : ps.length ≤ 100) (S : Sto) : cInT (tI' q) (.tup (ps.map tI')) S = .ok (decide (q ∈ ps)) S := by
  have sq := plB_small q hq
  simp only [Bool.and_eq_true, decide_eq_true_eq] at sq
  obtain ⟨⟨s1, s2⟩, s3⟩ := sq
  obtain ⟨l1, l2, l3⟩ := plBs_lay ps hp
  have pu : pur (.tup (ps.map tI')) = true := by simp only [pur]; exact purs_map tI' pur_tI ps
  have da : dat (.tup (ps.map tI')) = .tuple (ps.map fun a => dat (tI' a)) := by simp only [dat, dats_tI]
  have dp : (dat (.tup (ps.map tI'))).depth < 64 := by
    rw [da]
    simp only [PyData.depth]
    omega
  unfold cInT
  rw [toD_pur S (tI' q) 64 (pur_tI q) (by omega), toD_pur S _ 64 pu dp, da]
  dsimp only
  have e1 : (dat (tI' q)).layable0 = true := by
    unfold PyData.layable0
    rw [s1, decide_eq_true (by omega), decide_eq_true (by omega)]
    rfl
  have e2 : (PyData.tuple (ps.map fun a => dat (tI' a))).layable0 = true := by
    unfold PyData.layable0
    have c1 : (PyData.tuple (ps.map fun a => dat (tI' a))).canLay0 = true := by rw [PyData.canLay0]; exact l1
    have c2 : (PyData.tuple (ps.map fun a => dat (tI' a))).depth ≤ 64 := by simp only [PyData.depth]; omega
    have c3 : (PyData.tuple (ps.map fun a => dat (tI' a))).weight ≤ 2 ^ 20 := by rw [PyData.weight]; omega
    rw [c1, decide_eq_true c2, decide_eq_true c3]
    rfl
  have e3 : ((ps.map fun a => dat (tI' a)).all fun y => SeqAt.noMix y (dat (tI' q))) = true := by
    rw [List.all_eq_true]
    intro y hy
    obtain ⟨p, h, rfl⟩ := List.mem_map.mp hy
    exact plB_mix p (hp p h) q hq
  have e4 : ((ps.map fun a => dat (tI' a)).any fun z => PyData.eqv z (dat (tI' q))) = decide (q ∈ ps) := by
    clear hp hz pu da dp e2 e3 l1 l2 l3
    induction ps with
    | nil => rfl
    | cons r rs ih =>
      rw [List.map_cons, List.any_cons, ih, eqv_tI]
      by_cases z : r = q
      · subst z; simp
      · simp [z, Ne.symm z]
  rw [e1, e2, e3, e4]
  rfl
section
variable {S : Sto} {s : List Int} {code : Nat}
theorem sides_ok (h : Sh s) (S : Sto) : wr (m__law_sides [tI' s] S) (fun v T => ∃ l, v = .loc l ∧ T[l]? = some (.lst ((mv s).map .bl)) ∧ Keep S T ∧ S.length ≤ l) noE := by
  refine w__law_sides (wo_ret (wr_sl (wr_lst (wr_cons (wr_lit (wr_cons (wr_lit (wr_nil ?_))))))))
  refine lstGo (by decide) fun l T el lT kT hl => ?_
  refine wr_nop (wr_part (wr_call (wr_cons (wr_var rfl (wr_nil (wr_lenT ⟨_, rfl, ?_⟩))))))
  rw [List.length_map]
  refine wr_cut hl (by decide) fun l2 T2 e2 l2' k2 h2 => ⟨l2, rfl, ?_, fun x o z => k2 _ _ (kT _ _ z), by omega⟩
  rw [h2]
  cases h with
  | one a h => rfl
  | two a b h h' n => rfl
theorem law_spot_ok (h : Sh s) {b : Bool} (hb : b ∈ mv s) (S : Sto) : wr (m__law_spot [tI' s, .int (code : Int), .bl b] S) (fun v T => v = tI' (spot s code b) ∧ Keep S T) noE := by
  have len1 : 0 < s.length := List.length_pos_iff.mpr h.ne
  have key : ∀ t : Nat, t < s.length → ∃ w : Nat, w ≤ 5 ∧ s.getD t 0 = (w : Int) ∧ atI (s.map Va.int) (t : Int) = some (.int (w : Int)) := fun t ht => by
    have w := Sh.wid h _ (getD_mem ht)
    refine ⟨(s.getD t 0).toNat, by omega, by omega, ?_⟩
    rw [show (((s.getD t 0).toNat : Nat) : Int) = s.getD t 0 by omega]
    exact atI_nat (by rw [List.getElem?_map, List.getElem?_eq_getElem ht, List.getD_eq_getElem?_getD, List.getElem?_eq_getElem ht]; rfl)
  refine w__law_spot ?_
  repeat array_get_dec
  have fi : fInt [.bl b] S = .ok (.int (if b then 1 else 0)) S := rfl
  refine wr_of fi ?_
  repeat array_get_dec
  refine wr_of fi ?_
  cases b with
  | false =>
    obtain ⟨w, w5, ew, ea⟩ := key 0 len1
    refine wr_ixT (w := .int (w : Int)) ea ?_
    repeat array_get_dec
    obtain ⟨T, p1, k1⟩ := powN_ok (w := w) w5 S
    refine wr_of p1 ?_
    refine wr_modI (by exact_mod_cast Nat.two_pow_pos w) ?_
    repeat array_get_dec
    refine ⟨?_, k1⟩
    show Va.tup [.int 0, .int ((code : Int) % ((2 ^ w : Nat) : Int))] = tI' [0, (code : Int) % 2 ^ (s.getD 0 0).toNat]
    rw [ew, Int.toNat_natCast]
    push_cast
    rfl
  | true =>
    have l2 := mv_two h hb
    obtain ⟨w, w5, ew, ea⟩ := key 1 (by omega)
    refine wr_ixT (w := .int (w : Int)) ea ?_
    repeat array_get_dec
    obtain ⟨T, p1, k1⟩ := powN_ok (w := w) w5 S
    refine wr_of p1 ?_
    refine wr_modI (by exact_mod_cast Nat.two_pow_pos w) ?_
    repeat array_get_dec
    refine ⟨?_, k1⟩
    show Va.tup [.int 1, .int ((code : Int) % ((2 ^ w : Nat) : Int))] = tI' [1, (code : Int) % 2 ^ (s.getD 1 0).toNat]
    rw [ew, Int.toNat_natCast]
    push_cast
    rfl
end
section
variable {S : Sto} {d n lb lc code : Nat} {L B P : List (List Int)} {C : List (List Int × List Int)} {R : List Int → List Va} {s : List Int} {x : Si}
theorem after_ok (h : Sh s) (ch : ∀ c ∈ C, Ch c) (few : C.length ≤ 60) (hc : S[lc]? = some (.lst (C.map cI))) : wr (m__law_after [road2 lb lc, tI' s] S) (fun v T => ∃ l, v = .loc l ∧ T[l]? = some (.lst ((aft C s).map tI')) ∧ Keep S T ∧ S.length ≤ l) noE := by
  refine w__law_after ?_
  repeat array_get_dec
  intro l1 T1 e1 t1 k1 h1
  repeat array_get_dec
  intro D U eD lU kU hD
  have cD : lc ≠ D := by have := lt_of (k1 _ _ hc); omega
  have hcU := kU _ _ (k1 _ _ hc)
  refine wr_cL (by rw [List.length_map]; omega) (fun i acc V => acc = (nxt (C.take i) s).map tI' ∧ KeepB D U V) ⟨rfl, KeepB.refl _ _⟩ hD (fun i acc V h => h.2 _ _ cD hcU) (fun i w acc V hw ⟨g1, g2⟩ hV => ?_) (fun acc V ⟨g1, g2⟩ hV => ?_)
  · rw [List.getElem?_map] at hw
    obtain ⟨c, hc', rfl⟩ := Option.map_eq_some_iff.mp hw
    refine ⟨_, rfl, ?_⟩
    have nx : nxt (C.take (i + 1)) s = nxt (C.take i) s ++ if c.1 = s then [c.2] else [] := by
      unfold nxt
      rw [List.take_succ, hc', List.filter_append, List.map_append]
      congr 1
      by_cases z : c.1 = s
      · rw [if_pos z]; simp [z]
      · rw [if_neg z]; simp [z]
    repeat array_get_dec
    refine wr_of (cEq_tI c.1 s V) ?_
    by_cases z : c.1 = s
    · rw [decide_eq_true z]
      repeat array_get_dec
      refine ⟨hV, fun W lW kW hW => ⟨?_, fun x o n z => kW _ _ n (g2 _ _ n z)⟩⟩
      rw [g1, nx, if_pos z, List.map_append]
      rfl
    · rw [decide_eq_false z]
      refine bif_f ⟨hV, ?_, g2⟩
      rw [g1, nx, if_neg z, List.append_nil]
  · rw [g1, List.length_map, List.take_length] at hV
    have nl := nxt_len C s
    have h1V := g2 _ _ (by have := lt_of h1; omega) (kU _ _ h1)
    refine wr_addL h1V hV (by rw [List.length_append, List.length_map]; simp; omega) fun l2 T2 e2 t2 k2 h2 => ?_
    have h2' : T2[l2]? = some (.lst ((s :: nxt C s).map tI')) := h2
    repeat array_get_dec
    refine wr_srt h2' (sortV_shs fun t ht => by
      rcases List.mem_cons.mp ht with z | z
      · rw [z]; exact h.ne
      · exact (nxt_sh ch s t z).ne) (by rw [List.length_map, List.length_cons]; omega) fun l3 T3 e3 t3 k3 h3 => ?_
    rw [← aft_va] at h3
    have := kbLen g2 (lt_of hV)
    exact ⟨l3, rfl, h3, fun x o z => k3 _ _ (k2 _ _ (g2 _ _ (by have := lt_of z; omega) (kU _ _ (k1 _ _ z)))), by omega⟩
theorem starts_ok (sh : ∀ s ∈ B, Sh s) (nd : B.Nodup) (hb : S[lb]? = some (.lst (B.map tI'))) : wr (m__law_starts [road2 lb lc] S) (fun v T => ∃ l, v = .loc l ∧ T[l]? = some (.lst ((starts B).map siV)) ∧ Keep S T ∧ S.length ≤ l) noE := by
  have l36 := Sh.len36 sh nd
  refine w__law_starts ?_
  repeat array_get_dec
  intro l1 T1 e1 t1 k1 h1
  repeat array_get_dec
  refine wr_srt (k1 _ _ hb) (sortV_shs fun t ht => (sh t ht).ne) (by rw [List.length_map]; omega) fun l2 T2 e2 t2 k2 h2 => ?_
  obtain ⟨b1, b2⟩ := bs_ok B
  have h2' : T2[l2]? = some (.lst ((bs B).map tI')) := h2.trans (by rw [b1])
  refine isqL h2' ?_
  refine wo_loc (fun i δ U => (∃ (f : Nat) (e2 e3 : Option Va), δ = [some (road2 lb lc), some (.loc f), e2, e3] ∧ U[f]? = some (.lst ((((bs B).take i).flatMap fun s => (mv s).map fun g => (s, g, 0)).map siV)) ∧ S.length ≤ f) ∧ Keep T2 U) ⟨⟨l1, _, _, rfl, k2 _ _ h1, by omega⟩, Keep.refl _⟩ (fun i δ U h => h.2 _ _ h2') (fun i w δ U hw ⟨⟨f, e2', e3', ed, hf, lf⟩, kU⟩ => ?_) (fun δ U ⟨⟨f, e2', e3', ed, hf, lf⟩, kU⟩ => ?_)
  · subst ed
    rw [List.getElem?_map] at hw
    obtain ⟨s, hs, rfl⟩ := Option.map_eq_some_iff.mp hw
    have sm : s ∈ B := b2.mem_iff.mp (List.mem_of_getElem? hs)
    refine ⟨_, rfl, wl__law_starts_0 (wo_set (wr_bin (wr_var rfl (wr_comp (wr_isq ?_)))))⟩
    repeat array_get_dec
    refine (sides_ok (sh s sm) U).use fun v U1 ⟨l3, ev, h3, k3, n3⟩ => ?_
    subst ev
    refine isqL h3 ?_
    intro D V eD lV kV hD
    have nD : l3 ≠ D := by have := lt_of h3; omega
    have ml := mv_len s
    refine wr_cL (by rw [List.length_map]; omega) (fun q acc W => acc = ((mv s).take q).map (fun g => siV (s, g, 0)) ∧ KeepB D V W) ⟨rfl, KeepB.refl _ _⟩ hD (fun q acc W h => h.2 _ _ nD (kV _ _ h3)) (fun q w acc W hw' ⟨g1, g2⟩ hW => ?_) (fun acc W ⟨g1, g2⟩ hW => ?_)
    · rw [List.getElem?_map] at hw'
      obtain ⟨g, hg, rfl⟩ := Option.map_eq_some_iff.mp hw'
      refine ⟨_, rfl, ?_⟩
      repeat array_get_dec
      refine ⟨hW, fun X lX kX hX => ⟨?_, fun x o n z => kX _ _ n (g2 _ _ n z)⟩⟩
      rw [g1, List.take_succ, hg, List.map_append]
      rfl
    · rw [g1, List.length_map, List.take_length] at hW
      have kUW : Keep U W := fun x o z => g2 _ _ (by have := lt_of z; have := Keep.len k3; omega) (kV _ _ (k3 _ _ z))
      have ln : ((((bs B).take i).flatMap fun s => (mv s).map fun g => (s, g, 0)).map siV).length ≤ 2 * 36 := by
        rw [List.length_map]
        refine Nat.le_trans (flat_len _ 2 _ fun a _ => by rw [List.length_map]; exact mv_len a) (Nat.mul_le_mul_left _ ?_)
        rw [List.length_take, b2.length_eq]
        omega
      have l2' : ((mv s).map fun g => siV (s, g, 0)).length ≤ 2 := by rw [List.length_map]; exact ml
      refine wr_addL (kUW _ _ hf) hW (by rw [List.length_append]; omega) fun l4 X e4 t4 k4 h4 => ?_
      refine ⟨⟨l4, _, _, rfl, ?_, by have := Keep.len kU; have := Keep.len kUW; have := Keep.len k2; have := Keep.len k1; omega⟩, fun x o z => k4 _ _ (kUW _ _ (kU _ _ z))⟩
      rw [h4, List.take_succ, hs, List.flatMap_append, List.map_append]
      congr 3
      show _ = ((mv s).map (fun g => (s, g, 0)) ++ []).map siV
      rw [List.append_nil, List.map_map]
      rfl
  · subst ed
    rw [List.length_map, List.take_length] at hf
    repeat array_get_dec
    exact ⟨f, rfl, hf, fun x o z => kU _ _ (k2 _ _ (k1 _ _ z)), lf⟩
end
section
variable {S : Sto} {d n lb lc code c : Nat} {L B P : List (List Int)} {C : List (List Int × List Int)} {R : List Int → List Va} {s : List Int} {g : Bool}
theorem wr_callAt {QV : Va → Sto → Prop} {E : Xp} {k : Int} {T : Sto} {r : Nat} (ro : RowOk n s (R s)) (hc : c < n) (hr : T[r]? = some (.lst (R s))) (q : ∀ ps l, CallOk n s (cV ps l) ps l → (R s).getD c .non = cV ps l → QV (cV ps l) T) : wr (oIx (.loc r) (.int (c : Int)) T) QV E := by
  have hw : (R s)[c]? = some ((R s)[c]'(by rw [ro.1]; exact hc)) := List.getElem?_eq_getElem _
  obtain ⟨ps, l, ew, ck, eg, _⟩ := row_at ro hw
  rw [ew] at ck eg
  refine wr_ixL hr (atI_nat hw) ?_
  rw [ew]
  exact q ps l ck eg
theorem is_listed_ok (sh : Sh s) (sL : s ∈ L) (di : DInv S d L R) (ro : RowOk n s (R s)) (hc : c < n) (hg : g ∈ mv s) :
    wr (m__law_is_listed [here n d, .tup [tI' s, .bl g, .int (c : Int)], .int (code : Int)] S) (fun v T => v = .bl (isL R code (s, g, c)) ∧ Keep S T) noE := by
  refine v__law_is_listed (wt__law_is_listed_0 ?_)
  repeat array_get_dec
  refine wt__law_is_listed_1 ?_
  repeat array_get_dec
  refine (law_spot_ok sh hg S).use fun v T ⟨ev, kT⟩ => ?_
  subst ev
  repeat array_get_dec
  refine wr_dinv (di.keep kT) sL sh fun r hr => ?_
  repeat array_get_dec
  refine wr_callAt (k := 0) ro hc hr fun ps l ck eg => ?_
  refine wr_lit (wr_ixT (show atI [Va.tup (ps.map tI'), lV l] 0 = some (.tup (ps.map tI')) from rfl) ?_)
  refine wr_of (in_plc (spot_plB sh hg) (fun p hp => plc_plB sh (ck.mem p hp)) (by have := ck.len; omega) T) ?_
  refine ⟨?_, kT⟩
  show Va.bl _ = Va.bl (decide (spot s code g ∈ psOf ((R s).getD c .non)))
  rw [eg, ps_cV]
theorem later_ok (sh : Sh s) (sL : s ∈ L) (di : DInv S d L R) (ro : RowOk n s (R s)) (hc : c < n) (ch : ∀ c ∈ C, Ch c) (few : C.length ≤ 60) (hC : S[lc]? = some (.lst (C.map cI))) :
    wr (m__law_later [here n d, road2 lb lc, .tup [tI' s, .bl g, .int (c : Int)]] S) (fun v T => ∃ l, v = .loc l ∧ T[l]? = some (.lst ((later C R (s, g, c)).map siV)) ∧ Keep S T ∧ S.length ≤ l ∧ (later C R (s, g, c)).length ≤ 122) noE := by
  refine v__law_later (wt__law_later_0 ?_)
  repeat array_get_dec
  refine wr_dinv di sL sh fun r hr => ?_
  repeat array_get_dec
  refine wr_callAt (k := 0) ro hc hr fun ps l ck eg => ?_
  refine wr_lit (wr_ixT (show atI [Va.tup (ps.map tI'), lV l] 1 = some (lV l) from rfl) ?_)
  have eb : bh C R (s, c) = bhL C s l := by
    show bhL C s (ltOf ((R s).getD c .non)) = _
    rw [eg, lt_cV]
  have el : later C R (s, g, c) = (bhL C s l).flatMap fun t => (mv t.1).map fun g => (t.1, g, t.2) := by
    show (bh C R (s, c)).flatMap _ = _
    rw [eb]
  refine wt__law_later_1 ?_
  repeat array_get_dec
  intro f0 T1 e1 t1 k1 h1
  refine wt__law_later_2 ?_
  refine wo_for (wr_isq (wr_ite (wr_isN (wr_var rfl ?_))))
  cases l with
  | none =>
    refine bif_ct rfl ?_
    repeat array_get_dec
    intro f2 T2 e2 t2 k2 h2
    refine isqL h2 ?_
    refine wo_loc (ws := []) (fun i δ U => δ = [some (here n d), some (road2 lb lc), some (.tup [tI' s, .bl g, .int (c : Int)]), some .non, some (.loc f0), none, none] ∧ Keep T2 U) ⟨rfl, Keep.refl _⟩ (fun i δ U h => h.2 _ _ h2) (fun i w δ U hw h => nomatch hw) (fun δ U ⟨ed, kU⟩ => ?_)
    subst ed
    refine wt__law_later_3 ?_
    repeat array_get_dec
    exact ⟨f0, rfl, by rw [el]; exact kU _ _ (k2 _ _ h1), fun x o z => kU _ _ (k2 _ _ (k1 _ _ z)), by omega, by rw [el]; exact Nat.zero_le _⟩
  | some k =>
    refine bif_cf rfl ?_
    repeat array_get_dec
    refine (after_ok sh ch few (k1 _ _ hC)).use fun v T2 ⟨la, ev, h2, k2, n2⟩ => ?_
    subst ev
    refine isqL h2 ?_
    have al := aft_len C s
    have pa := aft_perm C s
    have shA : ∀ t ∈ aft C s, Sh t := fun t ht => by
      rcases List.mem_cons.mp (pa.mem_iff.mp ht) with z | z
      · rw [z]; exact sh
      · exact nxt_sh ch s t z
    refine wo_loc (fun i δ U => (∃ (f : Nat) (e5 e6 : Option Va), δ = [some (here n d), some (road2 lb lc), some (.tup [tI' s, .bl g, .int (c : Int)]), some (.int (k : Int)), some (.loc f), e5, e6] ∧ U[f]? = some (.lst ((((aft C s).take i).flatMap fun t => (mv t).map fun g => (t, g, k)).map siV)) ∧ S.length ≤ f) ∧ Keep T2 U) ⟨⟨f0, _, _, rfl, k2 _ _ h1, by omega⟩, Keep.refl _⟩ (fun i δ U h => h.2 _ _ h2) (fun i w δ U hw ⟨⟨f, e5, e6, ed, hf, lf⟩, kU⟩ => ?_) (fun δ U ⟨⟨f, e5, e6, ed, hf, lf⟩, kU⟩ => ?_)
    · subst ed
      rw [List.getElem?_map] at hw
      obtain ⟨t, ht, rfl⟩ := Option.map_eq_some_iff.mp hw
      have sT := shA t (List.mem_of_getElem? ht)
      refine ⟨_, rfl, vl__law_later_0 (wo_set (wr_bin (wr_var rfl (wr_comp (wr_isq ?_)))))⟩
      repeat array_get_dec
      refine (sides_ok sT U).use fun v U1 ⟨l3, ev, h3, k3, n3⟩ => ?_
      subst ev
      refine isqL h3 ?_
      intro D V eD lV' kV hD
      have nD : l3 ≠ D := by have := lt_of h3; omega
      have ml := mv_len t
      refine wr_cL (by rw [List.length_map]; omega) (fun q acc W => acc = ((mv t).take q).map (fun g => siV (t, g, k)) ∧ KeepB D V W) ⟨rfl, KeepB.refl _ _⟩ hD (fun q acc W h => h.2 _ _ nD (kV _ _ h3)) (fun q w acc W hw' ⟨g1, g2⟩ hW => ?_) (fun acc W ⟨g1, g2⟩ hW => ?_)
      · rw [List.getElem?_map] at hw'
        obtain ⟨g', hg', rfl⟩ := Option.map_eq_some_iff.mp hw'
        refine ⟨_, rfl, ?_⟩
        repeat array_get_dec
        refine ⟨hW, fun X lX kX hX => ⟨?_, fun x o n z => kX _ _ n (g2 _ _ n z)⟩⟩
        rw [g1, List.take_succ, hg', List.map_append]
        rfl
      · rw [g1, List.length_map, List.take_length] at hW
        have kUW : Keep U W := fun x o z => g2 _ _ (by have := lt_of z; have := Keep.len k3; omega) (kV _ _ (k3 _ _ z))
        have ln : ((((aft C s).take i).flatMap fun t => (mv t).map fun g => (t, g, k)).map siV).length ≤ 2 * 61 := by
          rw [List.length_map]
          refine Nat.le_trans (flat_len _ 2 _ fun a _ => by rw [List.length_map]; exact mv_len a) (Nat.mul_le_mul_left _ ?_)
          rw [List.length_take]
          omega
        have l2' : ((mv t).map fun g => siV (t, g, k)).length ≤ 2 := by rw [List.length_map]; exact ml
        refine wr_addL (kUW _ _ hf) hW (by rw [List.length_append]; omega) fun l4 X e4 t4 k4 h4 => ?_
        refine ⟨⟨l4, _, _, rfl, ?_, by have := Keep.len kU; have := Keep.len kUW; have := Keep.len k2; have := Keep.len k1; omega⟩, fun x o z => k4 _ _ (kUW _ _ (kU _ _ z))⟩
        rw [h4, List.take_succ, ht, List.flatMap_append, List.map_append]
        congr 3
        show _ = ((mv t).map (fun g => (t, g, k)) ++ []).map siV
        rw [List.append_nil, List.map_map]
        rfl
    · subst ed
      rw [List.length_map, List.take_length] at hf
      refine wt__law_later_3 ?_
      repeat array_get_dec
      have e2 : (bhL C s (some k)).flatMap (fun t => (mv t.1).map fun g => (t.1, g, t.2)) = (aft C s).flatMap fun t => (mv t).map fun g => (t, g, k) := by
        show ((aft C s).map fun t => (t, k)).flatMap _ = _
        rw [List.flatMap_map]
      refine ⟨f, rfl, by rw [el, e2]; exact hf, fun x o z => kU _ _ (k2 _ _ (k1 _ _ z)), lf, ?_⟩
      rw [el, e2]
      refine Nat.le_trans (flat_len _ 2 _ fun a _ => by rw [List.length_map]; exact mv_len a) ?_
      omega
end
abbrev Stp := List Int × Bool
def paO (x : Si) : Stp := (x.1, x.2.1)
abbrev spV (q : Stp) : Va := .tup [tI' q.1, .bl q.2]
theorem starts_mem {B : List (List Int)} {x : Si} : x ∈ starts B ↔ x.1 ∈ B ∧ x.2.1 ∈ mv x.1 ∧ x.2.2 = 0 := by
  unfold starts
  rw [List.mem_flatMap]
  constructor
  · rintro ⟨s, hs, h⟩
    obtain ⟨g, hg, rfl⟩ := List.mem_map.mp h
    exact ⟨(bs_ok B).2.mem_iff.mp hs, hg, rfl⟩
  · obtain ⟨s, g, c⟩ := x
    rintro ⟨h1, h2, h3⟩
    dsimp only at h1 h2 h3
    subst h3
    exact ⟨s, (bs_ok B).2.mem_iff.mpr h1, List.mem_map.mpr ⟨g, h2, rfl⟩⟩
theorem later_mem {C : List (List Int × List Int)} {R : List Int → List Va} {x y : Si} : y ∈ later C R x ↔ ltOf ((R x.1).getD x.2.2 .non) = some y.2.2 ∧ (y.1 = x.1 ∨ (x.1, y.1) ∈ C) ∧ y.2.1 ∈ mv y.1 := by
  have am : ∀ t, t ∈ aft C x.1 ↔ t = x.1 ∨ (x.1, t) ∈ C := fun t => by
    rw [(aft_perm C x.1).mem_iff, List.mem_cons]
    unfold nxt
    rw [List.mem_map]
    refine or_congr Iff.rfl ⟨?_, fun h => ⟨(x.1, t), List.mem_filter.mpr ⟨h, by simp⟩, rfl⟩⟩
    rintro ⟨c, hc, rfl⟩
    obtain ⟨h1, h2⟩ := List.mem_filter.mp hc
    have e : c.1 = x.1 := by simpa using h2
    rw [← e]
    exact h1
  unfold later
  show y ∈ (bhL C x.1 (ltOf ((R x.1).getD x.2.2 .non))).flatMap _ ↔ _
  cases ltOf ((R x.1).getD x.2.2 .non) with
  | none => exact ⟨(fun h => nomatch h), (fun h => nomatch h.1)⟩
  | some k =>
    rw [List.mem_flatMap]
    constructor
    · rintro ⟨t, ht, h⟩
      obtain ⟨u, hu, rfl⟩ := List.mem_map.mp ht
      obtain ⟨g, hg, rfl⟩ := List.mem_map.mp h
      exact ⟨rfl, (am _).mp hu, hg⟩
    · obtain ⟨s, g, c⟩ := y
      rintro ⟨h1, h2, h3⟩
      cases h1
      exact ⟨(s, _), List.mem_map.mpr ⟨s, (am s).mpr h2, rfl⟩, List.mem_map.mpr ⟨g, h3, rfl⟩⟩
structure Walk (B : List (List Int)) (C : List (List Int × List Int)) (R : List Int → List Va) (W : List Si) : Prop where
  st : ∀ x, W[0]? = some x → x ∈ starts B
  nx : ∀ i x y, W[i]? = some x → W[i + 1]? = some y → y ∈ later C R x
def fit (B : List (List Int)) (C : List (List Int × List Int)) (R : List Int → List Va) (W : List Si) : List Si := match W.getLast? with
  | none => starts B
  | some x => later C R x
section
variable {B : List (List Int)} {C : List (List Int × List Int)} {R : List Int → List Va} {W : List Si} {n : Nat}
theorem Walk.nil : Walk B C R [] := ⟨(fun x h => nomatch h), (fun i x y h => nomatch h)⟩
theorem fit_snoc (x : Si) : fit B C R (W ++ [x]) = later C R x := by
  unfold fit
  rw [List.getLast?_concat]
theorem Walk.snoc (h : Walk B C R W) {x : Si} (hx : x ∈ fit B C R W) : Walk B C R (W ++ [x]) := by
  refine ⟨fun y hy => ?_, fun i u y hu hy => ?_⟩
  · cases W with
    | nil => cases hy; exact hx
    | cons w W => exact h.st y hy
  · by_cases c : i + 1 < W.length
    · rw [List.getElem?_append_left (by omega)] at hu
      rw [List.getElem?_append_left c] at hy
      exact h.nx i u y hu hy
    · by_cases c2 : i + 1 = W.length
      · rw [List.getElem?_append_left (by omega)] at hu
        rw [List.getElem?_append_right (by omega), c2, Nat.sub_self] at hy
        cases hy
        have : W.getLast? = some u := by rw [List.getLast?_eq_getElem?, ← c2]; exact hu
        unfold fit at hx
        rw [this] at hx
        exact hx
      · rw [List.getElem?_append_right (by omega)] at hy
        rw [List.getElem?_eq_none (by simp; omega)] at hy
        cases hy
theorem Walk.fit_take (h : Walk B C R W) {i : Nat} {x : Si} (hx : W[i]? = some x) : x ∈ fit B C R (W.take i) := by
  unfold fit
  rw [List.getLast?_eq_getElem?, List.length_take]
  cases i with
  | zero => exact h.st x hx
  | succ i =>
    have il := (List.getElem?_eq_some_iff.mp hx).1
    have hu : W[i]? = some (W[i]'(by omega)) := List.getElem?_eq_getElem _
    rw [show min (i + 1) W.length - 1 = i by omega, List.getElem?_take, if_pos (by omega), hu]
    exact h.nx i _ x hu hx
theorem Walk.good (h : Walk B C R W) (ok : RoadOk B C) (n1 : 1 ≤ n) (ro : ∀ s ∈ B ++ ends C, RowOk n s (R s)) : ∀ (i : Nat) (x : Si), W[i]? = some x → x.1 ∈ B ++ ends C ∧ x.2.1 ∈ mv x.1 ∧ x.2.2 < n
  | 0, x, hx => by
    obtain ⟨a, b, c⟩ := starts_mem.mp (h.st x hx)
    exact ⟨List.mem_append.mpr (.inl a), b, by omega⟩
  | i + 1, y, hy => by
    have il := (List.getElem?_eq_some_iff.mp hy).1
    have hx : W[i]? = some (W[i]'(by omega)) := List.getElem?_eq_getElem _
    generalize W[i]'(by omega) = x at hx
    obtain ⟨a, b, c⟩ := h.good ok n1 ro i x hx
    obtain ⟨l1, l2, l3⟩ := later_mem.mp (h.nx i x y hx hy)
    refine ⟨?_, l3, ?_⟩
    · rcases l2 with z | z
      · rw [z]; exact a
      · exact List.mem_append.mpr (.inr (List.mem_flatMap.mpr ⟨_, z, by simp⟩))
    · have rw_ := ro _ a
      have hw : (R x.1)[x.2.2]? = some ((R x.1)[x.2.2]'(by rw [rw_.1]; exact c)) := List.getElem?_eq_getElem _
      obtain ⟨ps, l, ew, ck, eg, _⟩ := row_at rw_ hw
      rw [eg, ew, lt_cV] at l1
      exact ck.lt _ l1
end
abbrev clO (R : List Int → List Va) (x : Si) : Va := (R x.1).getD x.2.2 .non
theorem wr_sl2 {QV : Va → Sto → Prop} {E : Xp} {S : Sto} {δ : Rz.Env} {i : Nat} {a b c : Va} (h : δ[i]? = some (some (.tup [a, b, c]))) (q : QV (.tup [a, b]) S) : wr (xsliceT (xvar i) xnop (xpart (xlit (.int 2))) δ S) QV E := by
  refine wr_of ?_ q
  unfold xsliceT
  rw [var_at h, bind_ok]
  show oCutT (.tup [a, b, c]) none (some 2) S = _
  have e : cutA [a, b, c] none (some 2) = [a, b] := rfl
  unfold oCutT
  dsimp only
  rw [e]
  exact ltup_eq (ws := [a, b]) S (by simp only [List.length_cons, List.length_nil]; omega)
section
variable {S T : Sto} {p m n i x : Nat} {L : List (List Int)} {R : List Int → List Va}
theorem lst_pen {xs : List Va} (pn : Pen S p m) (k : KeepB p S T) (tu : ∀ v ∈ xs, ∃ us, v = .tup us) (h : S[x]? = some (.lst xs)) : T[x]? = some (.lst xs) := by
  obtain ⟨a, b, c, hp⟩ := pn.at
  refine k _ _ (fun e => ?_) h
  rw [e, hp] at h
  have e1 := Ob.lst.inj (Option.some.inj h)
  obtain ⟨us, z⟩ := tu (.loc a) (by rw [← e1]; exact List.mem_cons_self)
  cases z
theorem map_tup {α : Type} {f : α → Va} (hf : ∀ a, ∃ us, f a = .tup us) {ws : List α} : ∀ v ∈ ws.map f, ∃ us, v = .tup us := fun v hv => by
  obtain ⟨a, _, rfl⟩ := List.mem_map.mp hv
  exact hf a
theorem vsort_tup {ws : List Va} (h : ∀ v ∈ ws, ∃ us, v = .tup us) : ∀ v ∈ vsort ws, ∃ us, v = .tup us := fun v hv => h v ((vsort_perm ws).mem_iff.mp hv)
theorem RuleAt.pen (h : RuleAt S i L n R) (pn : Pen S p m) (k : KeepB p S T) (ro : ∀ s ∈ L, RowOk n s (R s)) : RuleAt T i L n R := by
  obtain ⟨D, P, h1, h2, h3, h4⟩ := h.ex
  obtain ⟨a, b, c, hp⟩ := pn.at
  exact ⟨D, P, k _ _ (fun e => by rw [e, hp] at h1; cases h1) h1, h2.pen pn k (fun s hs => ro s (h4.mem_iff.mp hs)), h3, h4⟩
theorem RoadAt.pen {B : List (List Int)} {C : List (List Int × List Int)} (h : RoadAt S i B C) (pn : Pen S p m) (k : KeepB p S T) : RoadAt T i B C := by
  obtain ⟨a, b, c, h1, h2, h3, h4⟩ := h
  obtain ⟨a', b', c', hp⟩ := pn.at
  exact ⟨a, b, c, k _ _ (fun e => by rw [e, hp] at h1; cases h1) h1, lst_pen pn k (vsort_tup (map_tup fun _ => ⟨_, rfl⟩)) h2, lst_pen pn k (vsort_tup (map_tup fun _ => ⟨_, rfl⟩)) h3, lst_pen pn k (vsort_tup fun v hv => map_tup (fun _ => ⟨_, rfl⟩) v (nub_mem hv)) h4⟩
theorem World.pen {g d lb lc : Nat} {B : List (List Int)} {C : List (List Int × List Int)} (w : World S g L n d R lb lc B C) (pn : Pen S p m) (k : KeepB p S T) : World T g L n d R lb lc B C := ⟨w.ne, w.sh, w.nd, w.wd, w.n1, w.n64, w.ri.pen pn k, lst_pen pn k (map_tup fun _ => ⟨_, rfl⟩) w.hb, lst_pen pn k (map_tup fun _ => ⟨_, rfl⟩) w.hc, w.ro, w.bl, w.cl⟩
end
theorem road_of_ok {S : Sto} {l q : Nat} {B : List (List Int)} {C : List (List Int × List Int)} (ok : RoadOk B C) (hl : S[l]? = some (.lst (B.map tI'))) (hq : S[q]? = some (.lst (C.map cI))) : ∃ i T, m__law_road_of [road2 l q] S = .ok (.loc i) T ∧ RoadAt T i B C ∧ Keep S T := by
  obtain ⟨i, T, e, r, k, _⟩ := made_ok ok (as := acons (xbin oIx (xvar 0) (xlit (.int 0))) (acons (xbin oIx (xvar 0) (xlit (.int 1))) anil)) (δ := [some (road2 l q)]) (S0 := S) (cons_at (bin_at (var_at rfl) lit_at (ixT_at rfl)) (one_at (bin_at (var_at rfl) lit_at (ixT_at rfl)))) hl hq
  refine ⟨i, T, ?_, r, k⟩
  show (b__law_road_of [some (road2 l q)] S).fin = _
  have : b__law_road_of [some (road2 l q)] S = .rt (.loc i) T := by
    unfold b__law_road_of
    exact ret_at e
  rw [this]
  rfl

section
variable {S : Sto} {p m g n d lb lc : Nat} {L B : List (List Int)} {C : List (List Int × List Int)} {R : List Int → List Va}
theorem mv_ne (s : List Int) : mv s ≠ [] := by unfold mv; split <;> simp
theorem starts_ne (ne : B ≠ []) : starts B ≠ [] := by
  obtain ⟨b, B', rfl⟩ := List.exists_cons_of_ne_nil ne
  obtain ⟨g, gs, e⟩ := List.exists_cons_of_ne_nil (mv_ne b)
  intro h
  have : ((b, g, 0) : Si) ∈ starts (b :: B') := starts_mem.mpr ⟨List.mem_cons_self, by rw [e]; exact List.mem_cons_self, rfl⟩
  rw [h] at this
  nomatch this
theorem starts_len (h : B.length ≤ 36) : (starts B).length ≤ 122 := by
  unfold starts
  refine Nat.le_trans (flat_len _ 2 _ fun a _ => by rw [List.length_map]; exact mv_len a) ?_
  rw [(bs_ok B).2.length_eq]
  omega
end
def paD (q : Stp) : PyData := dat (spV q)
def allPa : List Stp := allSh.flatMap fun s => [(s, false), (s, true)]
def paY (q : Stp) : Bool := pur (spV q) && okY (paD q) && decide (szY (paD q) ≤ 120) && decide ((paD q).depth ≤ 4)
theorem paY_all : allPa.all paY = true := by decide +kernel
theorem paS_nd : (allPa.map fun q => (paD q).shown).Nodup := by decide +kernel
theorem pa_mem {q : Stp} (h : Sh q.1) : q ∈ allPa := by
  obtain ⟨s, g⟩ := q
  refine List.mem_flatMap.mpr ⟨s, h.all, ?_⟩
  cases g <;> simp
theorem pa_y {q : Stp} (h : Sh q.1) : pur (spV q) = true ∧ okY (paD q) = true ∧ szY (paD q) ≤ 120 ∧ (paD q).depth ≤ 4 := by
  have := List.all_eq_true.mp paY_all q (pa_mem h)
  unfold paY at this
  simp only [Bool.and_eq_true, decide_eq_true_eq] at this
  exact ⟨this.1.1.1, this.1.1.2, this.1.2, this.2⟩
theorem pa_inj {a b : Stp} (ha : Sh a.1) (hb : Sh b.1) (e : (paD a).shown = (paD b).shown) : a = b := by
  have key : ∀ {L : List Stp}, (L.map fun q => (paD q).shown).Nodup → a ∈ L → b ∈ L → a = b := fun {L} => by
    induction L with
    | nil => intro _ h; nomatch h
    | cons q L ih =>
      intro nd h1 h2
      rw [List.map_cons, List.nodup_cons] at nd
      rcases List.mem_cons.mp h1 with z1 | z1
      · rcases List.mem_cons.mp h2 with z2 | z2
        · rw [z1, z2]
        · exact absurd (List.mem_map.mpr ⟨b, z2, by rw [← e, z1]⟩) nd.1
      · rcases List.mem_cons.mp h2 with z2 | z2
        · exact absurd (List.mem_map.mpr ⟨a, z1, by rw [e, z2]⟩) nd.1
        · exact ih nd.2 z1 z2
  exact key paS_nd (pa_mem ha) (pa_mem hb)
theorem repr_pa {q : Stp} (h : Sh q.1) (S : Sto) : fReprY [spV q] S = .ok (.str (paD q).shown) S := by
  obtain ⟨a, b, c, d⟩ := pa_y h
  exact fReprY_eq (toY_pur S _ 64 a (by show (paD q).depth < 64; omega)) b (by omega) (by omega)
section
variable {S : Sto} {g n d lb lc l : Nat} {L B : List (List Int)} {C : List (List Int × List Int)} {R : List Int → List Va} {W : List Si}
theorem fit_one {U : List Si} {x y : Si} (hx : x ∈ fit B C R U) (hy : y ∈ fit B C R U) (e : paO y = paO x) : y = x := by
  have e1 : y.1 = x.1 := (Prod.mk.inj e).1
  have e2 : y.2.1 = x.2.1 := (Prod.mk.inj e).2
  have e3 : y.2.2 = x.2.2 := by
    unfold fit at hx hy
    cases c : U.getLast? with
    | none =>
      rw [c] at hx hy
      rw [(starts_mem.mp hx).2.2, (starts_mem.mp hy).2.2]
    | some u =>
      rw [c] at hx hy
      have h1 := (later_mem.mp hx).1
      have h2 := (later_mem.mp hy).1
      rw [h1] at h2
      exact (Option.some.inj h2).symm
  exact Prod.ext e1 (Prod.ext e2 e3)
abbrev S8 (n d lb lc l f lf : Nat) (e3 e6 e7 : Option Va) : Rz.Env := [some (here n d), some (road2 lb lc), some (.loc l), e3, some (.loc f), some (.loc lf), e6, e7]
theorem situations_ok (w : World S g L n d R lb lc B C) (wk : Walk B C R W) (ne : W ≠ []) (lz : W.length ≤ 2000) (hl : S[l]? = some (.lst (W.map fun x => spV (paO x)))) :
    wr (m__law_situations [here n d, road2 lb lc, .loc l] S) (fun v T => ∃ f, v = .loc f ∧ T[f]? = some (.lst (W.map siV)) ∧ Keep S T ∧ S.length ≤ f) noE := by
  have l36 := Sh.len36 w.ro.sh w.ro.nd
  have gd := wk.good w.ro w.n1 (fun s hs => w.ri.ro s (w.on s hs))
  obtain ⟨x0, W', eW⟩ := List.exists_cons_of_ne_nil ne
  have ie : (W.map fun x => spV (paO x)).isEmpty = false := by rw [eW]; rfl
  refine v__law_situations (wt__law_situations_0 ?_)
  repeat array_get_dec
  intro l1 T1 e1 t1 k1 h1
  refine wr_eqE (k1 _ _ hl) h1 ?_
  rw [ie]
  repeat array_get_dec
  refine wt__law_situations_1 ?_
  repeat array_get_dec
  intro f T2 e2 t2 k2 hf
  repeat array_get_dec
  have k12 : Keep S T2 := fun x o y => k2 _ _ (k1 _ _ y)
  refine (starts_ok (lc := lc) w.ro.sh w.ro.nd (k12 _ _ w.hb)).use fun v T3 ⟨ls, ev, hs, k3, ll⟩ => ?_
  subst ev
  repeat array_get_dec
  refine wt__law_situations_2 ?_
  have k13 : Keep S T3 := fun x o y => k3 _ _ (k12 _ _ y)
  have hl3 := k13 _ _ hl
  have nf : l ≠ f := by have := lt_of (k1 _ _ hl); omega
  refine wo_for (wr_isq (wr_var rfl (isqL hl3 ?_)))
  refine wo_loc (fun q δ U => (∃ lf e3 e6 e7, δ = S8 n d lb lc l f lf e3 e6 e7 ∧ U[lf]? = some (.lst ((fit B C R (W.take q)).map siV)) ∧ (fit B C R (W.take q)).length ≤ 122 ∧ lf ≠ f) ∧ U[f]? = some (.lst ((W.take q).map siV)) ∧ KeepB f T3 U) ⟨⟨ls, none, none, none, rfl, hs, starts_len l36, by have := lt_of hf; omega⟩, k3 _ _ hf, KeepB.refl _ _⟩ (fun q δ U h => h.2.2 _ _ nf hl3) (fun q v δ U hv ⟨⟨lf, e3, e6, e7, ed, hlf, lfz, nlf⟩, hU, kU⟩ => ?_) (fun δ U ⟨⟨lf, e3, e6, e7, ed, hlf, lfz, nlf⟩, hU, kU⟩ => ?_)
  · subst ed
    rw [List.getElem?_map] at hv
    obtain ⟨x, hx, rfl⟩ := Option.map_eq_some_iff.mp hv
    have xm := wk.fit_take hx
    obtain ⟨a1, a2, a3⟩ := gd q x hx
    have shx := w.ro.all _ a1
    refine ⟨_, rfl, ?_⟩
    refine vl__law_situations_0 (wt__law_situations_0_0 ?_)
    repeat array_get_dec
    intro D U1 eD lU1 k4 hD
    have nD : lf ≠ D := by have := lt_of hlf; omega
    have shF : ∀ y ∈ fit B C R (W.take q), Sh y.1 := fun y hy => by
      unfold fit at hy
      cases c : (W.take q).getLast? with
      | none =>
        rw [c] at hy
        exact w.ro.sh _ (starts_mem.mp hy).1
      | some u =>
        rw [c] at hy
        have um : u ∈ W := List.mem_of_mem_take (List.mem_of_getLast? c)
        obtain ⟨i, hi, ei⟩ := List.getElem_of_mem um
        have gu := (gd i u (by rw [List.getElem?_eq_getElem hi, ei])).1
        rcases (later_mem.mp hy).2.1 with z | z
        · rw [z]; exact w.ro.all _ gu
        · exact w.ro.all _ (List.mem_append.mpr (.inr (List.mem_flatMap.mpr ⟨_, z, by simp⟩)))
    refine wr_cL (by rw [List.length_map]; omega) (fun r acc V => acc = (((fit B C R (W.take q)).take r).filter fun y => decide (paO y = paO x)).map siV ∧ KeepB D U1 V) ⟨rfl, KeepB.refl _ _⟩ hD (fun r acc V h => h.2 _ _ nD (k4 _ _ hlf)) (fun r v acc V hv ⟨g1, g2⟩ hV => ?_) (fun acc V ⟨g1, g2⟩ hV => ?_)
    · rw [List.getElem?_map] at hv
      obtain ⟨y, hy, rfl⟩ := Option.map_eq_some_iff.mp hv
      have shy := shF y (List.mem_of_getElem? hy)
      refine ⟨_, rfl, ?_⟩
      refine wr_binB (wr_call (wr_cons (wr_sl2 (a := tI' y.1) (b := .bl y.2.1) (c := .int (y.2.2 : Int)) rfl (wr_nil ?_))))
      refine wr_of (repr_pa (q := paO y) shy V) ?_
      refine wr_call (wr_cons (wr_var rfl (wr_nil ?_)))
      refine wr_of (repr_pa (q := paO x) shx V) ?_
      refine wr_of (cEq_str _ _ V) ?_
      have fl : ((fit B C R (W.take q)).take (r + 1)).filter (fun y => decide (paO y = paO x)) = ((fit B C R (W.take q)).take r).filter (fun y => decide (paO y = paO x)) ++ if paO y = paO x then [y] else [] := by
        rw [List.take_succ, hy, List.filter_append]
        congr 1
        by_cases c : paO y = paO x <;> simp [c]
      by_cases c : paO y = paO x
      · rw [c, decide_eq_true rfl]
        refine bif_t (wr_var rfl ⟨hV, fun V2 lV kV hV2 => ⟨?_, fun x o n z => kV _ _ n (g2 _ _ n z)⟩⟩)
        rw [g1, fl, if_pos c, List.map_append]
        rfl
      · rw [decide_eq_false fun z => c (pa_inj shy shx z)]
        refine bif_f ⟨hV, ?_, g2⟩
        rw [g1, fl, if_neg c, List.append_nil]
    · rw [List.length_map, List.take_length] at g1
      have gx : x ∈ (fit B C R (W.take q)).filter fun y => decide (paO y = paO x) := List.mem_filter.mpr ⟨xm, by simp⟩
      have ga : ∀ y ∈ (fit B C R (W.take q)).filter (fun y => decide (paO y = paO x)), y = x := fun y hy => by
        obtain ⟨h1, h2⟩ := List.mem_filter.mp hy
        exact fit_one xm h1 (of_decide_eq_true h2)
      generalize (fit B C R (W.take q)).filter (fun y => decide (paO y = paO x)) = G at g1 gx ga
      obtain ⟨y, G', rfl⟩ := List.exists_cons_of_ne_nil (List.ne_nil_of_mem gx)
      have ey := ga y List.mem_cons_self
      subst ey
      rw [g1] at hV
      have kUV : Keep U V := fun z o h => g2 _ _ (by have := lt_of h; omega) (k4 _ _ h)
      refine wt__law_situations_0_1 ?_
      refine wo_if (wr_binB (wr_var rfl (wr_lst (wr_nil (lstGo (by decide) fun l5 V1 e5 t5 k5 h5 => ?_)))))
      refine wr_eqE (k5 _ _ hV) h5 ?_
      refine bif_cf rfl ?_
      repeat array_get_dec
      refine wt__law_situations_0_2 ?_
      have kUV1 : Keep U V1 := fun z o h => k5 _ _ (kUV _ _ h)
      have hV1 := k5 _ _ hV
      have hU1 := kUV1 _ _ hU
      refine wo_exp (wr_met (wr_var rfl (metGo hU1 (wr_cons (wr_bin (wr_var rfl (wr_lit (wr_ixL hV1 (w := siV y) (atI_nat (j := 0) rfl) (wr_nil ?_)))))))))
      refine wr_app hU1 (by rw [List.length_map, List.length_take]; omega) fun V2 t6 k6 h6 => ?_
      refine wt__law_situations_0_3 ?_
      have Df : D ≠ f := by have := lt_of hU; omega
      have hV2 := k6 _ _ Df hV1
      have kS2 : Keep S V2 := fun z o h => k6 _ _ (by have := lt_of (k1 _ _ h); omega) (kUV1 _ _ (kU _ _ (by have := lt_of (k1 _ _ h); omega) (k13 _ _ h)))
      have w3 := w.keep kS2
      repeat array_get_dec
      refine wr_ixL hV2 (w := siV y) (atI_nat (j := 0) rfl) ?_
      repeat array_get_dec
      refine (later_ok (lc := lc) (lb := lb) (g := y.2.1) shx (w.on _ a1) w3.ri.di (w.ri.ro _ (w.on _ a1)) a3 w.ro.ch w.ro.few w3.hc).use fun v U4 ⟨l4, ev, h4, k8, n4, z4⟩ => ?_
      subst ev
      repeat array_get_dec
      have tk : W.take (q + 1) = W.take q ++ [y] := by rw [List.take_succ, hx]; rfl
      refine ⟨⟨l4, _, _, _, rfl, by rw [tk, fit_snoc]; exact h4, by rw [tk, fit_snoc]; exact z4, by have := lt_of h6; omega⟩, ?_, fun z o nz h => k8 _ _ (k6 _ _ nz (kUV1 _ _ (kU _ _ nz h)))⟩
      rw [k8 _ _ h6, tk, List.map_append]
      rfl
  · subst ed
    rw [List.length_map, List.take_length] at hU
    refine wt__law_situations_3 ?_
    repeat array_get_dec
    exact ⟨f, rfl, hU, fun y o z => kU _ _ (by have := lt_of (k1 _ _ z); omega) (k13 _ _ z), by have := Keep.len k1; omega⟩
end
theorem shs_nd (B : List (List Int)) (C : List (List Int × List Int)) (h : (shs B C).map tI' = sS B C) : (shs B C).Nodup := by
  have n1 : (nub ((B ++ ends C).map tI')).Nodup := List.Pairwise.of_map tk (fun a b h e => h (by rw [e])) (nub_nd _)
  have n2 : (sS B C).Nodup := (vsort_perm _).nodup_iff.mpr n1
  rw [← h] at n2
  exact List.Pairwise.of_map tI' (fun a b h e => h (by rw [e])) n2
theorem sts_mem {n : Nat} {P : List (List Int)} {q : St} : q ∈ sts n P ↔ q.1 ∈ P ∧ q.2 < n := by
  unfold sts
  rw [List.mem_flatMap]
  constructor
  · rintro ⟨s, hs, h⟩
    obtain ⟨k, hk, rfl⟩ := List.mem_map.mp h
    exact ⟨hs, List.mem_range.mp hk⟩
  · rintro ⟨h1, h2⟩
    exact ⟨q.1, h1, List.mem_map.mpr ⟨q.2, List.mem_range.mpr h2, rfl⟩⟩
theorem sts_snoc (n : Nat) (P : List (List Int)) (s : List Int) : sts n (P ++ [s]) = sts n P ++ (List.range n).map fun k => (s, k) := by
  unfold sts
  rw [List.flatMap_append, List.flatMap_cons, List.flatMap_nil, List.append_nil]
theorem sts_len (n : Nat) (P : List (List Int)) : (sts n P).length = n * P.length := by
  induction P with
  | nil => rfl
  | cons s P ih =>
    unfold sts at ih ⊢
    rw [List.flatMap_cons, List.length_append, ih, List.length_map, List.length_range, List.length_cons, Nat.mul_succ, Nat.add_comm]
theorem range_nd (s : List Int) (n : Nat) : ((List.range n).map fun k => (s, k)).Nodup := by
  refine List.Pairwise.map _ (fun a b h e => h (Prod.mk.inj e).2) List.nodup_range
theorem sts_nd {n : Nat} {P : List (List Int)} (nd : P.Nodup) : (sts n P).Nodup := by
  induction P with
  | nil => exact List.nodup_nil
  | cons s P ih =>
    rw [List.nodup_cons] at nd
    show ((List.range n).map (fun k => (s, k)) ++ sts n P).Nodup
    refine List.nodup_append.mpr ⟨range_nd s n, ih nd.2, fun a ha b hb e => ?_⟩
    obtain ⟨k, _, rfl⟩ := List.mem_map.mp ha
    rw [← e] at hb
    exact nd.1 (sts_mem.mp hb).1
abbrev E10 (i j d b : Nat) (d4 d5 d6 d7 d8 d9 : Option Va) : Rz.Env := [some (.loc i), some (.loc j), some (.loc d), some (.loc b), d4, d5, d6, d7, d8, d9]
abbrev bF (C : List (List Int × List Int)) (R : List Int → List Va) : St → List Va := fun q => (bh C R q).map stV
section
variable {U : Sto} {i j d b f n c : Nat} {Q : List St} {C : List (List Int × List Int)} {R : List Int → List Va} {s : List Int} {w : Va} {d6 d7 d8 d9 : Option Va}
theorem turn_b (sh : Sh s) (ro : RowOk n s (R s)) (hw : (R s)[c]? = some w) (hb : SD U b Q (bF C R)) (nq : (s, c) ∉ Q) (lQ : Q.length ≤ 100000) (hf : U[f]? = some (.lst ((aft C s).map tI'))) (lf : (aft C s).length ≤ 1000) :
    ∃ δ1, (ptup 2 (pcons (pname 6) (pcons (ptup 2 (pcons (pname 7) (pcons (pname 8) pnil))) pnil))) (.tup [.int (c : Nat), w]) (E10 i j d b (some (tI' s)) (some (.loc f)) d6 d7 d8 d9) = some δ1 ∧
      wo (l_states_behind_1 δ1 U) (fun δ T => (∃ d6 d7 d8 d9, δ = E10 i j d b (some (tI' s)) (some (.loc f)) d6 d7 d8 d9) ∧ SD T b (Q ++ [(s, c)]) (bF C R) ∧ KeepB b U T) noK := by
  obtain ⟨ps, l, rfl, ck, eg, cn⟩ := row_at ro hw
  have bl := hb.lt
  refine ⟨_, rfl, ?_⟩
  refine wl_states_behind_1 (wo_dsub (wr_ite (wr_isN (wr_var rfl ?_))))
  have fin : ∀ (x : Nat) (T : Sto), Keep U T → T[x]? = some (.lst (bF C R (s, c))) → wr (xvar 3 (E10 i j d b (some (tI' s)) (some (.loc f)) (some (.int (c : Nat))) (some (.tup (ps.map tI'))) (some (lV l)) d9) T) (fun u S2 => wr (xtup (acons (xvar 4) (acons (xvar 6) anil)) (E10 i j d b (some (tI' s)) (some (.loc f)) (some (.int (c : Nat))) (some (.tup (ps.map tI'))) (some (lV l)) d9) S2) (fun j' S3 => wo (oDput u j' (.loc x) (E10 i j d b (some (tI' s)) (some (.loc f)) (some (.int (c : Nat))) (some (.tup (ps.map tI'))) (some (lV l)) d9) S3) (fun δ T => (∃ d6 d7 d8 d9, δ = E10 i j d b (some (tI' s)) (some (.loc f)) d6 d7 d8 d9) ∧ SD T b (Q ++ [(s, c)]) (bF C R) ∧ KeepB b U T) noK) noE) noE := fun x T kT hx => by
    repeat array_get_dec
    refine wo_st (q := (s, c)) (hb.keep kT) nq sh lQ hx fun V lV' kV hV => ?_
    exact ⟨⟨_, _, _, _, rfl⟩, hV, fun y o ny z => kV _ _ ny (kT _ _ z)⟩
  have eb : bh C R (s, c) = bhL C s l := by
    show bhL C s (ltOf ((R s).getD c .non)) = _
    rw [eg, lt_cV]
  cases l with
  | none =>
    refine bif_ct rfl ?_
    repeat array_get_dec
    intro x T ex lT kT hx
    exact fin x T kT (hx.trans (by show _ = some (Ob.lst ((bh C R (s, c)).map stV)); rw [eb]; rfl))
  | some k =>
    refine bif_cf rfl ?_
    repeat array_get_dec
    intro D T eD lT kT hD
    have fD : f ≠ D := by have := lt_of hf; omega
    have hfT := kT _ _ hf
    refine wr_cL (by rw [List.length_map]; omega) (fun q acc V => acc = ((aft C s).take q).map (fun t => stV (t, k)) ∧ KeepB D T V) ⟨rfl, KeepB.refl _ _⟩ hD (fun q acc V h => h.2 _ _ fD hfT) (fun q w acc V hw' ⟨g1, g2⟩ hV => ?_) (fun acc V ⟨g1, g2⟩ hV => ?_)
    · rw [List.getElem?_map] at hw'
      obtain ⟨t, ht, rfl⟩ := Option.map_eq_some_iff.mp hw'
      refine ⟨_, rfl, ?_⟩
      repeat array_get_dec
      refine ⟨hV, fun W lW kW hW => ⟨?_, fun x o n z => kW _ _ n (g2 _ _ n z)⟩⟩
      rw [g1, List.take_succ, ht, List.map_append]
      rfl
    · rw [List.length_map, List.take_length] at g1
      refine fin D V (fun x o z => g2 _ _ (by have := lt_of z; omega) (kT _ _ z)) ?_
      show _ = some (Ob.lst ((bh C R (s, c)).map stV))
      rw [hV, g1, eb]
      show _ = some (Ob.lst (((aft C s).map fun t => (t, k)).map stV))
      rw [List.map_map]
      rfl
end
section
variable {S T0 : Sto} {i j d b f n : Nat} {L B P : List (List Int)} {C : List (List Int × List Int)} {R : List Int → List Va} {s : List Int} {d4 d5 d6 d7 d8 d9 : Option Va}
theorem shape_b {U : Sto} {M : List (List Int)} (ok : RoadOk B C) (hs : s ∈ B ++ ends C) (sP : s ∈ P) (nM : s ∉ M) (lM : M.length ≤ 36) (n64 : n ≤ 64) (di : DInv T0 d P R) (ro : RowOk n s (R s)) (hj : RoadAt T0 j B C) (hb0 : T0[b]? = some (.dct [])) (kU : KeepB b T0 U) (hb : SD U b (sts n M) (bF C R)) :
    wo (l_states_behind_0 (E10 i j d b (some (tI' s)) d5 d6 d7 d8 d9) U) (fun δ T => (∃ d5 d6 d7 d8 d9, δ = E10 i j d b (some (tI' s)) d5 d6 d7 d8 d9) ∧ SD T b (sts n (M ++ [s])) (bF C R) ∧ KeepB b T0 T) noK := by
  have sh := ok.all s hs
  have few := ok.few
  have nb : ∀ {x : Nat} {ws : List Va}, T0[x]? = some (.lst ws) → x ≠ b := fun h e => by rw [e, hb0] at h; cases h
  obtain ⟨a1, a2, a3, r1, r2, r3, r4⟩ := id hj
  have nj : j ≠ b := fun e => by rw [e, hb0] at r1; cases r1
  have hjU : RoadAt U j B C := ⟨a1, a2, a3, kU _ _ nj r1, kU _ _ (nb r2) r2, kU _ _ (nb r3) r3, kU _ _ (nb r4) r4⟩
  refine vl_states_behind_0 (wt_states_behind_0_0 ?_)
  refine wo_set (wr_meth (var_at rfl) (kU _ _ nj r1) ?_)
  repeat array_get_dec
  refine ⟨rfl, ?_⟩
  obtain ⟨f, U1, c1, c2, c3, c4⟩ := road_behind_ok ok hjU hs
  rw [← aft_va] at c2
  refine wr_of c1 ?_
  refine wt_states_behind_0_1 ?_
  obtain ⟨kvs, z1, z2, z3, z4⟩ := di.ex
  obtain ⟨r, _, y2, y3⟩ := z3 s sP
  have nd : d ≠ b := fun e => by rw [e, hb0] at z1; cases z1; rw [List.map_nil] at z2; cases P with | nil => nomatch sP | cons a P => cases z2
  refine wo_for (wr_enum (wr_bin (wr_var rfl (wr_var rfl (wr_dix (k := keyS s) (dct_get (c3 _ _ (kU _ _ nd z1))) (keyT_sh sh) y2 ?_)))))
  have rl := c3 _ _ (kU _ _ (nb y3) y3)
  refine ⟨r, R s, rfl, rl, ?_⟩
  have bU : b < U.length := hb.lt
  have fb : f ≠ b := by omega
  have al := aft_len C s
  have hb1 := hb.keep c3
  refine wo_enm (fun c δ V => (∃ d6 d7 d8 d9, δ = E10 i j d b (some (tI' s)) (some (.loc f)) d6 d7 d8 d9) ∧ SD V b (sts n M ++ (List.range c).map fun k => (s, k)) (bF C R) ∧ KeepB b U1 V) ⟨⟨_, _, _, _, rfl⟩, by rw [List.range_zero, List.map_nil, List.append_nil]; exact hb1, KeepB.refl _ _⟩ (fun c δ V h => h.2.2 _ _ (nb y3) rl) (fun c w δ V hw ⟨⟨e6, e7, e8, e9, ed⟩, hV, kV⟩ => ?_) (fun δ V ⟨⟨e6, e7, e8, e9, ed⟩, hV, kV⟩ => ?_)
  · subst ed
    have cn : c < n := by rw [← ro.1]; exact (List.getElem?_eq_some_iff.mp hw).1
    obtain ⟨δ1, p1, p2⟩ := turn_b (i := i) (j := j) (d := d) (f := f) (d6 := e6) (d7 := e7) (d8 := e8) (d9 := e9) sh ro hw hV (fun h => by
      rcases List.mem_append.mp h with z | z
      · exact nM (sts_mem.mp z).1
      · obtain ⟨k, hk, e⟩ := List.mem_map.mp z
        have := List.mem_range.mp hk
        cases e
        omega) (by
      rw [List.length_append, sts_len, List.length_map, List.length_range]
      have : n * M.length ≤ 64 * 36 := Nat.mul_le_mul n64 lM
      omega) (kV _ _ fb c2) (by omega)
    refine ⟨δ1, p1, wo.use p2 fun δ T ⟨e, h, k⟩ => ⟨e, ?_, kV.trans k⟩⟩
    rw [List.range_succ, List.map_append, ← List.append_assoc]
    exact h
  · subst ed
    rw [ro.1, ← sts_snoc] at hV
    exact ⟨⟨_, _, _, _, _, rfl⟩, hV, fun x o n z => kV _ _ n (c3 _ _ (kU _ _ n z))⟩
end
section
variable {S : Sto} {i j n : Nat} {L B : List (List Int)} {C : List (List Int × List Int)} {R : List Int → List Va}
theorem behind_ok (sh : ∀ s ∈ L, Sh s) (nd : L.Nodup) (n64 : n ≤ 64) (ro : ∀ s ∈ L, RowOk n s (R s)) (hi : RuleAt S i L n R) (ok : RoadOk B C) (hj : RoadAt S j B C) (on : ∀ s ∈ B ++ ends C, s ∈ L) :
    wr (m_states_behind [.loc i, .loc j] S) (fun v T => ∃ b, v = .loc b ∧ SD T b (sts n (shs B C)) (bF C R) ∧ S.length ≤ b ∧ Keep S T) noE := by
  obtain ⟨D, _, a1, _⟩ := hi.ex
  refine v_states_behind (wt_states_behind_0 ?_)
  repeat array_get_dec
  obtain ⟨d, U, P, c1, c2, c3, c4, c5, _, c6⟩ := calls_ok sh nd n64 ro hi
  refine wr_of c1 ?_
  refine wt_states_behind_1 ?_
  refine wo_set (wr_dict0 fun b T0 eb tb kb hb => ?_)
  refine wt_states_behind_2 ?_
  have hjT := (hj.keep c6).keep kb
  obtain ⟨x1, x2, x3, x4, _⟩ := id hjT
  refine wo_for (wr_isq ?_)
  repeat array_get_dec
  refine wr_of (road_shapes_ok ok hjT) ?_
  generalize eT2 : T0 ++ [Ob.lst (sS B C)] = T2
  obtain ⟨k2, h2, l2⟩ := new2 eT2
  obtain ⟨y1, y2, y3⟩ := shs_ok ok
  have ndS := shs_nd B C y1
  rw [← y1] at h2
  refine isqL h2 ?_
  have nT : T0.length ≠ b := by have := lt_of hb; omega
  have hb2 := k2 _ _ hb
  refine wo_loc (fun q δ V => (∃ d4 d5 d6 d7 d8 d9, δ = E10 i j d b d4 d5 d6 d7 d8 d9) ∧ SD V b (sts n ((shs B C).take q)) (bF C R) ∧ KeepB b T2 V) ⟨⟨_, _, _, _, _, _, rfl⟩, .nil hb2, KeepB.refl _ _⟩ (fun q δ V h => h.2.2 _ _ nT h2) (fun q w δ V hw ⟨⟨e4, e5, e6, e7, e8, e9, ed⟩, hV, kV⟩ => ?_) (fun δ V ⟨⟨e4, e5, e6, e7, e8, e9, ed⟩, hV, kV⟩ => ?_)
  · subst ed
    rw [List.getElem?_map] at hw
    obtain ⟨s, hs, rfl⟩ := Option.map_eq_some_iff.mp hw
    obtain ⟨sm, nt, tk⟩ := take_new ndS hs
    have so := (y3 s).mp sm
    have sL := on s so
    refine ⟨_, rfl, ?_⟩
    refine wo.use (shape_b (P := P) (T0 := T2) ok so (c2.mem_iff.mpr sL) nt (by rw [List.length_take]; omega) n64 ((c4.di.keep kb).keep k2) (ro s sL) (hjT.keep k2) hb2 kV hV) fun δ V' ⟨⟨e5, e6, e7, e8, e9, ed⟩, h, k⟩ => ?_
    exact ⟨⟨_, _, _, _, _, _, ed⟩, by rw [tk]; exact h, k⟩
  · subst ed
    rw [List.length_map, List.take_length] at hV
    refine wt_states_behind_3 ?_
    repeat array_get_dec
    have := Keep.len c6
    exact ⟨b, rfl, hV, by omega, fun x o z => kV _ _ (by have := lt_of z; omega) (k2 _ _ (kb _ _ (c6 _ _ z)))⟩
end
structure KeyF {α : Type} (kv : α → Va) (nk : α → NestedKey) (ok : α → Prop) : Prop where
  nkv : ∀ a, nkV (kv a) = some (nk a)
  inj : ∀ {a b}, nk a = nk b → a = b
  dep : ∀ a, ok a → (nk a).depth ≤ 8
  tp : ∀ a, ∃ ws, kv a = .tup ws
section
variable {α : Type} [DecidableEq α] {kv : α → Va} {nk : α → NestedKey} {ok : α → Prop} {S : Sto} {d : Nat} {q : α} {w : Va} {T : List (α × Va)}
theorem KeyF.key (K : KeyF kv nk ok) (h : ok q) : keyT (kv q) = some (nk q) := by
  obtain ⟨ws, e⟩ := K.tp q
  have k := K.nkv q
  rw [e] at k ⊢
  show (match nkV (.tup ws) with | some k => if k.depth ≤ 8 then some k else none | none => none) = _
  rw [k]
  exact if_pos (K.dep q h)
def gD (kv : α → Va) (T : List (α × Va)) : List (Va × Va) := T.map fun e => (kv e.1, e.2)
theorem gD_len (kv : α → Va) (T : List (α × Va)) : (gD kv T).length = T.length := List.length_map _
theorem valD_gD (K : KeyF kv nk ok) : ∀ (T : List (α × Va)) (q : α), valD (gD kv T) (nk q) = (T.find? fun e => decide (e.1 = q)).map Prod.snd
  | [], _ => rfl
  | e :: T, q => by
    have ih := valD_gD K T q
    unfold valD gD at ih ⊢
    rw [List.map_cons, List.find?_cons, List.find?_cons]
    show (match decide (nkV (kv e.1) = some (nk q)) with | true => some (kv e.1, e.2) | false => (T.map fun e : α × Va => (kv e.1, e.2)).find? fun p => decide (nkV p.1 = some (nk q))).map (fun p : Va × Va => p.2) = _
    rw [K.nkv]
    by_cases c : e.1 = q
    · rw [decide_eq_true c, decide_eq_true (by rw [c])]
      rfl
    · rw [decide_eq_false c, decide_eq_false fun z => c (K.inj (Option.some.inj z))]
      exact ih
theorem gfind_some (nd : (T.map Prod.fst).Nodup) (h : (q, w) ∈ T) : (T.find? fun e => decide (e.1 = q)) = some (q, w) := by
  induction T with
  | nil => nomatch h
  | cons a T ih =>
    rw [List.map_cons, List.nodup_cons] at nd
    rw [List.find?_cons]
    rcases List.mem_cons.mp h with z | z
    · rw [← z, decide_eq_true rfl]
    · rw [decide_eq_false fun y : a.1 = q => nd.1 (by rw [y]; exact List.mem_map.mpr ⟨_, z, rfl⟩)]
      exact ih nd.2 z
theorem gfind_none (h : q ∉ T.map Prod.fst) : (T.find? fun e => decide (e.1 = q)) = none := by
  rw [List.find?_eq_none]
  intro e he z
  exact h (List.mem_map.mpr ⟨e, he, of_decide_eq_true z⟩)
theorem gfind_isSome (T : List (α × Va)) (q : α) : ((T.find? fun e => decide (e.1 = q)).map Prod.snd).isSome = decide (q ∈ T.map Prod.fst) := by
  by_cases c : q ∈ T.map Prod.fst
  · rw [decide_eq_true c]
    obtain ⟨e, he, rfl⟩ := List.mem_map.mp c
    cases z : T.find? fun x => decide (x.1 = e.1) with
    | none => rw [List.find?_eq_none] at z; exact absurd (decide_eq_true rfl) (z e he)
    | some x => rfl
  · rw [decide_eq_false c, gfind_none c]
    rfl
theorem gin_mem (K : KeyF kv nk ok) (T : List (α × Va)) (q : α) : (valD (gD kv T) (nk q)).isSome = true ↔ q ∈ T.map Prod.fst := by
  rw [valD_gD K, gfind_isSome]
  exact decide_eq_true_iff
theorem wr_gin {QB : Bool → Sto → Prop} {E : Xp} {t : Bool} (K : KeyF kv nk ok) (hq : ok q) (h1 : dctAt (.loc d) S = some (gD kv T)) (ht : t = true ↔ q ∈ T.map Prod.fst) (h : QB t S) : wr (cDin (kv q) (.loc d) S) QB E := by
  refine wr_of (a := t) ?_ h
  unfold cDin
  rw [h1, K.key hq]
  dsimp only
  rw [Bool.eq_iff_iff.mpr ((gin_mem K T q).trans ht.symm)]
theorem wr_gnin {QB : Bool → Sto → Prop} {E : Xp} {t : Bool} (K : KeyF kv nk ok) (hq : ok q) (h1 : dctAt (.loc d) S = some (gD kv T)) (ht : t = true ↔ q ∉ T.map Prod.fst) (h : QB t S) : wr (cDnin (kv q) (.loc d) S) QB E := by
  refine wr_of (a := t) ?_ h
  unfold cDnin
  rw [h1, K.key hq]
  dsimp only
  have e : (!(valD (gD kv T) (nk q)).isSome) = t := by
    rw [Bool.eq_iff_iff, ht, ← gin_mem K T q]
    simp
  rw [e]
theorem wr_gix {QV : Va → Sto → Prop} {E : Xp} (K : KeyF kv nk ok) (hq : ok q) (h1 : dctAt (.loc d) S = some (gD kv T)) (nd : (T.map Prod.fst).Nodup) (hw : (q, w) ∈ T) (h : QV w S) : wr (oDix (.loc d) (kv q) S) QV E :=
  wr_dix (k := nk q) h1 (K.key hq) (by rw [valD_gD K, gfind_some nd hw]; rfl) h
theorem gst_new (K : KeyF kv nk ok) (hn : q ∉ T.map Prod.fst) : stD (gD kv T) (kv q) (nk q) w = gD kv (T ++ [(q, w)]) := by
  unfold stD
  rw [valD_gD K, gfind_none hn]
  unfold gD
  rw [List.map_append]
  rfl
theorem wo_gput {δ : Rz.Env} {N : Rz.Env → Sto → Prop} {Ke : Ke} (K : KeyF kv nk ok) (hq : ok q) (h1 : S[d]? = some (.dct (gD kv T))) (hn : q ∉ T.map Prod.fst) (hz : T.length < 16777216) (h : ∀ U, U.length = S.length → KeepB d S U → U[d]? = some (.dct (gD kv (T ++ [(q, w)]))) → N δ U) : wo (oDput (.loc d) (kv q) w δ S) N Ke :=
  wo_dput h1 (K.key hq) (K.dep q hq) (by rw [gD_len]; exact hz) fun U lU kU hU => h U lU kU (by rw [hU, gst_new K hn])
end
theorem stF : KeyF stV stK (fun q => Sh q.1) := ⟨nk_st, stK_inj, fun _ h => stK_depth h, fun _ => ⟨_, rfl⟩⟩
abbrev Pe := St × List St
def ext1 (path : List St) : List St → List Pe → List Pe
  | [], Q => Q
  | t :: ts, Q => ext1 path ts (if t ∈ Q.map Prod.fst then Q else Q ++ [(t, path ++ [t])])
inductive PR (f : St → List St) (gl : St → Bool) (b : List St) : Nat → List Pe → Prop
  | start : PR f gl b 0 (b.map fun q => (q, [q]))
  | step {i : Nat} {Q : List Pe} {q : St} {path : List St} : PR f gl b i Q → Q[i]? = some (q, path) → gl q = false → PR f gl b (i + 1) (ext1 path (f q) Q)
def PE' (gl : St → Bool) (i : Nat) (Q : List Pe) (r : Option (List St)) : Prop := (Q[i]? = none ∧ r = none) ∨ ∃ q path, Q[i]? = some (q, path) ∧ gl q = true ∧ r = some path
def PRes (f : St → List St) (gl : St → Bool) (b : List St) (r : Option (List St)) : Prop := ∃ i Q, PR f gl b i Q ∧ PE' gl i Q r
section
variable {f : St → List St} {gl : St → Bool} {b : List St}
theorem PR.det {i : Nat} {Q : List Pe} (h : PR f gl b i Q) : ∀ {Q' : List Pe}, PR f gl b i Q' → Q = Q' := by
  induction h with
  | start => intro Q' h'; cases h'; rfl
  | step h1 h2 h3 ih =>
    intro Q' h'
    cases h' with
    | step g1 g2 g3 =>
      cases ih g1
      rw [h2] at g2
      cases g2
      rfl
theorem PR.le {j : Nat} {Q : List Pe} (h : PR f gl b j Q) : ∀ {i : Nat}, i ≤ j → ∃ Q', PR f gl b i Q' ∧ (i < j → ∃ q path, Q'[i]? = some (q, path) ∧ gl q = false) := by
  induction h with
  | start => intro i hi; obtain rfl : i = 0 := (by omega); exact ⟨_, .start, fun z => absurd z (by omega)⟩
  | @step j Q q path h1 h2 h3 ih =>
    intro i hi
    by_cases c : i = j + 1
    · subst c; exact ⟨_, .step h1 h2 h3, fun z => absurd z (by omega)⟩
    · by_cases c2 : i = j
      · subst c2; exact ⟨_, h1, fun _ => ⟨_, _, h2, h3⟩⟩
      · obtain ⟨Q2, g1, g2⟩ := ih (i := i) (by omega)
        exact ⟨Q2, g1, fun _ => g2 (by omega)⟩
theorem PRes.det {r r' : Option (List St)} (h : PRes f gl b r) (h' : PRes f gl b r') : r = r' := by
  obtain ⟨i, Q, g1, g2⟩ := h
  obtain ⟨i', Q', g1', g2'⟩ := h'
  have no : ∀ {i j : Nat} {Q Q' : List Pe} {r : Option (List St)}, PR f gl b i Q → PR f gl b j Q' → i < j → PE' gl i Q r → False := fun {i j Q Q' r} a1 a2 lt a3 => by
    obtain ⟨Q2, b1, b2⟩ := a2.le (i := i) (by omega)
    cases a1.det b1
    obtain ⟨q, path, c1, c2⟩ := b2 lt
    rcases a3 with ⟨z, _⟩ | ⟨q', row', z, z2, _⟩
    · rw [c1] at z; cases z
    · rw [c1] at z
      cases z
      rw [c2] at z2
      cases z2
  rcases Nat.lt_trichotomy i i' with c | c | c
  · exact (no g1 g1' c g2).elim
  · subst c
    cases g1.det g1'
    rcases g2 with ⟨z1, z2⟩ | ⟨q, row, z1, z2, z3⟩
    · rcases g2' with ⟨y1, y2⟩ | ⟨q', row', y1, y2, y3⟩
      · rw [z2, y2]
      · rw [z1] at y1; cases y1
    · rcases g2' with ⟨y1, y2⟩ | ⟨q', row', y1, y2, y3⟩
      · rw [z1] at y1; cases y1
      · rw [z1] at y1
        cases y1
        rw [z3, y3]
  · exact (no g1' g1 c g2').elim
theorem ext1_inv {G : St → Prop} {path : List St} : ∀ (ts : List St) (Q : List Pe), (∀ t ∈ ts, G t) → (∀ e ∈ Q, G e.1) → (Q.map Prod.fst).Nodup → (∀ e ∈ ext1 path ts Q, G e.1) ∧ ((ext1 path ts Q).map Prod.fst).Nodup ∧ ∃ D, ext1 path ts Q = Q ++ D ∧ ∀ e ∈ D, e.2 = path ++ [e.1]
  | [], Q, _, h2, h3 => ⟨h2, h3, [], by rw [List.append_nil]; rfl, fun e he => nomatch he⟩
  | t :: ts, Q, h1, h2, h3 => by
    unfold ext1
    by_cases m : t ∈ Q.map Prod.fst
    · rw [if_pos m]
      exact ext1_inv ts Q (fun s hs => h1 s (List.mem_cons_of_mem _ hs)) h2 h3
    · rw [if_neg m]
      obtain ⟨a1, a2, D, a3, a4⟩ := ext1_inv ts (Q ++ [(t, path ++ [t])]) (fun s hs => h1 s (List.mem_cons_of_mem _ hs)) (fun x hx => by
        rcases List.mem_append.mp hx with z | z
        · exact h2 x z
        · rw [List.mem_singleton.mp z]; exact h1 t List.mem_cons_self) (by
        rw [List.map_append, List.nodup_append]
        exact ⟨h3, by simp, fun x hx y hy e => m (by simp at hy; rw [← hy, ← e]; exact hx)⟩)
      refine ⟨a1, a2, (t, path ++ [t]) :: D, by rw [a3, List.append_assoc]; rfl, fun e he => ?_⟩
      rcases List.mem_cons.mp he with z | z
      · rw [z]
      · exact a4 e z
theorem PR.inv {G : St → Prop} (ndb : b.Nodup) (h0 : ∀ q ∈ b, G q) (hG : ∀ q, G q → ∀ t ∈ f q, G t) {i : Nat} {Q : List Pe} (h : PR f gl b i Q) : (∀ e ∈ Q, G e.1) ∧ (Q.map Prod.fst).Nodup ∧ i ≤ Q.length := by
  induction h with
  | start =>
    refine ⟨fun e he => ?_, ?_, Nat.zero_le _⟩
    · obtain ⟨q, hq, rfl⟩ := List.mem_map.mp he
      exact h0 q hq
    · rw [List.map_map]
      show (b.map fun q => q).Nodup
      rw [List.map_id']
      exact ndb
  | @step i Q q path h1 h2 h3 ih =>
    obtain ⟨a1, a2, a3⟩ := ih
    obtain ⟨b1, b2, D, b3, _⟩ := ext1_inv (path := path) (f q) Q (hG q (a1 _ (List.mem_of_getElem? h2))) a1 a2
    have := (List.getElem?_eq_some_iff.mp h2).1
    exact ⟨b1, b2, by rw [b3, List.length_append]; omega⟩
def go (f : St → List St) (gl : St → Bool) : Nat → Nat → List Pe → Option (Option (List St))
  | 0, _, _ => none
  | n + 1, i, Q => match Q[i]? with
    | none => some none
    | some (q, path) => if gl q then some (some path) else go f gl n (i + 1) (ext1 path (f q) Q)
theorem go_res : ∀ (n i : Nat) (Q : List Pe) (r : Option (List St)), PR f gl b i Q → go f gl n i Q = some r → PRes f gl b r
  | 0, _, _, _, _, h => nomatch h
  | n + 1, i, Q, r, p, h => by
    unfold go at h
    cases c : Q[i]? with
    | none =>
      rw [c] at h
      exact ⟨i, Q, p, .inl ⟨c, (Option.some.inj h).symm⟩⟩
    | some e =>
      obtain ⟨q, path⟩ := e
      rw [c] at h
      dsimp only at h
      cases g : gl q with
      | true =>
        rw [g] at h
        exact ⟨i, Q, p, .inr ⟨q, path, c, g, (Option.some.inj h).symm⟩⟩
      | false =>
        rw [g] at h
        exact go_res n (i + 1) _ r (.step p c g) h
end
def parV : Option St → Va
  | none => .non
  | some q => stV q
abbrev Te := St × Option St
def caV (T : List Te) : List (Va × Va) := gD stV (T.map fun e => (e.1, parV e.2))
theorem ca_fst (T : List Te) : (T.map fun e => (e.1, parV e.2)).map Prod.fst = T.map Prod.fst := by rw [List.map_map]; rfl
structure Lk (T : List Te) (Q : List Pe) : Prop where
  fs : T.map Prod.fst = Q.map Prod.fst
  pr : ∀ (k : Nat) (q : St), T[k]? = some (q, none) → Q[k]? = some (q, [q])
  ps : ∀ (k : Nat) (q q' : St), T[k]? = some (q, some q') → ∃ j path, j < k ∧ Q[j]? = some (q', path) ∧ Q[k]? = some (q, path ++ [q])
theorem Lk.len {T : List Te} {Q : List Pe} (h : Lk T Q) : T.length = Q.length := by
  have := congrArg List.length h.fs
  rwa [List.length_map, List.length_map] at this
theorem Lk.start (b : List St) : Lk (b.map fun q => (q, none)) (b.map fun q => (q, [q])) := by
  refine ⟨by rw [List.map_map, List.map_map]; rfl, fun k q h => ?_, fun k q q' h => ?_⟩
  · rw [List.getElem?_map] at h ⊢
    obtain ⟨a, ha, e⟩ := Option.map_eq_some_iff.mp h
    cases e
    rw [ha]
    rfl
  · rw [List.getElem?_map] at h
    obtain ⟨a, ha, e⟩ := Option.map_eq_some_iff.mp h
    cases e
theorem Lk.add {T : List Te} {Q : List Pe} (h : Lk T Q) {j : Nat} {q t : St} {path : List St} (hj : Q[j]? = some (q, path)) : Lk (T ++ [(t, some q)]) (Q ++ [(t, path ++ [t])]) := by
  have hl := h.len
  have jl := (List.getElem?_eq_some_iff.mp hj).1
  have low : ∀ {k : Nat} {e : Te}, (T ++ [(t, some q)])[k]? = some e → (k < T.length ∧ T[k]? = some e) ∨ (k = T.length ∧ e = (t, some q)) := fun {k e} z => by
    rcases Nat.lt_trichotomy k T.length with c | c | c
    · rw [List.getElem?_append_left c] at z; exact .inl ⟨c, z⟩
    · subst c
      rw [List.getElem?_append_right (Nat.le_refl _), Nat.sub_self] at z
      cases z
      exact .inr ⟨rfl, rfl⟩
    · rw [List.getElem?_eq_none (by rw [List.length_append]; simp; omega)] at z; cases z
  refine ⟨by rw [List.map_append, List.map_append, h.fs]; rfl, fun k q0 z => ?_, fun k q0 q' z => ?_⟩
  · rcases low z with ⟨c, z⟩ | ⟨_, z⟩
    · have := h.pr k q0 z
      rw [List.getElem?_append_left (by omega)]
      exact this
    · cases z
  · rcases low z with ⟨c, z⟩ | ⟨c, z⟩
    · obtain ⟨j', r', e1, e2, e3⟩ := h.ps k q0 q' z
      exact ⟨j', r', e1, by rw [List.getElem?_append_left (by omega)]; exact e2, by rw [List.getElem?_append_left (by omega)]; exact e3⟩
    · cases z
      refine ⟨j, path, by omega, by rw [List.getElem?_append_left jl]; exact hj, ?_⟩
      rw [c, hl, List.getElem?_append_right (Nat.le_refl _), Nat.sub_self]
      rfl
theorem ixN_neg {n : Nat} (h : 0 < n) : ixN n (-1) = some (n - 1) := by
  unfold ixN
  first | (simp; omega) | (rw [if_neg (by omega), if_pos (by omega)]; congr 1; omega)
theorem atI_last {ws : List Va} {v : Va} (h : 0 < ws.length) (e : ws[ws.length - 1]? = some v) : atI ws (-1) = some v := by
  unfold atI
  rw [ixN_neg h]
  exact e
def K2 (a b : Nat) (S T : Sto) : Prop := ∀ (j : Nat) (o : Ob), j ≠ a → j ≠ b → S[j]? = some o → T[j]? = some o
theorem K2.refl {a b : Nat} {S : Sto} : K2 a b S S := fun _ _ _ _ h => h
theorem K2.trans {a b : Nat} {S T U : Sto} (h : K2 a b S T) (k : K2 a b T U) : K2 a b S U := fun j o n1 n2 z => k j o n1 n2 (h j o n1 n2 z)
def WayV (n : Nat) (T : Sto) (v : Va) : Option (List St) → Prop
  | none => v = .non
  | some path => ∃ l, v = .loc l ∧ n ≤ l ∧ T[l]? = some (.lst (path.map stV))
section
variable {S : Sto} {ca m : Nat} {T : List Te} {Q : List Pe} {q : St} {path : List St}
theorem wr_ca {QV : Va → Sto → Prop} {E : Xp} {w : Option St} (hc : S[ca]? = some (.dct (caV T))) (nd : (T.map Prod.fst).Nodup) (hq : (q, w) ∈ T) (sh : Sh q.1) (h : QV (parV w) S) : wr (oDix (.loc ca) (stV q) S) QV E :=
  wr_gix stF sh (dct_get hc) (by rw [ca_fst]; exact nd) (List.mem_map.mpr ⟨_, hq, rfl⟩) h
theorem way_ok (hc : S[ca]? = some (.dct (caV T))) (lk : Lk T Q) (nd : (Q.map Prod.fst).Nodup) (sh : ∀ e ∈ Q, Sh e.1.1) (hm : Q[m]? = some (q, path)) (mz : m < 100000) :
    wr (m__way_to [stV q, .loc ca] S) (fun v U => ∃ l, v = .loc l ∧ S.length ≤ l ∧ U[l]? = some (.lst (path.map stV)) ∧ Keep S U) noE := by
  have ndT : (T.map Prod.fst).Nodup := by rw [lk.fs]; exact nd
  refine v__way_to (wt__way_to_0 ?_)
  repeat array_get_dec
  intro w S1 ew lw kw hw
  have cw : ca ≠ w := by have := lt_of hc; omega
  refine wt__way_to_1 ?_
  refine wo_while (fun m' δ V => ∃ (q' : St) (pq ac : List St), δ = [some (stV q), some (.loc ca), some (.loc w)] ∧ Q[m']? = some (q', pq) ∧ pq ++ ac.reverse = path ∧ V[w]? = some (.lst ((ac ++ [q']).map stV)) ∧ KeepB w S1 V ∧ ac.length + m' ≤ m) m (by omega) ⟨q, path, [], rfl, hm, by simp, hw, KeepB.refl _ _, by simp⟩ ?_
  rintro m' δ V ⟨q', pq, ac, ed, hm', ep, hV, kV, la⟩
  subst ed
  have hcV : V[ca]? = some (.dct (caV T)) := kV _ _ cw (kw _ _ hc)
  obtain ⟨par, hT⟩ : ∃ par, T[m']? = some (q', par) := by
    have := congrArg (fun l => l[m']?) lk.fs
    simp only [List.getElem?_map] at this
    rw [hm'] at this
    obtain ⟨e, he, e2⟩ := Option.map_eq_some_iff.mp this
    exact ⟨e.2, by rw [he]; congr 1; exact Prod.ext e2 rfl⟩
  have hmem : (q', par) ∈ T := List.mem_of_getElem? hT
  have sq : Sh q'.1 := sh _ (List.mem_of_getElem? hm')
  have last : atI ((ac ++ [q']).map stV) (-1) = some (stV q') := atI_last (by simp) (by rw [List.length_map, List.length_append, List.getElem?_map]; simp)
  have m'l := (List.getElem?_eq_some_iff.mp hm').1
  refine wr_not (wr_isN (wr_bin (wr_var rfl (wr_bin (wr_var rfl (wr_un (wr_lit (wr_neg ?_))))))))
  refine wr_ixL hV last ?_
  refine wr_ca hcV ndT hmem sq ?_
  cases par with
  | none =>
    have e0 := lk.pr m' q' hT
    rw [hm'] at e0
    have epq : pq = [q'] := (Prod.mk.inj (Option.some.inj e0)).2
    refine bif_cf rfl ?_
    refine wt__way_to_2 ?_
    refine wo_ret (wr_un (wr_var rfl ?_))
    refine wr_rev hV (by rw [List.length_map, List.length_append]; simp; omega) fun l W el lW kW hW => ?_
    rw [← List.map_reverse] at hW
    have er : (ac ++ [q']).reverse = path := by rw [← ep, epq, List.reverse_append]; rfl
    rw [er] at hW
    have k0 : Keep S W := fun x o z => kW _ _ (kV _ _ (by have := lt_of z; omega) (kw _ _ z))
    have l3 := kbLen kV (lt_of hV)
    exact ⟨l, rfl, by have := Keep.len kw; omega, hW, k0⟩
  | some p =>
    obtain ⟨j, pj, jl, h1, h2⟩ := lk.ps m' q' p hT
    rw [hm'] at h2
    have epq : pq = pj ++ [q'] := (Prod.mk.inj (Option.some.inj h2)).2
    refine bif_ct rfl ?_
    refine vl__way_to_0 ?_
    refine wo_exp (wr_met (wr_var rfl (metGo hV (wr_cons (wr_bin (wr_var rfl (wr_bin (wr_var rfl (wr_un (wr_lit (wr_neg ?_)))))))))))
    refine wr_ixL hV last ?_
    refine wr_ca hcV ndT hmem sq ?_
    refine wr_nil ?_
    refine wr_app hV (by rw [List.length_map, List.length_append]; simp; omega) fun W lW kW hW => ?_
    refine ⟨j, jl, p, pj, ac ++ [q'], rfl, h1, ?_, ?_, fun x o n z => kW _ _ n (kV _ _ n z), by rw [List.length_append]; simp; omega⟩
    · rw [← ep, epq, List.reverse_append, List.append_assoc]
      rfl
    · refine hW.trans ?_
      rw [show (ac ++ [q'] ++ [p]).map stV = (ac ++ [q']).map stV ++ [stV p] from List.map_append]
      rfl
end
theorem ext1_snoc (path : List St) : ∀ (ts : List St) (t : St) (Q : List Pe), ext1 path (ts ++ [t]) Q = if t ∈ (ext1 path ts Q).map Prod.fst then ext1 path ts Q else ext1 path ts Q ++ [(t, path ++ [t])]
  | [], t, Q => rfl
  | s :: ts, t, Q => ext1_snoc path ts t _
abbrev W8 (lb d dg : Nat) (d3 d4 d5 d6 d7 : Option Va) : Rz.Env := [some (.loc lb), some (.loc d), some (.loc dg), d3, d4, d5, d6, d7]
abbrev meV (Q : List Pe) : List Va := Q.map fun e => stV e.1
section
variable {S U : Sto} {lb d dg ca me i r : Nat} {b Z G : List St} {f : St → List St} {T : List Te} {Q : List Pe} {q : St} {path : List St} {ii : Int} {d7 : Option Va}
theorem ext_turn (shf : ∀ t ∈ f q, Sh t.1) (lf : (f q).length ≤ 100000) (hr : U[r]? = some (.lst ((f q).map stV))) (rc : r ≠ ca) (rm : r ≠ me) (cm : ca ≠ me) (lk : Lk T Q) (hQ : Q[i]? = some (q, path)) (ndQ : (Q.map Prod.fst).Nodup) (hc : U[ca]? = some (.dct (caV T))) (hm : U[me]? = some (.lst (meV Q))) (small : ∀ k, (ext1 path ((f q).take k) Q).length ≤ 100000) {N : Rz.Env → Sto → Prop} {K : Ke}
    (k : ∀ V T' e7, K2 ca me U V → Lk T' (ext1 path (f q) Q) → V[ca]? = some (.dct (caV T')) → V[me]? = some (.lst (meV (ext1 path (f q) Q))) → N (W8 lb d dg (some (.loc ca)) (some (.loc me)) (some (.int ii)) (some (stV q)) e7) V) :
    wo (forG (nloc r) (pname 7) l_first_way_1 (((f q).map stV).length + 1) 0 (W8 lb d dg (some (.loc ca)) (some (.loc me)) (some (.int ii)) (some (stV q)) d7) U) N K := by
  refine wo_loc (fun k δ V => ∃ (T' : List Te) (e7 : Option Va), δ = W8 lb d dg (some (.loc ca)) (some (.loc me)) (some (.int ii)) (some (stV q)) e7 ∧ K2 ca me U V ∧ Lk T' (ext1 path ((f q).take k) Q) ∧ V[ca]? = some (.dct (caV T')) ∧ V[me]? = some (.lst (meV (ext1 path ((f q).take k) Q)))) ⟨T, d7, rfl, .refl, lk, hc, hm⟩ (fun k δ V ⟨T', e7, ed, kV, _⟩ => kV _ _ rc rm hr) (fun k w δ V hw ⟨T', e7, ed, kV, lk', hc', hm'⟩ => ?_) (fun δ V ⟨T', e7, ed, kV, lk', hc', hm'⟩ => ?_)
  · subst ed
    rw [List.getElem?_map] at hw
    obtain ⟨t, ht, rfl⟩ := Option.map_eq_some_iff.mp hw
    have tk : (f q).take (k + 1) = (f q).take k ++ [t] := by rw [List.take_succ, ht]; rfl
    have tm : t ∈ f q := List.mem_of_getElem? ht
    have fs' := lk'.fs
    obtain ⟨_, nd', D, eD, _⟩ := ext1_inv (G := fun _ => True) (path := path) ((f q).take k) Q (fun _ _ => trivial) (fun _ _ => trivial) ndQ
    have hj : (ext1 path ((f q).take k) Q)[i]? = some (q, path) := by rw [eD, List.getElem?_append_left (List.getElem?_eq_some_iff.mp hQ).1]; exact hQ
    refine ⟨_, rfl, vl_first_way_1 (wo_if (wr_binB (wr_var rfl (wr_var rfl ?_))))⟩
    have fe : ((T'.map fun e => (e.1, parV e.2)).map Prod.fst) = (ext1 path ((f q).take k) Q).map Prod.fst := by rw [ca_fst, fs']
    by_cases c : t ∈ (ext1 path ((f q).take k) Q).map Prod.fst
    · refine wr_gnin (t := false) stF (shf t tm) (dct_get hc') (by rw [fe]; simp [c]) (bif_f (wo_nx ?_))
      exact ⟨T', _, rfl, kV, by rw [tk, ext1_snoc, if_pos c]; exact lk', hc', by rw [tk, ext1_snoc, if_pos c]; exact hm'⟩
    · refine wr_gnin (t := true) stF (shf t tm) (dct_get hc') (by rw [fe]; simp [c]) (bif_t (wo_seq (wo_dsub ?_)))
      repeat array_get_dec
      refine wo_gput (w := stV q) stF (shf t tm) hc' (by rw [ca_fst, fs']; exact c) (by rw [List.length_map, lk'.len]; have := small k; omega) fun V2 l2 k2 h2 => ?_
      have hm2 := k2 _ _ (Ne.symm cm) hm'
      repeat array_get_dec
      refine wr_app hm2 (by rw [List.length_map]; have := small k; omega) fun V3 l3 k3 h3 => ?_
      refine ⟨T' ++ [(t, some q)], _, rfl, fun x o n1 n2 z => k3 _ _ n2 (k2 _ _ n1 (kV _ _ n1 n2 z)), by rw [tk, ext1_snoc, if_neg c]; exact lk'.add hj, ?_, ?_⟩
      · rw [k3 _ _ cm h2]
        unfold caV
        rw [List.map_append]
        rfl
      · rw [tk, ext1_snoc, if_neg c, h3]
        unfold meV
        rw [List.map_append]
        rfl
  · subst ed
    rw [List.length_map, List.take_length] at lk' hm'
    exact k V T' e7 kV lk' hc' hm'
end
section
variable {S : Sto} {lb d dg : Nat} {b Z G : List St} {f : St → List St}
theorem first_way_ok (hb : S[lb]? = some (.lst (b.map stV))) (hd : SD S d Z (fun q => (f q).map stV)) (hg : S[dg]? = some (.dct (gD stV (G.map fun q => (q, Va.bl true))))) (ndZ : Z.Nodup) (shZ : ∀ q ∈ Z, Sh q.1) (bZ : ∀ q ∈ b, q ∈ Z) (fZ : ∀ q ∈ Z, ∀ t ∈ f q, t ∈ Z) (ndb : b.Nodup) (lZ : Z.length ≤ 10000) (lf : ∀ q ∈ Z, (f q).length ≤ 1000) :
    wr (m_first_way [.loc lb, .loc d, .loc dg] S) (fun v V => ∃ r, PRes f (fun q => decide (q ∈ G)) b r ∧ WayV S.length V v r ∧ Keep S V) noE := by
  have lb' : b.length ≤ Z.length := nd_len b Z ndb bZ
  refine v_first_way (wt_first_way_0 ?_)
  refine wo_set (wr_dcomp (wr_isq (wr_var rfl (isqL hb ?_))))
  intro ca S1 eca l1 k1 hca
  have ne1 : lb ≠ ca := by have := lt_of hb; omega
  have dc := wr_dcG (nth := nloc lb) (put := pname 6) (kx := xvar 6) (vx := xlit .non) (δ := wipeE (W8 lb d dg none none none none none) [6]) (D := ca) (ws := b.map stV) (QV := fun v T => v = .loc ca ∧ T[ca]? = some (.dct (caV (b.map fun q => (q, none)))) ∧ KeepB ca S1 T) (E := noE) (by rw [List.length_map]; omega) (fun i acc T => acc = caV ((b.take i).map fun q => (q, none)) ∧ KeepB ca S1 T) (fun i acc T h => by unfold nloc; rw [getL_lst (h.2 _ _ ne1 (k1 _ _ hb))]; rfl) (fun i w acc T hw ⟨h1, h2⟩ hT => by
      rw [List.getElem?_map] at hw
      obtain ⟨q, hq, rfl⟩ := Option.map_eq_some_iff.mp hw
      obtain ⟨qm, nt, tk⟩ := take_new ndb hq
      have sq := shZ q (bZ q qm)
      refine ⟨_, rfl, wr_var rfl (wr_lit ⟨stK q, stF.key sq, hT, ?_, fun V lV kV hV => ⟨?_, fun x o n z => kV _ _ n (h2 _ _ n z)⟩⟩)⟩
      · rw [h1]
        unfold caV
        rw [gst_new stF (by rw [ca_fst, List.map_map]; show q ∉ (b.take i).map fun q => q; rw [List.map_id']; exact nt)]
        unfold gD
        rw [List.map_append]
        rfl
      · rw [h1, tk]
        unfold caV gD
        rw [List.map_append, List.map_append, List.map_append]
        rfl) (fun acc T ⟨h1, h2⟩ hT => ⟨rfl, by rw [hT, h1, List.length_map, List.take_length], h2⟩) (b.map stV).length 0 [] S1 (by omega) (Nat.le_refl _) ⟨rfl, KeepB.refl _ _⟩ hca
  refine dc.use fun v S2 ⟨ev, hc2, k2⟩ => ?_
  subst ev
  have kS2 : Keep S S2 := fun x o z => k2 _ _ (by have := lt_of z; omega) (k1 _ _ z)
  refine wt_first_way_1 ?_
  repeat array_get_dec
  refine wr_lsL (kS2 _ _ hb) (by rw [List.length_map]; omega) fun me S3 e3 l3 k3 hme => ?_
  refine wt_first_way_2 ?_
  repeat array_get_dec
  refine wt_first_way_3 ?_
  have hc3 := k3 _ _ hc2
  have cm : ca ≠ me := by have := lt_of hc2; omega
  have kS3 : Keep S S3 := fun x o z => k3 _ _ (kS2 _ _ z)
  have lS2 := Keep.len kS2
  have caS : S.length ≤ ca := by omega
  have meS : S.length ≤ me := by omega
  have kpS : ∀ {V : Sto}, K2 ca me S3 V → Keep S V := fun k x o z => by have := lt_of z; exact k _ _ (by omega) (by omega) (kS3 _ _ z)
  have inv : ∀ {i : Nat} {Q : List Pe}, PR f (fun q => decide (q ∈ G)) b i Q → (∀ e ∈ Q, e.1 ∈ Z) ∧ (Q.map Prod.fst).Nodup ∧ i ≤ Q.length ∧ Q.length ≤ Z.length := fun {i Q} re => by
    obtain ⟨a1, a2, a3⟩ := re.inv (G := fun q => q ∈ Z) ndb bZ fZ
    refine ⟨a1, a2, a3, ?_⟩
    have := nd_len (Q.map Prod.fst) Z a2 fun x hx => by
      obtain ⟨e, he, rfl⟩ := List.mem_map.mp hx
      exact a1 e he
    rwa [List.length_map] at this
  refine wo_while (fun m δ V => ∃ (i : Nat) (T : List Te) (Q : List Pe) (d6 d7 : Option Va), δ = W8 lb d dg (some (.loc ca)) (some (.loc me)) (some (.int (i : Int))) d6 d7 ∧ m + i = Z.length + 1 ∧ PR f (fun q => decide (q ∈ G)) b i Q ∧ Lk T Q ∧ K2 ca me S3 V ∧ V[ca]? = some (.dct (caV T)) ∧ V[me]? = some (.lst (meV Q))) (Z.length + 1) (by omega) ⟨0, _, _, none, none, rfl, by omega, .start, Lk.start b, .refl, hc3, hme.trans (by show _ = some (Ob.lst ((b.map fun q => (q, [q])).map fun e => stV e.1)); rw [List.map_map]; rfl)⟩ ?_
  rintro m δ V ⟨i, T, Q, d6, d7, ed, em, re, lk, kV, hc, hm⟩
  subst ed
  obtain ⟨qZ, ndQ, iQ, lQ⟩ := inv re
  refine wr_binB (wr_var rfl (wr_call (wr_cons (wr_var rfl (wr_nil (wr_lenL hm (wr_lt ?_)))))))
  rw [List.length_map]
  refine bif_d (fun c => ?_) (fun c => ?_)
  · have ci : i < Q.length := by omega
    obtain ⟨q, path, hq⟩ : ∃ q path, Q[i]? = some (q, path) := ⟨Q[i].1, Q[i].2, List.getElem?_eq_getElem ci⟩
    have qm : q ∈ Z := qZ _ (List.mem_of_getElem? hq)
    have sq := shZ q qm
    refine vl_first_way_0 (wt_first_way_0_0 ?_)
    refine wo_set (wr_bin (wr_var rfl (wr_var rfl (wr_ixL hm (atI_nat (by rw [List.getElem?_map, hq]; rfl)) ?_))))
    refine wt_first_way_0_1 ?_
    refine wo_if (wr_binB (wr_var rfl (wr_var rfl ?_)))
    have eg : (G.map fun q => (q, Va.bl true)).map Prod.fst = G := by rw [List.map_map]; show G.map (fun q => q) = G; rw [List.map_id']
    by_cases cg : q ∈ G
    · refine wr_gin (t := true) stF sq (dct_get (kpS kV _ _ hg)) (by rw [eg]; simp [cg]) (bif_t ?_)
      repeat array_get_dec
      refine (way_ok hc lk ndQ (fun e he => shZ _ (qZ e he)) hq (by omega)).use fun v W ⟨l, ev, hl, hW, kW⟩ => ?_
      subst ev
      have lV : S.length ≤ V.length := Keep.len (kpS kV)
      exact ⟨some path, ⟨i, Q, re, .inr ⟨q, path, hq, decide_eq_true cg, rfl⟩⟩, ⟨l, rfl, by omega, hW⟩, fun x o z => kW _ _ (kpS kV _ _ z)⟩
    · refine wr_gin (t := false) stF sq (dct_get (kpS kV _ _ hg)) (by rw [eg]; simp [cg]) (bif_f (wo_nx ?_))
      refine wt_first_way_0_2 ?_
      refine wo_for (wr_isq (wr_bin (wr_var rfl (wr_var rfl ?_))))
      obtain ⟨E', w1, w2, w3⟩ := hd.ex
      have qE : q ∈ E'.map Prod.fst := by rw [w2]; exact qm
      obtain ⟨e, he, eq⟩ := List.mem_map.mp qE
      have hr0 := w3 e he
      rw [eq] at hr0
      have rl := lt_of hr0
      have hrV := kpS kV _ _ hr0
      refine wr_dix (k := stK q) (dct_get (kpS kV _ _ w1)) (stF.key sq) (by rw [← eq]; exact valD_se_mem E' (by rw [w2]; exact ndZ) e he) ?_
      refine isqL hrV ?_
      have ls : ∀ k, (ext1 path ((f q).take k) Q).length ≤ 100000 := fun k => by
        obtain ⟨g1, g2, _⟩ := ext1_inv (G := fun q => q ∈ Z) (path := path) ((f q).take k) Q (fun t ht => fZ q qm t (List.mem_of_mem_take ht)) qZ ndQ
        have := nd_len ((ext1 path ((f q).take k) Q).map Prod.fst) Z g2 fun x hx => by
          obtain ⟨e, he, rfl⟩ := List.mem_map.mp hx
          exact g1 e he
        rw [List.length_map] at this
        omega
      refine ext_turn (fun t ht => shZ t (fZ q qm t ht)) (by have := lf q qm; omega) hrV (by omega) (by omega) cm lk hq ndQ hc hm ls fun W T' e7 kW lk' hc' hm' => ?_
      refine wt_first_way_0_3 ?_
      repeat array_get_dec
      refine ⟨m - 1, by omega, i + 1, T', _, some (stV q), e7, ?_, by omega, .step re hq (decide_eq_false cg), lk', kV.trans kW, hc', hm'⟩
      show W8 lb d dg (some (.loc ca)) (some (.loc me)) (some (.int ((i : Int) + 1))) (some (stV q)) e7 = _
      rw [show ((i : Int) + 1) = ((i + 1 : Nat) : Int) by omega]
  · refine wt_first_way_4 ?_
    repeat array_get_dec
    exact ⟨none, ⟨i, Q, re, .inl ⟨List.getElem?_eq_none (by omega), rfl⟩⟩, rfl, kpS kV⟩
end
theorem wr_dcC {nth : Nth} {put : XP} {cond : XT} {kx vx : XE} {δ : Rz.Env} {D : Nat} {ws : List Va} {QV : Va → Sto → Prop} {E : Xp} (hz : ws.length ≤ 16777215) (I : Nat → List (Va × Va) → Sto → Prop) (hn : ∀ i acc S, I i acc S → nth S i = some ws[i]?)
    (hs : ∀ i w acc S, ws[i]? = some w → I i acc S → S[D]? = some (.dct acc) → ∃ δ1, put w δ = some δ1 ∧ wr (cond δ1 S) (fun t S0 => bif t then wr (kx δ1 S0) (fun y S1 => wr (vx δ1 S1) (fun z S2 => ∃ k, keyT y = some k ∧ S2[D]? = some (.dct acc) ∧ stD acc y k z = acc ++ [(y, z)] ∧ ∀ T, T.length = S2.length → KeepB D S2 T → T[D]? = some (.dct (acc ++ [(y, z)])) → I (i + 1) (acc ++ [(y, z)]) T) noE) noE else S0[D]? = some (.dct acc) ∧ I (i + 1) acc S0) noE)
    (hq : ∀ acc S, I ws.length acc S → S[D]? = some (.dct acc) → QV (.loc D) S) : ∀ m i acc S, i + m = ws.length → acc.length ≤ i → I i acc S → S[D]? = some (.dct acc) → wr (dcG nth put cond kx vx D δ (m + 1) i S) QV E
  | 0, i, acc, S, e, ha, h, hD => by
    unfold dcG
    rw [hn i acc S h, List.getElem?_eq_none (by omega)]
    rw [show i = ws.length by omega] at h
    exact wr_of rfl (hq acc S h hD)
  | m + 1, i, acc, S, e, ha, h, hD => by
    have hi : i < ws.length := by omega
    have hw := List.getElem?_eq_getElem hi
    obtain ⟨δ1, e1, hb⟩ := hs i _ acc S hw h hD
    obtain ⟨t, S0, q0, hb⟩ := ok_ex hb
    unfold dcG
    rw [hn i acc S h, hw]
    dsimp only
    rw [e1]
    dsimp only
    rw [q0]
    cases t with
    | false =>
      dsimp only
      exact wr_dcC hz I hn hs hq m (i + 1) acc S0 (by omega) (by omega) hb.2 hb.1
    | true =>
      dsimp only
      obtain ⟨y, S1, q1, hb⟩ := ok_ex (show wr (kx δ1 S0) _ noE from hb)
      obtain ⟨z, S2, q2, k, g1, g2, g3, g4⟩ := ok_ex hb
      rw [q1]
      dsimp only
      rw [q2]
      dsimp only
      rw [g2, g1]
      dsimp only
      rw [fits_of (by omega), g3]
      have g := g4 _ (by simp) (KeepB.set _ _ _) (List.getElem?_set_self (lt_of g2))
      exact wr_dcC hz I hn hs hq m (i + 1) _ _ (by omega) (by simp; omega) g (List.getElem?_set_self (lt_of g2))
def bq (B : List (List Int)) : List St := (bs B).map fun s => (s, 0)
theorem bq_nd {B : List (List Int)} (nd : B.Nodup) : (bq B).Nodup := by
  have := (bs_ok B).2.nodup_iff.mpr nd
  exact List.Pairwise.map _ (fun a b h e => h (Prod.mk.inj e).1) this
theorem bq_mem {B : List (List Int)} {q : St} : q ∈ bq B ↔ q.1 ∈ B ∧ q.2 = 0 := by
  unfold bq
  rw [List.mem_map]
  constructor
  · rintro ⟨s, hs, rfl⟩
    exact ⟨(bs_ok B).2.mem_iff.mp hs, rfl⟩
  · rintro ⟨h1, h2⟩
    exact ⟨q.1, (bs_ok B).2.mem_iff.mpr h1, Prod.ext rfl h2.symm⟩
theorem at_begin_ok {S : Sto} {j : Nat} {B : List (List Int)} {C : List (List Int × List Int)} (ok : RoadOk B C) (hj : RoadAt S j B C) : wr (m_states_at_begin [.loc j] S) (fun v T => ∃ l, v = .loc l ∧ T[l]? = some (.lst ((bq B).map stV)) ∧ Keep S T ∧ S.length ≤ l) noE := by
  have l36 := Sh.len36 ok.sh ok.nd
  obtain ⟨x1, x2, x3, x4, _⟩ := id hj
  refine w_states_at_begin ?_
  repeat array_get_dec
  refine wr_of (road_begin_ok ok hj) ?_
  generalize eT : S ++ [Ob.lst (sB B)] = T
  obtain ⟨k1, h1, l1⟩ := new2 eT
  obtain ⟨b1, b2⟩ := bs_ok B
  rw [← b1] at h1
  refine isqL h1 ?_
  intro D U eD lU kU hD
  have nD : S.length ≠ D := by omega
  refine wr_cL (by rw [List.length_map, b2.length_eq]; omega) (fun i acc V => acc = ((bs B).take i).map (fun s => stV (s, 0)) ∧ KeepB D U V) ⟨rfl, KeepB.refl _ _⟩ hD (fun i acc V h => h.2 _ _ nD (kU _ _ h1)) (fun i w acc V hw ⟨g1, g2⟩ hV => ?_) (fun acc V ⟨g1, g2⟩ hV => ⟨D, rfl, ?_, fun x o z => g2 _ _ (by have := lt_of z; omega) (kU _ _ (k1 _ _ z)), by omega⟩)
  · rw [List.getElem?_map] at hw
    obtain ⟨s, hs, rfl⟩ := Option.map_eq_some_iff.mp hw
    refine ⟨_, rfl, ?_⟩
    repeat array_get_dec
    refine ⟨hV, fun W lW kW hW => ⟨?_, fun x o n z => kW _ _ n (g2 _ _ n z)⟩⟩
    rw [g1, List.take_succ, hs, List.map_append]
    rfl
  · rw [hV, g1, List.length_map, List.take_length]
    unfold bq
    rw [List.map_map]
    rfl
section
variable {S : Sto} {d u : Nat} {Z : List St} {F G : St → List Va}
theorem wr_frz {QV : Va → Sto → Prop} {E : Xp} {E' : List SE'} {q : St} (h1 : dctAt (.loc d) S = some (E'.map seK)) (nd : (E'.map Prod.fst).Nodup) (hq : q ∈ E'.map Prod.fst) (sh : Sh q.1) (h3 : ∀ e ∈ E', S[e.2]? = some (.lst (F e.1))) (k : ∀ r, S[r]? = some (.lst (F q)) → QV (.loc r) S) : wr (oDix (.loc d) (stV q) S) QV E := by
  obtain ⟨e, he, rfl⟩ := List.mem_map.mp hq
  exact wr_dix (k := stK e.1) h1 (stF.key sh) (valD_se_mem E' nd e he) (k _ (h3 e he))
theorem frd_get {S : Sto} {d : Nat} {kvs : List (Va × Va)} (h : S[d]? = some (.frd kvs)) : dctAt (.loc d) S = some kvs := by
  show (match S[d]? with | some (.dct kvs) => some kvs | some (.frd kvs) => some kvs | _ => none) = _
  rw [h]
theorem keys_se (E' : List SE') : (E'.map seK).map Prod.fst = (E'.map Prod.fst).map stV := by rw [List.map_map, List.map_map]; rfl
theorem key_at {E' : List SE'} {i : Nat} {w : Va} (h : ((E'.map seK).map Prod.fst)[i]? = some w) : ∃ q, (E'.map Prod.fst)[i]? = some q ∧ w = stV q := by
  rw [keys_se, List.getElem?_map] at h
  obtain ⟨q, hq, rfl⟩ := Option.map_eq_some_iff.mp h
  exact ⟨q, hq, rfl⟩
theorem ends_of_ok (hd : SD S d Z F) (ndZ : Z.Nodup) (shZ : ∀ q ∈ Z, Sh q.1) (lZ : Z.length ≤ 10000) : wr (m_ends_of [.loc d] S) (fun v T => ∃ g, v = .loc g ∧ T[g]? = some (.dct (gD stV ((Z.filter fun q => (F q).isEmpty).map fun q => (q, Va.bl true)))) ∧ Keep S T ∧ S.length ≤ g) noE := by
  obtain ⟨E', h1, h2, h3⟩ := hd.ex
  have lE : E'.length = Z.length := by rw [← h2, List.length_map]
  refine w_ends_of (wo_ret ?_)
  refine wr_lock (S1 := S) (l := d) (var_at rfl) h1 fun T1 l1 k1 hT1 => ?_
  have n3 : ∀ e ∈ E', e.2 ≠ d := fun e he z => by have := h3 e he; rw [z, h1] at this; cases this
  have r1 : ∀ e ∈ E', T1[e.2]? = some (.lst (F e.1)) := fun e he => k1 _ _ (n3 e he) (h3 e he)
  have dl := lt_of h1
  refine wr_dcomp (wr_keys (wr_var rfl ⟨d, _, rfl, hT1, fun D T2 eD l2 k2 hD => ?_⟩))
  have dD : d ≠ D := by omega
  have r2 : ∀ e ∈ E', T2[e.2]? = some (.lst (F e.1)) := fun e he => k2 _ _ (r1 e he)
  have nD : ∀ e ∈ E', e.2 ≠ D := fun e he => by have := lt_of (r1 e he); omega
  have lw : ((E'.map seK).map Prod.fst).length = E'.length := by rw [List.length_map, List.length_map]
  have key := wr_dcC (nth := nseq ((E'.map seK).map Prod.fst)) (put := pname 1) (cond := xnot (xtru (xbin oDix (xvar 0) (xvar 1)))) (kx := xvar 1) (vx := xlit (.bl true)) (δ := wipeE [some (.loc d), none] [1]) (D := D) (ws := (E'.map seK).map Prod.fst) (QV := fun v T => v = .loc D ∧ T[D]? = some (.dct (gD stV ((Z.filter fun q => (F q).isEmpty).map fun q => (q, Va.bl true)))) ∧ KeepB D T2 T) (E := noE) (by rw [lw]; omega)
    (fun i acc T => acc = gD stV (((Z.take i).filter fun q => (F q).isEmpty).map fun q => (q, Va.bl true)) ∧ KeepB D T2 T) (fun i acc T h => rfl) (fun i w acc T hw ⟨g1, g2⟩ hT => by
      obtain ⟨q, hq, rfl⟩ := key_at hw
      rw [h2] at hq
      obtain ⟨qm, nt, tk⟩ := take_new ndZ hq
      have sq := shZ q qm
      refine ⟨_, rfl, wr_not (wr_tru (wr_bin (wr_var rfl (wr_var rfl ?_))))⟩
      refine wr_frz (F := F) (E' := E') (frd_get (g2 _ _ dD (k2 _ _ hT1))) (by rw [h2]; exact ndZ) (by rw [h2]; exact qm) sq (fun e he => g2 _ _ (nD e he) (r2 e he)) fun r hr => ?_
      refine wr_trL hr ?_
      rw [Bool.not_not]
      have fl : ((Z.take (i + 1)).filter fun q => (F q).isEmpty) = ((Z.take i).filter fun q => (F q).isEmpty) ++ if (F q).isEmpty then [q] else [] := by
        rw [tk, List.filter_append]
        congr 1
        cases c : (F q).isEmpty <;> simp [c]
      cases c : (F q).isEmpty with
      | false =>
        refine bif_f ⟨hT, ?_, g2⟩
        rw [g1, fl, c, if_neg Bool.false_ne_true, List.append_nil]
      | true =>
        refine bif_t (wr_var rfl (wr_lit ⟨stK q, stF.key sq, hT, ?_, fun V lV kV hV => ⟨?_, fun x o n z => kV _ _ n (g2 _ _ n z)⟩⟩))
        · rw [g1]
          have nt' : q ∉ (((Z.take i).filter fun q => (F q).isEmpty).map fun q => (q, Va.bl true)).map Prod.fst := by
            rw [List.map_map]
            intro hm
            obtain ⟨x, hx, e⟩ := List.mem_map.mp hm
            have : x = q := e
            rw [this] at hx
            exact nt (List.mem_filter.mp hx).1
          rw [gst_new stF nt']
          unfold gD
          rw [List.map_append]
          rfl
        · rw [g1, fl, c, if_pos rfl]
          unfold gD
          rw [List.map_append, List.map_append]
          rfl) (fun acc T ⟨g1, g2⟩ hT => ⟨rfl, by rw [hT, g1, lw, lE, List.take_length], g2⟩) ((E'.map seK).map Prod.fst).length 0 [] T2 (by omega) (Nat.le_refl _) ⟨rfl, KeepB.refl _ _⟩ hD
  rw [lw] at key
  rw [List.length_map]
  refine key.use fun v T3 ⟨ev, g1, g2⟩ => ?_
  subst ev
  have hd3 := g2 _ _ dD (k2 _ _ hT1)
  refine ⟨hd3, fun V lV kV hV => ⟨D, rfl, kV _ _ (Ne.symm dD) g1, fun x o z => ?_, by omega⟩⟩
  by_cases c : x = d
  · subst c
    rw [h1] at z
    cases z
    exact hV
  · exact kV _ _ c (g2 _ _ (by have := lt_of z; omega) (k2 _ _ (k1 _ _ c z)))
end
def siK (x : Si) : NestedKey := .tup [keyS x.1, .num (if x.2.1 then 1 else 0), .num (x.2.2 : Int)]
theorem siF : KeyF siV siK (fun x => Sh x.1) := by
  refine ⟨fun x => ?_, fun {a b} h => ?_, fun x h => ?_, fun _ => ⟨_, rfl⟩⟩
  · obtain ⟨s, g, c⟩ := x
    show (match nkV (tI' s), nkV.nksV [.bl g, .int (c : Int)] with | some k, some ks => some (k :: ks) | _, _ => none).map NestedKey.tup = _
    rw [nk_tI]
    cases g <;> rfl
  · obtain ⟨s, g, c⟩ := a
    obtain ⟨s', g', c'⟩ := b
    have h1 := List.cons.inj (NestedKey.tup.inj h)
    have h2 := List.cons.inj h1.2
    have h3 := NestedKey.num.inj (List.cons.inj h2.2).1
    have e1 := keyS_inj h1.1
    have e2 : g = g' := by
      have := NestedKey.num.inj h2.1
      cases g <;> cases g' <;> simp at this ⊢
    have e3 := Int.ofNat_inj.mp h3
    dsimp only at e1 e3
    rw [e1, e2, e3]
  · obtain ⟨s, g, c⟩ := x
    cases h with
    | one a h => simp [siK, keyS, NestedKey.depth, NestedKey.depthAll]
    | two a b h h' n => simp [siK, keyS, NestedKey.depth, NestedKey.depthAll]
theorem PR.plen {f : St → List St} {gl : St → Bool} {b : List St} {i : Nat} {Q : List Pe} (h : PR f gl b i Q) (nd : ∀ {i Q}, PR f gl b i Q → (Q.map Prod.fst).Nodup) : ∀ (k : Nat) (e : Pe), Q[k]? = some e → e.2.length ≤ k + 1 := by
  induction h with
  | start =>
    intro k e he
    rw [List.getElem?_map] at he
    obtain ⟨q, _, rfl⟩ := Option.map_eq_some_iff.mp he
    simp
  | @step i Q q path h1 h2 h3 ih =>
    intro k e he
    obtain ⟨_, _, D, eD, hD⟩ := ext1_inv (G := fun _ => True) (path := path) (f q) Q (fun _ _ => trivial) (fun _ _ => trivial) (nd h1)
    rw [eD] at he
    have il := (List.getElem?_eq_some_iff.mp h2).1
    by_cases c : k < Q.length
    · rw [List.getElem?_append_left c] at he
      exact ih k e he
    · rw [List.getElem?_append_right (by omega)] at he
      have := ih i _ h2
      rw [hD e (List.mem_of_getElem? he), List.length_append]
      simp
      dsimp only at this
      omega
structure Zs (n : Nat) (B : List (List Int)) (C : List (List Int × List Int)) (R : List Int → List Va) (Z : List St) : Prop where
  eq : Z = sts n (shs B C)
  nd : Z.Nodup
  sh : ∀ q ∈ Z, Sh q.1
  len : Z.length ≤ 2304
  bg : ∀ q ∈ bq B, q ∈ Z
  cl : ∀ q ∈ Z, ∀ t ∈ bh C R q, t ∈ Z
  few : ∀ q ∈ Z, (bh C R q).length ≤ 61
section
variable {n : Nat} {B : List (List Int)} {C : List (List Int × List Int)} {R : List Int → List Va}
theorem zs_ok (n1 : 1 ≤ n) (n64 : n ≤ 64) (ok : RoadOk B C) (ro : ∀ s ∈ B ++ ends C, RowOk n s (R s)) : Zs n B C R (sts n (shs B C)) := by
  obtain ⟨y1, y2, y3⟩ := shs_ok ok
  refine ⟨rfl, sts_nd (shs_nd B C y1), fun q hq => ok.all _ ((y3 _).mp (sts_mem.mp hq).1), ?_, fun q hq => ?_, fun q hq t ht => ?_, fun q hq => ?_⟩
  · rw [sts_len]
    exact Nat.mul_le_mul n64 y2
  · obtain ⟨h1, h2⟩ := bq_mem.mp hq
    exact sts_mem.mpr ⟨(y3 _).mpr (List.mem_append.mpr (.inl h1)), by omega⟩
  · obtain ⟨h1, h2⟩ := sts_mem.mp hq
    have hs := (y3 _).mp h1
    have rw_ := ro _ hs
    have hw : (R q.1)[q.2]? = some ((R q.1)[q.2]'(by rw [rw_.1]; exact h2)) := List.getElem?_eq_getElem _
    obtain ⟨ps, l, ew, ck, eg, _⟩ := row_at rw_ hw
    have eb : bh C R q = bhL C q.1 l := by
      show bhL C q.1 (ltOf ((R q.1).getD q.2 .non)) = _
      rw [eg, ew, lt_cV]
    rw [eb] at ht
    cases l with
    | none => nomatch ht
    | some k =>
      obtain ⟨t', ht', rfl⟩ := List.mem_map.mp ht
      refine sts_mem.mpr ⟨(y3 _).mpr ?_, ck.lt k rfl⟩
      rcases List.mem_cons.mp ((aft_perm C q.1).mem_iff.mp ht') with z | z
      · rw [z]; exact hs
      · obtain ⟨c, hc, rfl⟩ := List.mem_map.mp z
        exact List.mem_append.mpr (.inr (List.mem_flatMap.mpr ⟨c, (List.mem_filter.mp hc).1, by simp⟩))
  · show (bhL C q.1 (ltOf ((R q.1).getD q.2 .non))).length ≤ 61
    cases ltOf ((R q.1).getD q.2 .non) with
    | none => exact Nat.zero_le _
    | some k =>
      show ((aft C q.1).map fun t => (t, k)).length ≤ 61
      rw [List.length_map]
      have := aft_len C q.1
      have := ok.few
      omega
end
inductive Chn (f : St → List St) (b : List St) : List St → St → Prop
  | one {q : St} : q ∈ b → Chn f b [q] q
  | snoc {p : List St} {q t : St} : Chn f b p q → t ∈ f q → Chn f b (p ++ [t]) t
theorem ext1_all (path : List St) : ∀ (ts : List St) (Q : List Pe) (t : St), (t ∈ ts ∨ t ∈ Q.map Prod.fst) → t ∈ (ext1 path ts Q).map Prod.fst
  | [], Q, t, h => h.resolve_left fun z => nomatch z
  | s :: ts, Q, t, h => by
    unfold ext1
    refine ext1_all path ts _ t ?_
    by_cases m : s ∈ Q.map Prod.fst
    · rw [if_pos m]
      rcases h with h | h
      · rcases List.mem_cons.mp h with z | z
        · exact .inr (z ▸ m)
        · exact .inl z
      · exact .inr h
    · rw [if_neg m, List.map_append]
      rcases h with h | h
      · rcases List.mem_cons.mp h with z | z
        · exact .inr (List.mem_append.mpr (.inr (by rw [z]; exact List.mem_singleton.mpr rfl)))
        · exact .inl z
      · exact .inr (List.mem_append.mpr (.inl h))
section
variable {f : St → List St} {gl : St → Bool} {b : List St} {i : Nat} {Q : List Pe}
structure BI (f : St → List St) (gl : St → Bool) (b : List St) (i : Nat) (Q : List Pe) : Prop where
  ch : ∀ e ∈ Q, Chn f b e.2 e.1
  mono : ∀ (j k : Nat) (x y : Pe), Q[j]? = some x → Q[k]? = some y → j ≤ k → x.2.length ≤ y.2.length
  near : ∀ (k : Nat) (x y : Pe), Q[i]? = some x → Q[k]? = some y → y.2.length ≤ x.2.length + 1
  bg : ∀ q ∈ b, ∃ (k : Nat) (x : Pe), Q[k]? = some x ∧ x.1 = q ∧ x.2.length ≤ 1
  cl : ∀ (j : Nat) (x : Pe), j < i → Q[j]? = some x → ∀ t ∈ f x.1, ∃ (k : Nat) (y : Pe), Q[k]? = some y ∧ y.1 = t ∧ y.2.length ≤ x.2.length + 1
  gl : ∀ (j : Nat) (x : Pe), j < i → Q[j]? = some x → gl x.1 = false
theorem PR.bi (h : PR f gl b i Q) (nd : ∀ {i Q}, PR f gl b i Q → (Q.map Prod.fst).Nodup) : BI f gl b i Q := by
  induction h with
  | start =>
    have one : ∀ (k : Nat) (x : Pe), (b.map fun q => ((q, [q]) : Pe))[k]? = some x → x.2.length = 1 := fun k x h => by
      rw [List.getElem?_map] at h
      obtain ⟨q, _, rfl⟩ := Option.map_eq_some_iff.mp h
      rfl
    refine ⟨fun e he => ?_, fun j k x y hx hy _ => by rw [one j x hx, one k y hy]; exact Nat.le_refl _, fun k x y hx hy => by rw [one _ x hx, one k y hy]; omega, fun q hq => ?_, fun j x z => absurd z (Nat.not_lt_zero _), fun j x z => absurd z (Nat.not_lt_zero _)⟩
    · obtain ⟨q, hq, rfl⟩ := List.mem_map.mp he
      exact .one hq
    · obtain ⟨k, hk, ek⟩ := List.getElem_of_mem hq
      exact ⟨k, (q, [q]), by rw [List.getElem?_map, List.getElem?_eq_getElem hk, ek]; rfl, rfl, by simp⟩
  | @step i Q q path h1 h2 h3 ih =>
    have ndQ := nd h1
    have ndQ' := nd (PR.step h1 h2 h3)
    obtain ⟨_, _, D, eD, hD⟩ := ext1_inv (G := fun _ => True) (path := path) (f q) Q (fun _ _ => trivial) (fun _ _ => trivial) ndQ
    have hG := (ext1_inv (G := fun t => t ∈ f q ∨ t ∈ Q.map Prod.fst) (path := path) (f q) Q (fun t ht => .inl ht) (fun e he => .inr (List.mem_map.mpr ⟨e, he, rfl⟩)) ndQ).1
    have hall := ext1_all path (f q) Q
    rw [eD] at ndQ' hG hall ⊢
    have il := (List.getElem?_eq_some_iff.mp h2).1
    have dj : ∀ e ∈ D, e.1 ∈ f q := fun e he => by
      rcases hG e (List.mem_append.mpr (.inr he)) with z | z
      · exact z
      · rw [List.map_append, List.nodup_append] at ndQ'
        exact absurd rfl (ndQ'.2.2 _ z _ (List.mem_map.mpr ⟨e, he, rfl⟩))
    have lD : ∀ e ∈ D, e.2.length = path.length + 1 := fun e he => by rw [hD e he, List.length_append]; simp
    have old : ∀ (k : Nat) (x : Pe), Q[k]? = some x → (Q ++ D)[k]? = some x := fun k x hx => by
      rw [List.getElem?_append_left (List.getElem?_eq_some_iff.mp hx).1]; exact hx
    have cas : ∀ (k : Nat) (x : Pe), (Q ++ D)[k]? = some x → Q[k]? = some x ∨ (Q.length ≤ k ∧ x ∈ D) := fun k x hx => by
      by_cases c : k < Q.length
      · rw [List.getElem?_append_left c] at hx; exact .inl hx
      · rw [List.getElem?_append_right (by omega)] at hx; exact .inr ⟨by omega, List.mem_of_getElem? hx⟩
    have up : ∀ (k : Nat) (x : Pe), Q[k]? = some x → x.2.length ≤ path.length + 1 := fun k x hx => ih.near k (q, path) x h2 hx
    refine ⟨fun e he => ?_, fun j k x y hx hy jk => ?_, fun k x y hx hy => ?_, fun t ht => ?_, fun j x hj hx t ht => ?_, fun j x hj hx => ?_⟩
    · rcases List.mem_append.mp he with z | z
      · exact ih.ch e z
      · rw [hD e z]
        exact .snoc (ih.ch _ (List.mem_of_getElem? h2)) (dj e z)
    · rcases cas j x hx with z | ⟨z1, z2⟩
      · rcases cas k y hy with w | ⟨w1, w2⟩
        · exact ih.mono j k x y z w jk
        · rw [lD y w2]; exact up j x z
      · rcases cas k y hy with w | ⟨w1, w2⟩
        · have := (List.getElem?_eq_some_iff.mp w).1
          omega
        · rw [lD x z2, lD y w2]; exact Nat.le_refl _
    · have px : path.length ≤ x.2.length := by
        rcases cas (i + 1) x hx with z | ⟨z1, z2⟩
        · exact ih.mono i (i + 1) (q, path) x h2 z (Nat.le_succ i)
        · rw [lD x z2]; omega
      have py : y.2.length ≤ path.length + 1 := by
        rcases cas k y hy with w | ⟨w1, w2⟩
        · exact up k y w
        · rw [lD y w2]; exact Nat.le_refl _
      omega
    · obtain ⟨k, x, e1, e2, e3⟩ := ih.bg t ht
      exact ⟨k, x, old k x e1, e2, e3⟩
    · by_cases c : j < i
      · have hx' : Q[j]? = some x := by rw [List.getElem?_append_left (by omega)] at hx; exact hx
        obtain ⟨k, y, e1, e2, e3⟩ := ih.cl j x c hx' t ht
        exact ⟨k, y, old k y e1, e2, e3⟩
      · have je : j = i := by omega
        subst je
        have hx' : Q[j]? = some x := by rw [List.getElem?_append_left il] at hx; exact hx
        rw [h2] at hx'
        cases hx'
        obtain ⟨y, hy, ey⟩ := List.mem_map.mp (hall t (.inl ht))
        obtain ⟨k, hk, ek⟩ := List.getElem_of_mem hy
        refine ⟨k, y, by rw [List.getElem?_eq_getElem hk, ek], ey, ?_⟩
        rcases cas k y (by rw [List.getElem?_eq_getElem hk, ek]) with w | ⟨w1, w2⟩
        · exact up k y w
        · rw [lD y w2]; exact Nat.le_refl _
    · by_cases c : j < i
      · exact ih.gl j x c (by rw [List.getElem?_append_left (by omega)] at hx; exact hx)
      · have je : j = i := by omega
        subst je
        rw [List.getElem?_append_left il, h2] at hx
        cases hx
        exact h3
theorem BI.early (h : BI f gl b i Q) {x : Pe} (hx : Q[i]? = some x) {c : List St} {t : St} (hc : Chn f b c t) : c.length < x.2.length → ∃ (j : Nat) (y : Pe), j < i ∧ Q[j]? = some y ∧ y.1 = t ∧ y.2.length ≤ c.length := by
  have sm : ∀ (k : Nat) (y : Pe), Q[k]? = some y → y.2.length < x.2.length → k < i := fun k y hy l => by
    by_cases c : k < i
    · exact c
    · have := h.mono i k x y hx hy (by omega)
      omega
  induction hc with
  | one hq =>
    intro l
    obtain ⟨k, y, e1, e2, e3⟩ := h.bg _ hq
    simp only [List.length_cons, List.length_nil] at l
    exact ⟨k, y, sm k y e1 (by omega), e1, e2, by simpa using e3⟩
  | snoc hp ht ih =>
    intro l
    rw [List.length_append] at l
    simp only [List.length_cons, List.length_nil] at l
    obtain ⟨j, y, j1, j2, j3, j4⟩ := ih (by omega)
    obtain ⟨k, z, e1, e2, e3⟩ := h.cl j y j1 j2 _ (by rw [j3]; exact ht)
    exact ⟨k, z, sm k z e1 (by omega), e1, e2, by rw [List.length_append]; simp only [List.length_cons, List.length_nil]; omega⟩
theorem PRes.short {p : List St} (h : PRes f gl b (some p)) (nd : ∀ {i Q}, PR f gl b i Q → (Q.map Prod.fst).Nodup) : (∃ q, Chn f b p q ∧ gl q = true) ∧ ∀ c g, Chn f b c g → gl g = true → p.length ≤ c.length := by
  obtain ⟨i, Q, pr, r⟩ := h
  rcases r with ⟨_, r⟩ | ⟨q, path, hq, g, r⟩
  · cases r
  · cases r
    have B := pr.bi nd
    refine ⟨⟨q, B.ch _ (List.mem_of_getElem? hq), g⟩, fun c g' hc hg => ?_⟩
    rcases Nat.lt_or_ge c.length p.length with z | z
    · obtain ⟨j, y, j1, j2, j3, _⟩ := B.early hq hc z
      have := B.gl j y j1 j2
      rw [j3, hg] at this
      cases this
    · exact z
theorem PRes.none_of (h : PRes f gl b none) (nd : ∀ {i Q}, PR f gl b i Q → (Q.map Prod.fst).Nodup) : ∀ c g, Chn f b c g → gl g = false := by
  obtain ⟨i, Q, pr, r⟩ := h
  rcases r with ⟨hq, _⟩ | ⟨q, path, hq, g, r⟩
  · have B := pr.bi nd
    have li : Q.length ≤ i := List.getElem?_eq_none_iff.mp hq
    intro c g hc
    suffices z : ∃ (j : Nat) (y : Pe), j < i ∧ Q[j]? = some y ∧ y.1 = g by
      obtain ⟨j, y, j1, j2, j3⟩ := z
      rw [← j3]
      exact B.gl j y j1 j2
    have lt : ∀ (k : Nat) (y : Pe), Q[k]? = some y → k < i := fun k y hy => by
      have := (List.getElem?_eq_some_iff.mp hy).1
      omega
    induction hc with
    | one hq =>
      obtain ⟨k, y, e1, e2, e3⟩ := B.bg _ hq
      exact ⟨k, y, lt k y e1, e1, e2⟩
    | snoc hp ht ih =>
      obtain ⟨j, y, j1, j2, j3⟩ := ih
      obtain ⟨k, z, e1, e2, e3⟩ := B.cl j y j1 j2 _ (by rw [j3]; exact ht)
      exact ⟨k, z, lt k z e1, e1, e2⟩
  · cases r
theorem PRes.len {p : List St} (h : PRes f gl b (some p)) (nd : ∀ {i Q}, PR f gl b i Q → (Q.map Prod.fst).Nodup) {K : List Si} (hK : ∀ c q, Chn f b c q → (q.1, false, q.2) ∈ K) : p.length ≤ K.length := by
  obtain ⟨i, Q, pr, r⟩ := h
  rcases r with ⟨_, r⟩ | ⟨q, path, hq, g, r⟩
  · cases r
  · cases r
    have B := pr.bi nd
    have l1 := pr.plen nd i (q, p) hq
    have l2 := (List.getElem?_eq_some_iff.mp hq).1
    have ndQ := nd pr
    have l3 : (Q.map fun e => ((e.1.1, false, e.1.2) : Si)).length ≤ K.length := by
      refine nd_len _ _ ?_ fun x hx => ?_
      · have : (Q.map fun e => ((e.1.1, false, e.1.2) : Si)) = (Q.map Prod.fst).map fun q => ((q.1, false, q.2) : Si) := by rw [List.map_map]; rfl
        rw [this]
        refine List.Pairwise.map _ (fun a b ne e => ?_) ndQ
        exact ne (Prod.ext (Prod.mk.inj e).1 (Prod.mk.inj (Prod.mk.inj e).2).2)
      · obtain ⟨e, he, rfl⟩ := List.mem_map.mp hx
        exact hK _ _ (B.ch e he)
    rw [List.length_map] at l3
    dsimp only at l1
    omega
end
inductive To (la : Si → List Si) : Si → Nat → Prop
  | one {x : Si} : la x = [] → To la x 1
  | cons {x y : Si} {m : Nat} : y ∈ la x → To la y m → To la x (m + 1)
section
variable {B : List (List Int)} {C : List (List Int × List Int)} {R : List Int → List Va}
abbrev stO (x : Si) : St := (x.1, x.2.2)
theorem later_mem' {x y : Si} : y ∈ later C R x ↔ stO y ∈ bh C R (stO x) ∧ y.2.1 ∈ mv y.1 := by
  unfold later
  rw [List.mem_flatMap]
  constructor
  · rintro ⟨t, ht, h⟩
    obtain ⟨g, hg, rfl⟩ := List.mem_map.mp h
    exact ⟨ht, hg⟩
  · rintro ⟨h1, h2⟩
    exact ⟨stO y, h1, List.mem_map.mpr ⟨y.2.1, h2, rfl⟩⟩
theorem mv_f (s : List Int) : false ∈ mv s := by unfold mv; split <;> simp
theorem later_nil' {x : Si} : later C R x = [] ↔ bh C R (stO x) = [] := by
  constructor
  · intro h
    cases e : bh C R (stO x) with
    | nil => rfl
    | cons t ts =>
      have : ((t.1, false, t.2) : Si) ∈ later C R x := later_mem'.mpr ⟨by rw [e]; exact List.mem_cons_self, mv_f _⟩
      rw [h] at this
      nomatch this
  · intro h
    unfold later
    rw [show bh C R (x.1, x.2.2) = [] from h]
    rfl
theorem starts_mem' {x : Si} : x ∈ starts B ↔ stO x ∈ bq B ∧ x.2.1 ∈ mv x.1 := by
  rw [starts_mem, bq_mem]
  exact ⟨fun ⟨a, b, c⟩ => ⟨⟨a, c⟩, b⟩, fun ⟨⟨a, c⟩, b⟩ => ⟨a, b, c⟩⟩
theorem chn_to {c : List St} {q : St} (h : Chn (bh C R) (bq B) c q) : ∀ (g : Bool) (m : Nat), g ∈ mv q.1 → To (later C R) (q.1, g, q.2) m → ∃ x ∈ starts B, To (later C R) x (c.length + m - 1) := by
  induction h with
  | @one q hq =>
    intro g m hg ht
    exact ⟨(q.1, g, q.2), starts_mem'.mpr ⟨hq, hg⟩, by simpa using ht⟩
  | @snoc p q t hp ht ih =>
    intro g m hg hm
    obtain ⟨x, hx, hT⟩ := ih false (m + 1) (mv_f _) (.cons (y := (t.1, g, t.2)) (later_mem'.mpr ⟨ht, hg⟩) hm)
    exact ⟨x, hx, by rw [List.length_append]; simp only [List.length_cons, List.length_nil]; rw [show p.length + (0 + 1) + m - 1 = p.length + (m + 1) - 1 by omega]; exact hT⟩
theorem to_chn {x : Si} {m : Nat} (h : To (later C R) x m) : ∀ c, Chn (bh C R) (bq B) c (stO x) → ∃ c' g, Chn (bh C R) (bq B) c' g ∧ bh C R g = [] ∧ c'.length + 1 = c.length + m := by
  induction h with
  | one h => exact fun c hc => ⟨c, _, hc, later_nil'.mp h, rfl⟩
  | @cons x y m hy hm ih =>
    intro c hc
    obtain ⟨c', g, h1, h2, h3⟩ := ih (c ++ [stO y]) (.snoc hc (later_mem'.mp hy).1)
    refine ⟨c', g, h1, h2, ?_⟩
    rw [List.length_append] at h3
    simp only [List.length_cons, List.length_nil] at h3
    omega
theorem to_pos {la : Si → List Si} {x : Si} {m : Nat} (h : To la x m) : 1 ≤ m := by
  cases h <;> omega
inductive Due (B : List (List Int)) (C : List (List Int × List Int)) (R : List Int → List Va) (k : Nat) : Va → Prop
  | non : (∀ x ∈ starts B, ∀ m, m ≤ k → ¬ To (later C R) x m) → Due B C R k .non
  | int {m : Nat} {x : Si} : x ∈ starts B → To (later C R) x m → (∀ y ∈ starts B, ∀ j, j ≤ k → To (later C R) y j → m ≤ j) → Due B C R k (.int (m : Int))
theorem due_some {gl : St → Bool} {k : Nat} {v : Va} {p : List St} (hg : ∀ q, gl q = true → bh C R q = []) (hg2 : ∀ c q, Chn (bh C R) (bq B) c q → bh C R q = [] → gl q = true) (nd : ∀ {i Q}, PR (bh C R) gl (bq B) i Q → (Q.map Prod.fst).Nodup) (h : PRes (bh C R) gl (bq B) (some p)) (hk : p.length ≤ k) (d : Due B C R k v) : v = .int (p.length : Int) := by
  obtain ⟨⟨q, hc, hq⟩, sh⟩ := h.short nd
  obtain ⟨x, hx, hT⟩ := chn_to hc false 1 (mv_f _) (.one (later_nil'.mpr (hg q hq)))
  rw [show p.length + 1 - 1 = p.length by omega] at hT
  cases d with
  | non n => exact absurd hT (n x hx _ hk)
  | @int m y hy hm mi =>
    have l1 := mi x hx _ hk hT
    obtain ⟨c', g, h1, h2, h3⟩ := to_chn hm [stO y] (.one (starts_mem'.mp hy).1)
    have l2 := sh c' g h1 (hg2 _ _ h1 h2)
    simp only [List.length_cons, List.length_nil] at h3
    rw [show m = p.length by omega]
theorem due_none {gl : St → Bool} {k : Nat} {v : Va} (hg2 : ∀ c q, Chn (bh C R) (bq B) c q → bh C R q = [] → gl q = true) (nd : ∀ {i Q}, PR (bh C R) gl (bq B) i Q → (Q.map Prod.fst).Nodup) (h : PRes (bh C R) gl (bq B) none) (d : Due B C R k v) : v = .non := by
  cases d with
  | non n => rfl
  | @int m y hy hm mi =>
    obtain ⟨c', g, h1, h2, h3⟩ := to_chn hm [stO y] (.one (starts_mem'.mp hy).1)
    have := h.none_of nd c' g h1
    rw [hg2 _ _ h1 h2] at this
    cases this
end
section
variable {K : List Si} {la : Si → List Si} {be be' : Si → Int} {t : Nat}
def SnD (K : List Si) (la : Si → List Si) (be : Si → Int) : Prop := ∀ x ∈ K, 1000000 ≤ be x ∨ ∃ m : Nat, To la x m ∧ be x = (m : Int)
def CpT (K : List Si) (la : Si → List Si) (t : Nat) (be : Si → Int) : Prop := ∀ x ∈ K, ∀ m : Nat, m ≤ t → To la x m → be x ≤ (m : Int)
def rel1 (la : Si → List Si) (be : Si → Int) (x : Si) : Int := ((la x).map fun y => 1 + be y).foldl min (be x)
theorem fold_min : ∀ (l : List Int) (n : Int), l.foldl min n ≤ n ∧ (∀ y ∈ l, l.foldl min n ≤ y) ∧ (l.foldl min n = n ∨ l.foldl min n ∈ l)
  | [], n => ⟨Int.le_refl _, (fun y h => nomatch h), .inl rfl⟩
  | a :: r, n => by
    obtain ⟨h1, h2, h3⟩ := fold_min r (min n a)
    rw [List.foldl_cons]
    refine ⟨by omega, fun y hy => ?_, ?_⟩
    · rcases List.mem_cons.mp hy with z | z
      · rw [z]; omega
      · exact h2 y z
    · rcases h3 with z | z
      · by_cases c : n ≤ a
        · left; rw [z]; omega
        · right; rw [z]; exact List.mem_cons.mpr (.inl (by omega))
      · exact .inr (List.mem_cons_of_mem _ z)
def upd1 (be : Si → Int) (x : Si) (w : Int) : Si → Int := fun y => if y = x then w else be y
theorem SnD.step (h : SnD K la be) {x : Si} (hx : x ∈ K) (cl : ∀ y ∈ la x, y ∈ K) : SnD K la (upd1 be x (rel1 la be x)) := fun z hz => by
  unfold upd1
  by_cases c : z = x
  · rw [if_pos c]
    subst c
    rcases (fold_min ((la z).map fun y => 1 + be y) (be z)).2.2 with e | e
    · rw [show rel1 la be z = be z from e]
      exact h z hz
    · obtain ⟨y, hy, ey⟩ := List.mem_map.mp e
      rw [show rel1 la be z = 1 + be y from ey.symm]
      rcases h y (cl y hy) with g | ⟨m, g1, g2⟩
      · left; omega
      · right; exact ⟨m + 1, .cons hy g1, by rw [g2]; push_cast; omega⟩
  · rw [if_neg c]
    exact h z hz
theorem upd1_le (be : Si → Int) (x z : Si) : upd1 be x (rel1 la be x) z ≤ be z := by
  unfold upd1
  by_cases c : z = x
  · rw [if_pos c, c]
    exact (fold_min ((la x).map fun y => 1 + be y) (be x)).1
  · rw [if_neg c]
    exact Int.le_refl _
structure Turn (K : List Si) (la : Si → List Si) (t j : Nat) (be : Si → Int) : Prop where
  sn : SnD K la be
  cp : CpT K la t be
  dn : CpT (K.take j) la (t + 1) be
theorem Turn.start (h1 : SnD K la be) (h2 : CpT K la t be) : Turn K la t 0 be := ⟨h1, h2, fun x h => nomatch h⟩
theorem Turn.last (h : Turn K la t K.length be) : SnD K la be ∧ CpT K la (t + 1) be := ⟨h.sn, by have := h.dn; rwa [List.take_length] at this⟩
theorem Turn.step {j : Nat} {x : Si} (h : Turn K la t j be) (hx : K[j]? = some x) (one : ∀ x ∈ K, la x = [] → be x ≤ 1) (cl : ∀ x ∈ K, ∀ y ∈ la x, y ∈ K) : Turn K la t (j + 1) (upd1 be x (rel1 la be x)) := by
  have xK := List.mem_of_getElem? hx
  refine ⟨h.sn.step xK (cl x xK), fun z hz m hm ht => Int.le_trans (upd1_le be x z) (h.cp z hz m hm ht), fun z hz m hm ht => ?_⟩
  rw [List.take_succ, hx] at hz
  rcases List.mem_append.mp hz with y | y
  · exact Int.le_trans (upd1_le be x z) (h.dn z y m hm ht)
  · have zx : z = x := by simpa using y
    subst zx
    show (if z = z then rel1 la be z else _) ≤ _
    rw [if_pos rfl]
    obtain ⟨f1, f2, _⟩ := fold_min ((la z).map fun y => 1 + be y) (be z)
    cases ht with
    | one e => exact Int.le_trans f1 (one z xK e)
    | @cons _ y m hy hm' =>
      have := f2 (1 + be y) (List.mem_map.mpr ⟨y, hy, rfl⟩)
      have l := h.cp y (cl z xK y hy) m (by omega) hm'
      show rel1 la be z ≤ _
      unfold rel1
      push_cast
      omega
end
def glE (Z : List St) (C : List (List Int × List Int)) (R : List Int → List Va) (q : St) : Bool := decide (q ∈ Z.filter fun q => (bF C R q).isEmpty)
theorem glE_iff {Z : List St} {C : List (List Int × List Int)} {R : List Int → List Va} {q : St} : glE Z C R q = true ↔ q ∈ Z ∧ bh C R q = [] := by
  unfold glE
  rw [decide_eq_true_eq, List.mem_filter]
  refine and_congr Iff.rfl ?_
  show ((bh C R q).map stV).isEmpty = true ↔ _
  rw [List.isEmpty_map, List.isEmpty_iff]
def FewV (n : Nat) (T : Sto) (v : Va) : Option (List St) → Prop
  | none => v = .non
  | some path => ∃ l, v = .tup [.int (path.length : Int), .loc l] ∧ n ≤ l ∧ T[l]? = some (.lst (path.map fun q => spV (q.1, false)))
section
variable {S : Sto} {i j n : Nat} {L B : List (List Int)} {C : List (List Int × List Int)} {R : List Int → List Va}
theorem fewest_ok (sh : ∀ s ∈ L, Sh s) (nd : L.Nodup) (n1 : 1 ≤ n) (n64 : n ≤ 64) (ro : ∀ s ∈ L, RowOk n s (R s)) (hi : RuleAt S i L n R) (ok : RoadOk B C) (hj : RoadAt S j B C) (on : ∀ s ∈ B ++ ends C, s ∈ L) :
    wr (m_fewest_calls [.loc i, .loc j] S) (fun v T => ∃ r, PRes (bh C R) (glE (sts n (shs B C)) C R) (bq B) r ∧ FewV S.length T v r ∧ (∀ p, r = some p → p.length ≤ (sts n (shs B C)).length + 1) ∧ Keep S T) noE := by
  have z := zs_ok (R := R) n1 n64 ok fun s hs => ro s (on s hs)
  refine v_fewest_calls (wt_fewest_calls_0 ?_)
  repeat array_get_dec
  refine ((match_wr sh nd hi ok hj).mono2 (fun v T ⟨e, k, _⟩ => (⟨e, k⟩ : v = Va.non ∧ Keep S T)) (fun c fs T ⟨_, _, _, h⟩ => absurd on h)).use fun v T ⟨_, k1⟩ => ?_
  refine wt_fewest_calls_1 ?_
  repeat array_get_dec
  refine (behind_ok sh nd n64 ro (hi.keep k1) ok (hj.keep k1) on).use fun v T2 h => ?_
  obtain ⟨b, ev, hb, lb, k2⟩ := h
  subst ev
  have kS2 : Keep S T2 := fun x o y => k2 _ _ (k1 _ _ y)
  generalize eZ : sts n (shs B C) = Z at z hb ⊢
  refine wt_fewest_calls_2 ?_
  repeat array_get_dec
  refine (at_begin_ok ok (hj.keep kS2)).use fun v T3 ⟨lb', ev, hb3, k3, ll3⟩ => ?_
  subst ev
  repeat array_get_dec
  have hd3 := hb.keep k3
  refine (ends_of_ok hd3 z.nd z.sh (by have := z.len; omega)).use fun v T4 ⟨g, ev, hg, k4, lg⟩ => ?_
  subst ev
  repeat array_get_dec
  have hd4 : SD T4 b Z (fun q => (bh C R q).map stV) := hd3.keep k4
  refine (first_way_ok (f := bh C R) (G := Z.filter fun q => (bF C R q).isEmpty) (k4 _ _ hb3) hd4 hg z.nd z.sh z.bg z.cl (bq_nd ok.nd) (by have := z.len; omega) (fun q hq => by have := z.few q hq; omega)).use fun v T7 ⟨r, res, wv, k7⟩ => ?_
  have kS7 : Keep S T7 := fun x o y => k7 _ _ (k4 _ _ (k3 _ _ (kS2 _ _ y)))
  have res' : PRes (bh C R) (glE Z C R) (bq B) r := res
  refine wt_fewest_calls_3 ?_
  cases r with
  | none =>
    cases wv
    refine wo_if (wr_isN (wr_var rfl ?_))
    refine bif_ct rfl ?_
    repeat array_get_dec
    exact ⟨none, res', rfl, (fun p h => nomatch h), kS7⟩
  | some path =>
    obtain ⟨lw7, rfl, nl7, hl7⟩ := wv
    have inv : ∀ {i : Nat} {Q : List Pe}, PR (bh C R) (glE Z C R) (bq B) i Q → (∀ e ∈ Q, e.1 ∈ Z) ∧ (Q.map Prod.fst).Nodup ∧ i ≤ Q.length := fun re => re.inv (G := fun q => q ∈ Z) (bq_nd ok.nd) z.bg z.cl
    have lp : path.length ≤ Z.length + 1 := by
      obtain ⟨i', Q, re, hr⟩ := res'
      rcases hr with ⟨_, y⟩ | ⟨q, path', h1, h2, h3⟩
      · cases y
      · cases h3
        obtain ⟨i1, i2, i3⟩ := inv re
        have lQ : Q.length ≤ Z.length := by
          have := nd_len (Q.map Prod.fst) Z i2 fun x hx => by
            obtain ⟨e, he, rfl⟩ := List.mem_map.mp hx
            exact i1 e he
          rwa [List.length_map] at this
        have il := (List.getElem?_eq_some_iff.mp h1).1
        have := re.plen (fun re => (inv re).2.1) i' _ h1
        dsimp only at *
        omega
    have lz := z.len
    refine wo_if (wr_isN (wr_var rfl ?_))
    refine bif_cf rfl ?_
    repeat array_get_dec
    refine wt_fewest_calls_4 ?_
    refine wo_ret (wr_tup (wr_cons (wr_call (wr_cons (wr_var rfl (wr_nil (wr_lenL hl7 (wr_cons (wr_comp (wr_isq (wr_var rfl (isqL hl7 ?_))))))))))))
    intro D8 T8 eD8 l8 k8 hD8
    have nl8 : lw7 ≠ D8 := by have := lt_of hl7; omega
    have kk : ∀ {V : Sto}, KeepB D8 T8 V → Keep T7 V := fun k x o y => k _ _ (by have := lt_of y; omega) (k8 _ _ y)
    refine wr_cL (by rw [List.length_map]; omega) (fun q acc V => acc = ((path.take q).map fun q => spV (q.1, false)) ∧ KeepB D8 T8 V) ⟨rfl, KeepB.refl _ _⟩ hD8 (fun q acc V h => h.2 _ _ nl8 (k8 _ _ hl7)) (fun q w acc V hw ⟨g1, g2⟩ hV => ?_) (fun acc V ⟨g1, g2⟩ hV => ?_)
    · rw [List.getElem?_map] at hw
      obtain ⟨t, ht, rfl⟩ := Option.map_eq_some_iff.mp hw
      refine ⟨_, rfl, ?_⟩
      repeat array_get_dec
      refine ⟨hV, fun W lW kW hW => ⟨?_, fun x o n y => kW _ _ n (g2 _ _ n y)⟩⟩
      rw [g1, List.take_succ, ht, List.map_append]
      rfl
    · rw [List.length_map]
      repeat array_get_dec
      rw [List.length_map] at g1
      refine ⟨some path, res', ⟨D8, rfl, by have := Keep.len kS7; omega, by rw [hV, g1, List.take_length]⟩, (fun p e => by cases e; exact lp), fun x o y => kk g2 _ _ (kS7 _ _ y)⟩
end
def foV (F : List Si) : List (Va × Va) := gD siV (F.map fun x => (x, Va.bl true))
theorem fo_fst (F : List Si) : (F.map fun x => (x, Va.bl true)).map Prod.fst = F := by
  rw [List.map_map]
  induction F with
  | nil => rfl
  | cons x F ih => rw [List.map_cons, ih]; rfl
abbrev zOf (n : Nat) (B : List (List Int)) (C : List (List Int × List Int)) : List St := sts n (shs B C)
def okS (n : Nat) (B : List (List Int)) (C : List (List Int × List Int)) (x : Si) : Prop := x.2.1 ∈ mv x.1 ∧ stO x ∈ zOf n B C
structure Rch (n : Nat) (B : List (List Int)) (C : List (List Int × List Int)) (R : List Int → List Va) (K : List Si) : Prop where
  nd : K.Nodup
  ok : ∀ x ∈ K, okS n B C x
  st : ∀ x ∈ starts B, x ∈ K
  cl : ∀ x ∈ K, ∀ y ∈ later C R x, y ∈ K
section
variable {S : Sto} {g n d lb lc fo wa : Nat} {L B : List (List Int)} {C : List (List Int × List Int)} {R : List Int → List Va} {F W : List Si}
theorem World.zs (w : World S g L n d R lb lc B C) : Zs n B C R (zOf n B C) := zs_ok w.n1 w.n64 w.ro fun s hs => w.ri.ro s (w.on s hs)
theorem okS.at (ok : RoadOk B C) {x : Si} (h : okS n B C x) : x.1 ∈ B ++ ends C ∧ x.2.1 ∈ mv x.1 ∧ x.2.2 < n := by
  obtain ⟨a, b⟩ := sts_mem.mp h.2
  exact ⟨((shs_ok ok).2.2 _).mp a, h.1, b⟩
theorem okS.next (z : Zs n B C R (zOf n B C)) {x y : Si} (h : okS n B C x) (hy : y ∈ later C R x) : okS n B C y := by
  obtain ⟨a, b⟩ := later_mem'.mp hy
  exact ⟨b, z.cl _ h.2 _ a⟩
theorem okS.start (z : Zs n B C R (zOf n B C)) {x : Si} (h : x ∈ starts B) : okS n B C x := by
  obtain ⟨a, b⟩ := starts_mem'.mp h
  exact ⟨b, z.bg _ a⟩
theorem okS_len (z : Zs n B C R (zOf n B C)) {K : List Si} (nd : K.Nodup) (ok : ∀ x ∈ K, okS n B C x) : K.length ≤ 4608 := by
  have l := nd_len K ((zOf n B C).flatMap fun q => [(q.1, false, q.2), (q.1, true, q.2)]) nd fun x hx => List.mem_flatMap.mpr ⟨stO x, (ok x hx).2, by
    obtain ⟨s, b, c⟩ := x
    cases b <;> simp⟩
  have : ∀ Z : List St, (Z.flatMap fun q => ([(q.1, false, q.2), (q.1, true, q.2)] : List Si)).length = 2 * Z.length := fun Z => by
    induction Z with
    | nil => rfl
    | cons q Z ih => rw [List.flatMap_cons, List.length_append, ih, List.length_cons]; simp; omega
  rw [this] at l
  have := z.len
  omega
abbrev E5r (n d lb lc fo wa : Nat) (e4 : Option Va) : Rz.Env := [some (here n d), some (road2 lb lc), some (.loc fo), some (.loc wa), e4]
theorem reached_ok (w : World S g L n d R lb lc B C) :
    wr (m__law_reached [here n d, road2 lb lc] S) (fun v T => ∃ l K, v = .loc l ∧ T[l]? = some (.lst (K.map siV)) ∧ Rch n B C R K ∧ Keep S T ∧ S.length ≤ l) noE := by
  have l36 := Sh.len36 w.ro.sh w.ro.nd
  have z := w.zs
  refine v__law_reached (wt__law_reached_0 ?_)
  refine wo_par (wr_cons (wr_dict0 fun fo T1 e1 t1 k1 hf => ?_))
  repeat array_get_dec
  refine (starts_ok (lc := lc) w.ro.sh w.ro.nd (k1 _ _ w.hb)).use fun v T2 ⟨wa, ev, hw, k2, ll⟩ => ?_
  subst ev
  repeat array_get_dec
  refine wt__law_reached_1 ?_
  have fl := lt_of hf
  have fw : fo ≠ wa := by omega
  have kS2 : Keep S T2 := fun x o y => k2 _ _ (k1 _ _ y)
  have sl := starts_len l36
  refine wo_while (fun m δ U => ∃ (F W : List Si) (e4 : Option Va), δ = E5r n d lb lc fo wa e4 ∧ U[fo]? = some (.dct (foV F)) ∧ U[wa]? = some (.lst (W.map siV)) ∧ F.Nodup ∧ (∀ x ∈ F, okS n B C x) ∧ (∀ x ∈ W, okS n B C x) ∧ (∀ x ∈ starts B, x ∈ F ∨ x ∈ W) ∧ (∀ x ∈ F, ∀ y ∈ later C R x, y ∈ F ∨ y ∈ W) ∧ K2 fo wa T2 U ∧ m = (4608 - F.length) * 123 + W.length ∧ m ≤ 600000) ((4608 - 0) * 123 + (starts B).length) (by omega) ⟨[], starts B, none, rfl, k2 _ _ hf, hw, by simp, (fun x h => nomatch h), fun x hx => okS.start z hx, fun x hx => .inr hx, (fun x h => nomatch h), fun _ _ _ _ h => h, rfl, by omega⟩ ?_
  rintro m δ U ⟨F, W, e4, ed, hfU, hwU, nd, okF, okW, st, cl, kU, em, lm⟩
  subst ed
  have Fl := okS_len z nd okF
  refine wr_binB (wr_var rfl (wr_lst (wr_nil (lstGo (by decide) fun l5 U1 e5 t5 k5 h5 => ?_))))
  have hw1 := k5 _ _ hwU
  have hf1 := k5 _ _ hfU
  have kU1 : K2 fo wa T2 U1 := fun y o n1 n2 q => k5 _ _ (kU y o n1 n2 q)
  have kS : ∀ {V : Sto}, K2 fo wa T2 V → Keep S V := fun k x o y => k _ _ (by have := lt_of y; omega) (by have := lt_of (k1 _ _ y); omega) (kS2 _ _ y)
  refine wr_neE hw1 h5 ?_
  cases W with
  | nil =>
    refine bif_cf rfl ?_
    refine wt__law_reached_2 ?_
    repeat array_get_dec
    refine wr_listD (kvs := foV F) (by show dctAt _ _ = _; unfold dctAt; dsimp only; rw [hf1]) (by unfold foV; rw [gD_len, List.length_map]; omega) fun l T3 e3 t3 k3 h3 => ?_
    refine ⟨l, F, rfl, ?_, ⟨nd, okF, fun x hx => (st x hx).resolve_right (fun h => nomatch h), fun x hx y hy => (cl x hx y hy).resolve_right (fun h => nomatch h)⟩, fun x o y => k3 _ _ (kS kU1 _ _ y), ?_⟩
    · rw [h3]
      unfold foV gD
      rw [List.map_map, List.map_map]
      rfl
    · have := Keep.len (kS kU1)
      omega
  | cons x W =>
    refine bif_ct rfl ?_
    refine vl__law_reached_0 (wt__law_reached_0_0 ?_)
    repeat array_get_dec
    refine wr_pop (k := 0) hw1 (ixN_of (k := 0) (by rw [List.length_map, List.length_cons]; omega)) (by decide) rfl fun U2 l2 k2' hw2 => ?_
    have hw2' : U2[wa]? = some (.lst (W.map siV)) := hw2
    have hf2 := k2' _ _ fw hf1
    have kU2 : K2 fo wa T2 U2 := fun y o n1 n2 q => k2' _ _ n2 (kU1 y o n1 n2 q)
    have okx := okW x List.mem_cons_self
    obtain ⟨xo, xm, xn⟩ := okx.at w.ro
    have shx := w.ro.all _ xo
    refine wt__law_reached_0_1 ?_
    refine wo_if (wr_binB (wr_var rfl (wr_var rfl ?_)))
    by_cases c : x ∈ F
    · refine wr_gnin (T := F.map fun x => (x, Va.bl true)) (t := false) siF shx (dct_get hf2) ⟨(fun h => nomatch h), fun h => absurd (by rw [fo_fst]; exact c) h⟩ ?_
      refine bif_f ?_
      repeat array_get_dec
      refine ⟨m - 1, ?_, F, W, _, rfl, hf2, hw2', nd, okF, fun y hy => okW y (List.mem_cons_of_mem _ hy), fun y hy => ?_, fun y hy u hu => ?_, kU2, ?_, ?_⟩
      · rw [List.length_cons] at em; omega
      · rcases st y hy with h | h
        · exact .inl h
        · rcases List.mem_cons.mp h with h | h
          · rw [h]; exact .inl c
          · exact .inr h
      · rcases cl y hy u hu with h | h
        · exact .inl h
        · rcases List.mem_cons.mp h with h | h
          · rw [h]; exact .inl c
          · exact .inr h
      · rw [List.length_cons] at em; omega
      · omega
    · refine wr_gnin (T := F.map fun x => (x, Va.bl true)) (t := true) siF shx (dct_get hf2) ⟨(fun _ h => c (by rw [fo_fst] at h; exact h)), fun _ => rfl⟩ ?_
      refine bif_t ?_
      have Fl' : F.length + 1 ≤ 4608 := by
        have := okS_len (K := F ++ [x]) z (List.nodup_append.mpr ⟨nd, by simp, fun a ha b hb e => c (by rw [List.mem_singleton.mp hb] at e; exact e ▸ ha)⟩) (fun y hy => by
          rcases List.mem_append.mp hy with h | h
          · exact okF y h
          · rw [List.mem_singleton.mp h]; exact okx)
        rw [List.length_append] at this
        simpa using this
      repeat array_get_dec
      refine wo_gput (T := F.map fun x => (x, Va.bl true)) siF shx hf2 (by rw [fo_fst]; exact c) (by rw [List.length_map]; omega) fun U3 l3 k3 hf3 => ?_
      have hf3' : U3[fo]? = some (.dct (foV (F ++ [x]))) := by rw [hf3]; unfold foV; rw [List.map_append]; rfl
      have hw3 := k3 _ _ fw.symm hw2'
      have kU3 : K2 fo wa T2 U3 := fun y o n1 n2 q => k3 _ _ n1 (kU2 y o n1 n2 q)
      have w3 := w.keep (kS kU3)
      repeat array_get_dec
      refine (later_ok (lc := lc) (lb := lb) (g := x.2.1) shx (w.on _ xo) w3.ri.di (w.ri.ro _ (w.on _ xo)) xn w.ro.ch w.ro.few w3.hc).use fun v U4 ⟨l4, ev, h4, k4, n4, z4⟩ => ?_
      subst ev
      repeat array_get_dec
      have hw4 := k4 _ _ hw3
      have z4' : (later C R x).length ≤ 122 := z4
      refine wr_ext hw4 h4 (by rw [List.length_map, List.length_map]; rw [List.length_cons] at em; omega) fun U5 l5' k5' h5' => ?_
      refine ⟨(4608 - (F ++ [x]).length) * 123 + (W ++ later C R x).length, ?_, F ++ [x], W ++ later C R x, _, rfl, k5' _ _ fw (k4 _ _ hf3'), by rw [h5', List.map_append], List.nodup_append.mpr ⟨nd, by simp, fun a ha b hb e => c (by rw [List.mem_singleton.mp hb] at e; exact e ▸ ha)⟩, fun y hy => ?_, fun y hy => ?_, fun y hy => ?_, fun y hy u hu => ?_, fun y o n1 n2 q => k5' _ _ n2 (k4 _ _ (kU3 y o n1 n2 q)), rfl, ?_⟩
      · rw [List.length_append, List.length_append, em, List.length_cons]
        simp only [List.length_cons, List.length_nil]
        omega
      · rcases List.mem_append.mp hy with h | h
        · exact okF y h
        · rw [List.mem_singleton.mp h]; exact okx
      · rcases List.mem_append.mp hy with h | h
        · exact okW y (List.mem_cons_of_mem _ h)
        · exact okx.next z h
      · rcases st y hy with h | h
        · exact .inl (List.mem_append.mpr (.inl h))
        · rcases List.mem_cons.mp h with h | h
          · exact .inl (List.mem_append.mpr (.inr (by rw [h]; simp)))
          · exact .inr (List.mem_append.mpr (.inl h))
      · rcases List.mem_append.mp hy with h | h
        · rcases cl y h u hu with h' | h'
          · exact .inl (List.mem_append.mpr (.inl h'))
          · rcases List.mem_cons.mp h' with h' | h'
            · exact .inl (List.mem_append.mpr (.inr (by rw [h']; simp)))
            · exact .inr (List.mem_append.mpr (.inl h'))
        · rw [List.mem_singleton.mp h] at hu
          exact .inr (List.mem_append.mpr (.inr hu))
      · rw [List.length_append, List.length_append]
        rw [List.length_cons] at em
        simp only [List.length_cons, List.length_nil]
        omega
end
theorem mapf_fst (K : List Si) (h : Si → Va) : (K.map fun x => (x, h x)).map Prod.fst = K := by
  rw [List.map_map]
  induction K with
  | nil => rfl
  | cons x K ih => rw [List.map_cons, ih]; rfl
def iD (h : Si → Int) (K : List Si) : List (Va × Va) := gD siV (K.map fun x => (x, Va.int (h x)))
theorem iD_len (h : Si → Int) (K : List Si) : (iD h K).length = K.length := by unfold iD; rw [gD_len, List.length_map]
theorem gst_fun {K : List Si} {h : Si → Va} {q : Si} {w : Va} (hq : q ∈ K) : stD (gD siV (K.map fun x => (x, h x))) (siV q) (siK q) w = gD siV (K.map fun x => (x, if x = q then w else h x)) := by
  unfold stD
  rw [if_pos ((gin_mem siF _ q).mpr (by rw [mapf_fst]; exact hq))]
  unfold gD
  rw [List.map_map, List.map_map, List.map_map]
  refine List.map_congr_left fun x hx => ?_
  show putD (siK q) w (siV x, h x) = (siV x, if x = q then w else h x)
  unfold putD
  dsimp only
  by_cases c : x = q
  · rw [if_pos (by rw [c]; exact siF.nkv q), if_pos c]
  · rw [if_neg (fun z => c (siF.inj (Option.some.inj ((siF.nkv x).symm.trans z)))), if_neg c]
theorem wo_iset {S : Sto} {d : Nat} {K : List Si} {h : Si → Int} {q : Si} {w : Int} {δ : Rz.Env} {N : Rz.Env → Sto → Prop} {Ke : Ke} (sq : Sh q.1) (hq : q ∈ K) (hz : K.length < 16777216) (h1 : S[d]? = some (.dct (iD h K))) (k : ∀ U, U.length = S.length → KeepB d S U → U[d]? = some (.dct (iD (upd1 h q w) K)) → N δ U) : wo (oDput (.loc d) (siV q) (.int w) δ S) N Ke :=
  wo_dput h1 (siF.key sq) (siF.dep q sq) (by rw [iD_len]; exact hz) fun U lU kU hU => k U lU kU (by
    rw [hU]
    unfold iD
    rw [gst_fun hq]
    congr 2
    unfold gD
    rw [List.map_map, List.map_map]
    refine List.map_congr_left fun x hx => ?_
    show (siV x, if x = q then Va.int w else Va.int (h x)) = (siV x, Va.int (upd1 h q w x))
    unfold upd1
    split <;> rfl)
theorem wr_iix {S : Sto} {d : Nat} {K : List Si} {h : Si → Int} {q : Si} {QV : Va → Sto → Prop} {E : Xp} (sq : Sh q.1) (hq : q ∈ K) (nd : K.Nodup) (h1 : S[d]? = some (.dct (iD h K))) (k : QV (.int (h q)) S) : wr (oDix (.loc d) (siV q) S) QV E :=
  wr_gix (T := K.map fun x => (x, Va.int (h x))) siF sq (dct_get h1) (by rw [mapf_fst]; exact nd) (List.mem_map.mpr ⟨q, hq, rfl⟩) k
theorem stAll_si : ∀ (T T0 : List (Si × Va)), ((T0 ++ T).map Prod.fst).Nodup → (∀ e ∈ T, Sh e.1.1) → stAll (gD siV T0) (T.map fun e => (siV e.1, e.2)) = gD siV (T0 ++ T)
  | [], T0, _, _ => by rw [List.append_nil]; rfl
  | e :: T, T0, nd, sh => by
    have nm : e.1 ∉ T0.map Prod.fst := by
      rw [List.map_append, List.map_cons, List.nodup_append] at nd
      exact fun h => nd.2.2 _ h _ List.mem_cons_self rfl
    have ih := stAll_si T (T0 ++ [e]) (by rw [List.append_assoc]; exact nd) fun x hx => sh x (List.mem_cons_of_mem _ hx)
    rw [List.append_assoc] at ih
    rw [← show ([e] ++ T) = e :: T from rfl, ← ih]
    show (T.map fun e => (siV e.1, e.2)).foldl stP (stP (gD siV T0) (siV e.1, e.2)) = (T.map fun e => (siV e.1, e.2)).foldl stP (gD siV (T0 ++ [e]))
    congr 1
    unfold stP
    rw [siF.key (sh e List.mem_cons_self)]
    exact gst_new siF nm
theorem prs_si {T : List (Si × Va)} (sh : ∀ e ∈ T, Sh e.1.1) : prsV (T.map fun e => Va.tup [siV e.1, e.2]) = some (T.map fun e => (siV e.1, e.2)) := by
  have := prsV_of (ps := T.map fun e => (siV e.1, e.2)) fun p hp => by
    obtain ⟨e, he, rfl⟩ := List.mem_map.mp hp
    exact ⟨_, siF.key (sh e he)⟩
  rw [List.map_map] at this
  exact this
theorem wr_dictSi {S : Sto} {l : Nat} {T : List (Si × Va)} {QV : Va → Sto → Prop} {E : Xp} (sh : ∀ e ∈ T, Sh e.1.1) (nd : (T.map Prod.fst).Nodup) (h1 : S[l]? = some (.lst (T.map fun e => Va.tup [siV e.1, e.2]))) (h : ∀ d U, d = S.length → U.length = S.length + 1 → Keep S U → U[d]? = some (.dct (gD siV T)) → QV (.loc d) U) : wr (fDictP [.loc l] S) QV E :=
  wr_dictP h1 (prs_si sh) fun d U e t k hU => h d U e t k (hU.trans (congrArg (fun z => some (Ob.dct z)) (stAll_si T [] nd sh)))
theorem ints_of (ns : List Int) : intsV (ns.map Va.int) = some ns := by
  induction ns with
  | nil => rfl
  | cons n ns ih => simp [intsV, ih]
theorem wr_min1 {S : Sto} {l : Nat} {n : Int} {ns : List Int} {QV : Va → Sto → Prop} {E : Xp} (h1 : S[l]? = some (.lst ((n :: ns).map Va.int))) (k : QV (.int (ns.foldl min n)) S) : wr (fMin1 [.loc l] S) QV E := by
  refine wr_of ?_ k
  unfold fMin1
  dsimp only
  rw [show itm (.loc l) S = some ((n :: ns).map Va.int) by show getL S l = _; exact getL_lst h1]
  dsimp only
  rw [ints_of]
abbrev Lk' := List (Si × Nat)
def lkV (E : Lk') : List (Va × Va) := gD siV (E.map fun e : Si × Nat => (e.1, Va.loc e.2))
theorem lk_keys (E : Lk') : (lkV E).map Prod.fst = (E.map Prod.fst).map siV := by
  unfold lkV gD
  rw [List.map_map, List.map_map, List.map_map]
  rfl
theorem lk_fst (E : Lk') : (E.map fun e => (e.1, Va.loc e.2)).map Prod.fst = E.map Prod.fst := by rw [List.map_map]; rfl
theorem wr_lix {S : Sto} {d : Nat} {E : Lk'} {la : Si → List Si} {q : Si} {QV : Va → Sto → Prop} {X : Xp} (sq : Sh q.1) (hq : q ∈ E.map Prod.fst) (nd : (E.map Prod.fst).Nodup) (h1 : dctAt (.loc d) S = some (lkV E)) (hl : ∀ e ∈ E, S[e.2]? = some (.lst ((la e.1).map siV))) (k : ∀ r, S[r]? = some (.lst ((la q).map siV)) → QV (.loc r) S) : wr (oDix (.loc d) (siV q) S) QV X := by
  obtain ⟨e, he, rfl⟩ := List.mem_map.mp hq
  exact wr_gix (T := E.map fun e : Si × Nat => (e.1, Va.loc e.2)) siF sq h1 (by rw [lk_fst]; exact nd) (List.mem_map.mpr ⟨e, he, rfl⟩) (k e.2 (hl e he))
def coN (R : List Int → List Va) (tn code : Nat) (x : Si) : Int := if tn = 0 then 1 else if isL R code x then 1 else 0
def relC (co : Si → Int) (la : Si → List Si) (be : Si → Int) (x : Si) : Int := ((la x).map fun y => co x + be y).foldl min (be x)
abbrev C13 (v0 : Va) (code d2 f : Nat) (tn : Nat) (e5 e6 e7 e8 e9 e10 e11 e12 : Option Va) : Rz.Env := [some v0, some (.int (code : Int)), some (.loc d2), some (.loc f), some (.int (tn : Int)), e5, e6, e7, e8, e9, e10, e11, e12]
abbrev csV (n d lb lc : Nat) : Va := .tup [here n d, road2 lb lc]
def KL (b : Nat) (S T : Sto) : Prop := ∀ (j : Nat) (o : Ob), j < b → S[j]? = some o → T[j]? = some o
theorem KL.refl {b : Nat} {S : Sto} : KL b S S := fun _ _ _ h => h
theorem KL.keep {b : Nat} {S T U : Sto} (h : KL b S T) (k : Keep T U) : KL b S U := fun j o l z => k _ _ (h j o l z)
theorem KL.kb {b c : Nat} {S T U : Sto} (h : KL b S T) (k : KeepB c T U) (bc : b ≤ c) : KL b S U := fun j o l z => k _ _ (by omega) (h j o l z)
theorem KL.up {b : Nat} {S T U : Sto} (k : Keep S T) (h : KL b T U) (l : S.length ≤ b) : Keep S U := fun j o z => h j o (by have := lt_of z; omega) (k _ _ z)
section
variable {S U : Sto} {g n d lb lc d2 f c be code tn : Nat} {L B : List (List Int)} {C : List (List Int × List Int)} {R : List Int → List Va} {K : List Si} {E : Lk'} {e5 e6 e7 e8 e9 e10 e11 e12 : Option Va}
structure TS (S : Sto) (d2 : Nat) (C : List (List Int × List Int)) (R : List Int → List Va) (K : List Si) (E : Lk') (U : Sto) : Prop where
  kS : Keep S U
  lS : S.length ≤ d2
  fs : E.map Prod.fst = K
  lt : ∀ e ∈ E, e.2 < d2
  ls : ∀ e ∈ E, U[e.2]? = some (.lst ((later C R e.1).map siV))
theorem TS.kl {V : Sto} (h : TS S d2 C R K E U) (k : KL d2 U V) : TS S d2 C R K E V := ⟨KL.up h.kS k h.lS, h.lS, h.fs, h.lt, fun e he => k _ _ (h.lt e he) (h.ls e he)⟩
theorem costs_ok (w : World S g L n d R lb lc B C) (r : Rch n B C R K) (ts : TS S d2 C R K E U) (h2 : U[d2]? = some (.dct (lkV E))) (dc : d2 < c) (hc : U[c]? = some (.dct [])) :
    wo (slock (xvar 2) (sfor (ikeys (xvar 2)) (pname 5) l__law_least_3) (C13 (csV n d lb lc) code d2 f tn e5 e6 e7 e8 (some (.loc c)) e10 e11 e12) U) (fun δ V => (∃ e5, δ = C13 (csV n d lb lc) code d2 f tn e5 e6 e7 e8 (some (.loc c)) e10 e11 e12) ∧ V[c]? = some (.dct (iD (coN R tn code) K)) ∧ KeepB c U V) noK := by
  have Kl := okS_len w.zs r.nd r.ok
  have cl := lt_of hc
  refine wo_lock (l := d2) (kvs := lkV E) (var_at rfl) h2 fun T lT kT hT => ?_
  refine wo_for (wr_keys (wr_var rfl ⟨d2, lkV E, rfl, hT, ?_⟩))
  rw [show (lkV E).length = ((lkV E).map Prod.fst).length from (List.length_map _).symm, lk_keys, ts.fs]
  refine wo_tup (fun q δ V => (∃ e5, δ = C13 (csV n d lb lc) code d2 f tn e5 e6 e7 e8 (some (.loc c)) e10 e11 e12) ∧ V[c]? = some (.dct (iD (coN R tn code) (K.take q))) ∧ V[d2]? = some (.frd (lkV E)) ∧ K2 c d2 U V) ⟨⟨_, rfl⟩, kT _ _ (by omega) hc, hT, fun j o _ n z => kT _ _ n z⟩ (fun q v δ V hv ⟨⟨e5, ed⟩, hV, hF, kV⟩ => ?_) (fun δ V ⟨ed, hV, hF, kV⟩ => ⟨hF, fun V' lV' kV' hV' => ⟨ed, kV' _ _ (by omega) (by rw [hV, List.length_map, List.take_length]), fun j o n z => ?_⟩⟩)
  · subst ed
    rw [List.getElem?_map] at hv
    obtain ⟨x, hx, rfl⟩ := Option.map_eq_some_iff.mp hv
    have xK := List.mem_of_getElem? hx
    obtain ⟨xo, xm, xn⟩ := (r.ok x xK).at w.ro
    have shx := w.ro.all _ xo
    obtain ⟨_, nt, tk⟩ := take_new r.nd hx
    have kl : KL d2 U V := fun j o l z => kV _ _ (by omega) (by omega) z
    have w3 := w.keep (ts.kl kl).kS
    refine ⟨_, rfl, ?_⟩
    have fin : ∀ V2, Keep V V2 → wo (oDput (.loc c) (siV x) (.int (coN R tn code x)) (C13 (csV n d lb lc) code d2 f tn (some (siV x)) e6 e7 e8 (some (.loc c)) e10 e11 e12) V2) (fun δ V => (∃ e5, δ = C13 (csV n d lb lc) code d2 f tn e5 e6 e7 e8 (some (.loc c)) e10 e11 e12) ∧ V[c]? = some (.dct (iD (coN R tn code) (K.take (q + 1)))) ∧ V[d2]? = some (.frd (lkV E)) ∧ K2 c d2 U V) noK := fun V2 k2 => by
      refine wo_gput (T := (K.take q).map fun x => (x, Va.int (coN R tn code x))) siF shx (k2 _ _ hV) (by rw [mapf_fst]; exact nt) (by rw [List.length_map, List.length_take]; omega) fun V3 l3 k3 h3 => ?_
      refine ⟨⟨_, rfl⟩, ?_, k3 _ _ (by omega) (k2 _ _ hF), fun j o n1 n2 z => k3 _ _ n1 (k2 _ _ (kV _ _ n1 n2 z))⟩
      rw [h3, tk]
      unfold iD
      rw [List.map_append]
      rfl
    refine wl__law_least_3 ?_
    repeat array_get_dec
    by_cases c0 : tn = 0
    · rw [show decide ((tn : Int) = 0) = true from decide_eq_true (by omega)]
      have := fin V (Keep.refl _)
      rw [show coN R tn code x = 1 by unfold coN; rw [if_pos c0]] at this
      repeat array_get_dec
      exact wo.use this fun _ _ z => z
    · rw [show decide ((tn : Int) = 0) = false from decide_eq_false (by omega)]
      repeat array_get_dec
      refine (is_listed_ok (g := x.2.1) (code := code) shx (w.on _ xo) w3.ri.di (w.ri.ro _ (w.on _ xo)) xn xm).use fun v V2 ⟨ev, k2⟩ => ?_
      subst ev
      repeat array_get_dec
      refine wr_of (show fInt [.bl (isL R code (x.1, x.2.1, x.2.2))] V2 = .ok (.int (coN R tn code x)) V2 by
        unfold coN
        rw [if_neg c0]
        show fInt [.bl (isL R code x)] V2 = _
        cases isL R code x <;> rfl) ?_
      repeat array_get_dec
      exact wo.use (fin V2 k2) fun _ _ z => z
  · by_cases c1 : j = d2
    · subst c1
      rw [h2] at z
      cases z
      exact hV'
    · exact kV' _ _ c1 (kV _ _ n c1 z)
theorem pass_ok {co : Si → Int} (w : World S g L n d R lb lc B C) (r : Rch n B C R K) (ts : TS S d2 C R K E U) (h2 : U[d2]? = some (.dct (lkV E))) (dc : d2 < c) (db : d2 < be) (cb : c ≠ be) (hc : U[c]? = some (.dct (iD co K))) {P : Nat → (Si → Int) → Prop} (hP : ∀ q x h, K[q]? = some x → P q h → P (q + 1) (upd1 h x (relC co (later C R) h x))) {h0 : Si → Int} (p0 : P 0 h0) (hb : U[be]? = some (.dct (iD h0 K))) :
    wo (l__law_least_1 (C13 (csV n d lb lc) code d2 f tn e5 (some (.loc be)) e7 e8 (some (.loc c)) e10 e11 e12) U) (fun δ V => (∃ e5, δ = C13 (csV n d lb lc) code d2 f tn e5 (some (.loc be)) e7 e8 (some (.loc c)) e10 e11 e12) ∧ (∃ h, V[be]? = some (.dct (iD h K)) ∧ P K.length h) ∧ KeepB be U V) noK := by
  have Kl := okS_len w.zs r.nd r.ok
  have bl := lt_of hb
  refine vl__law_least_1 ?_
  refine wo_lock (l := d2) (kvs := lkV E) (var_at rfl) h2 fun T lT kT hT => ?_
  refine wo_for (wr_keys (wr_var rfl ⟨d2, lkV E, rfl, hT, ?_⟩))
  rw [show (lkV E).length = ((lkV E).map Prod.fst).length from (List.length_map _).symm, lk_keys, ts.fs]
  refine wo_tup (fun q δ V => (∃ e5, δ = C13 (csV n d lb lc) code d2 f tn e5 (some (.loc be)) e7 e8 (some (.loc c)) e10 e11 e12) ∧ (∃ h, V[be]? = some (.dct (iD h K)) ∧ P q h) ∧ V[d2]? = some (.frd (lkV E)) ∧ K2 be d2 U V ∧ U.length ≤ V.length) ⟨⟨_, rfl⟩, ⟨h0, kT _ _ (by omega) hb, p0⟩, hT, fun j o _ n z => kT _ _ n z, by omega⟩ (fun q v δ V hv ⟨⟨e5, ed⟩, ⟨h, hV, pq⟩, hF, kV, lV⟩ => ?_) (fun δ V ⟨ed, ⟨h, hV, pq⟩, hF, kV, lV⟩ => ⟨hF, fun V' lV' kV' hV' => ⟨ed, ⟨h, kV' _ _ (by omega) hV, by rw [List.length_map] at pq; exact pq⟩, fun j o n z => ?_⟩⟩)
  · subst ed
    rw [List.getElem?_map] at hv
    obtain ⟨x, hx, rfl⟩ := Option.map_eq_some_iff.mp hv
    have xK := List.mem_of_getElem? hx
    obtain ⟨xo, xm, xn⟩ := (r.ok x xK).at w.ro
    have shx := w.ro.all _ xo
    have kl : KL d2 U V := fun j o l z => kV _ _ (by omega) (by omega) z
    have ts3 := ts.kl kl
    have hcV := kV _ _ cb (by omega) hc
    refine ⟨_, rfl, ?_⟩
    refine wl__law_least_2 ?_
    repeat array_get_dec
    refine wr_iix shx xK r.nd hV ?_
    repeat array_get_dec
    intro l1 T1 e1 t1 k1 h1
    repeat array_get_dec
    refine wr_lix (d := d2) (E := E) (la := later C R) shx (by rw [ts.fs]; exact xK) (by rw [ts.fs]; exact r.nd) (by show dctAt _ _ = _; unfold dctAt; dsimp only; rw [k1 _ _ hF]) (fun e he => k1 _ _ (ts3.ls e he)) fun rr hr => ?_
    refine isqL hr ?_
    intro D T2 eD t2 k2 hD
    have nD : rr ≠ D := by have := lt_of hr; omega
    have hcT := k2 _ _ (k1 _ _ hcV)
    have hbT := k2 _ _ (k1 _ _ hV)
    have ln : (later C R x).length ≤ 122 := by
      refine Nat.le_trans (flat_len _ 2 _ fun a _ => by rw [List.length_map]; exact mv_len a.1) ?_
      have : (bh C R (x.1, x.2.2)).length ≤ 61 := w.zs.few _ (r.ok x xK).2
      omega
    refine wr_cL (by rw [List.length_map]; omega) (fun i acc W => acc = ((later C R x).take i).map (fun y => Va.int (co x + h y)) ∧ KeepB D T2 W) ⟨rfl, KeepB.refl _ _⟩ hD (fun i acc W z => z.2 _ _ nD (k2 _ _ hr)) (fun i v acc W hv' ⟨g1, g2⟩ hW => ?_) (fun acc W ⟨g1, g2⟩ hW => ?_)
    · rw [List.getElem?_map] at hv'
      obtain ⟨y, hy, rfl⟩ := Option.map_eq_some_iff.mp hv'
      have yl := List.mem_of_getElem? hy
      have yK := r.cl x xK y yl
      obtain ⟨yo, _, _⟩ := (r.ok y yK).at w.ro
      have cD : c ≠ D := by have := lt_of hcV; omega
      have bD : be ≠ D := by have := lt_of hV; omega
      refine ⟨_, rfl, ?_⟩
      repeat array_get_dec
      refine wr_iix shx xK r.nd (g2 _ _ cD hcT) ?_
      repeat array_get_dec
      refine wr_iix (w.ro.all _ yo) yK r.nd (g2 _ _ bD hbT) ?_
      repeat array_get_dec
      refine ⟨hW, fun W2 lW kW hW2 => ⟨?_, fun j o n z => kW _ _ n (g2 _ _ n z)⟩⟩
      rw [g1, List.take_succ, hy, List.map_append]
      rfl
    · rw [List.length_map, List.take_length] at g1
      have l1D : l1 ≠ D := by have := lt_of h1; omega
      have kV2 : Keep V W := fun j o z => g2 _ _ (by have := lt_of z; omega) (k2 _ _ (k1 _ _ z))
      refine wr_addL (g2 _ _ l1D (k2 _ _ h1)) hW (by rw [g1, List.length_append, List.length_map]; simp; omega) fun l2 T3 e3 t3 k3 h3 => ?_
      have h3' : T3[l2]? = some (.lst ((h x :: (later C R x).map fun y => co x + h y).map Va.int)) := by
        rw [h3, g1]
        show some (Ob.lst (Va.int (h x) :: _)) = _
        rw [List.map_cons, List.map_map]
        rfl
      repeat array_get_dec
      refine wr_min1 h3' ?_
      repeat array_get_dec
      refine wo_iset (w := relC co (later C R) h x) shx xK (by omega) (k3 _ _ (kV2 _ _ hV)) fun V4 l4 k4 h4 => ?_
      have db' : d2 ≠ be := by omega
      exact ⟨⟨_, rfl⟩, ⟨_, h4, hP q x h hx pq⟩, k4 _ _ db' (k3 _ _ (kV2 _ _ hF)), fun j o n1 n2 z => k4 _ _ n1 (k3 _ _ (kV2 _ _ (kV _ _ n1 n2 z))), by have := Keep.len kV2; omega⟩
  · by_cases c1 : j = d2
    · subst c1
      rw [h2] at z
      cases z
      exact hV'
    · exact kV' _ _ c1 (kV _ _ n c1 z)
end
theorem wr_lenDn {QV : Va → Sto → Prop} {E : Xp} {S : Sto} {d : Nat} {kvs : List (Va × Va)} (h : S[d]? = some (.dct kvs)) (k : QV (.int (kvs.length : Int)) S) : wr (fLenD [.loc d] S) QV E := by
  refine wr_of ?_ k
  unfold fLenD
  dsimp only
  rw [dct_get h]
theorem relC_one {co : Si → Int} {la : Si → List Si} (h : ∀ x, co x = 1) : relC co la = rel1 la := by
  funext be x
  unfold relC rel1
  rw [h x]
def beN (R : List Int → List Va) (C : List (List Int × List Int)) (tn code : Nat) (x : Si) : Int := if later C R x = [] then coN R tn code x else 1000000
def QT (C : List (List Int × List Int)) (R : List Int → List Va) (K : List Si) (tn t : Nat) (h : Si → Int) : Prop := tn = 0 → SnD K (later C R) h ∧ CpT K (later C R) (t + 1) h ∧ ∀ x ∈ K, later C R x = [] → h x ≤ 1
theorem QT.first {C : List (List Int × List Int)} {R : List Int → List Va} {K : List Si} {tn code : Nat} : QT C R K tn 0 (beN R C tn code) := fun e => by
  have co : ∀ x, coN R tn code x = 1 := fun x => by unfold coN; rw [if_pos e]
  have b1 : ∀ x, later C R x = [] → beN R C tn code x = 1 := fun x h => by unfold beN; rw [if_pos h, co]
  refine ⟨fun x hx => ?_, fun x hx m hm ht => ?_, fun x hx h => by rw [b1 x h]; exact Int.le_refl _⟩
  · by_cases c : later C R x = []
    · exact .inr ⟨1, .one c, b1 x c⟩
    · left
      unfold beN
      rw [if_neg c]
      exact Int.le_refl _
  · cases ht with
    | one h => rw [b1 x h]; exact Int.le_refl _
    | cons hy ht' =>
      have := to_pos ht'
      omega
section
variable {S U : Sto} {g n d lb lc d2 f code tn : Nat} {L B : List (List Int)} {C : List (List Int × List Int)} {R : List Int → List Va} {K : List Si} {E : Lk'} {fs : List Va} {e5 e6 e7 e8 e9 e10 e11 e12 : Option Va}
theorem QT.pass {t : Nat} {h : Si → Int} (r : Rch n B C R K) (q : QT C R K tn t h) : ∃ P : Nat → (Si → Int) → Prop, P 0 h ∧ (∀ j x h, K[j]? = some x → P j h → P (j + 1) (upd1 h x (relC (coN R tn code) (later C R) h x))) ∧ ∀ h, P K.length h → QT C R K tn (t + 1) h := by
  refine ⟨fun j h => tn = 0 → Turn K (later C R) (t + 1) j h ∧ ∀ x ∈ K, later C R x = [] → h x ≤ 1, fun e => ?_, fun j x h hx p e => ?_, fun h p e => ?_⟩
  · obtain ⟨a, b, c⟩ := q e
    exact ⟨Turn.start a b, c⟩
  · obtain ⟨a, b⟩ := p e
    have co : ∀ x, coN R tn code x = 1 := fun x => by unfold coN; rw [if_pos e]
    rw [relC_one co]
    exact ⟨a.step hx b r.cl, fun y hy hl => Int.le_trans (upd1_le h x y) (b y hy hl)⟩
  · obtain ⟨a, b⟩ := p e
    exact ⟨a.last.1, a.last.2, b⟩
theorem due_of {h : Si → Int} {x0 : Si} {xs : List Si} (w : World S g L n d R lb lc B C) (r : Rch n B C R K) (es : starts B = x0 :: xs) (q : QT C R K 0 K.length h) : Due B C R K.length (if 1000000 ≤ (xs.map h).foldl min (h x0) then .non else .int ((xs.map h).foldl min (h x0))) := by
  obtain ⟨sn, cp, _⟩ := q rfl
  have Kl := okS_len w.zs r.nd r.ok
  obtain ⟨f1, f2, f3⟩ := fold_min (xs.map h) (h x0)
  have le : ∀ y ∈ starts B, (xs.map h).foldl min (h x0) ≤ h y := fun y hy => by
    rw [es] at hy
    rcases List.mem_cons.mp hy with z | z
    · rw [z]; exact f1
    · exact f2 _ (List.mem_map.mpr ⟨y, z, rfl⟩)
  have at' : ∃ y ∈ starts B, (xs.map h).foldl min (h x0) = h y := by
    rw [es]
    rcases f3 with z | z
    · exact ⟨x0, List.mem_cons_self, z⟩
    · obtain ⟨y, hy, ey⟩ := List.mem_map.mp z
      exact ⟨y, List.mem_cons_of_mem _ hy, ey.symm⟩
  generalize (xs.map h).foldl min (h x0) = top at le at'
  by_cases c : 1000000 ≤ top
  · rw [if_pos c]
    refine .non fun x hx m hm ht => ?_
    have l1 := cp x (r.st x hx) m (by omega) ht
    have l2 := le x hx
    omega
  · rw [if_neg c]
    obtain ⟨y, hy, ey⟩ := at'
    rcases sn y (r.st y hy) with z | ⟨m, t1, t2⟩
    · omega
    · rw [ey, t2]
      refine .int hy t1 fun u hu j hj ht => ?_
      have l1 := cp u (r.st u hu) j (by omega) ht
      have l2 := le u hu
      omega
theorem turn_ok (w : World S g L n d R lb lc B C) (r : Rch n B C R K) (ts : TS S d2 C R K E U) (h2 : U[d2]? = some (.dct (lkV E))) (df : d2 < f) (hf : U[f]? = some (.lst fs)) (lf : fs.length ≤ 10) :
    wo (l__law_least_0 (C13 (csV n d lb lc) code d2 f tn e5 e6 e7 e8 e9 e10 e11 e12) U) (fun δ V => (∃ e5 e6 e7 e8 e9 e10 e11 e12, δ = C13 (csV n d lb lc) code d2 f tn e5 e6 e7 e8 e9 e10 e11 e12) ∧ (∃ v, V[f]? = some (.lst (fs ++ [v])) ∧ (tn = 0 → Due B C R K.length v)) ∧ KeepB f U V ∧ U.length ≤ V.length) noK := by
  have Kl := okS_len w.zs r.nd r.ok
  have l36 := Sh.len36 w.ro.sh w.ro.nd
  have fl := lt_of hf
  have shK : ∀ x ∈ K, Sh x.1 := fun x hx => w.ro.all _ ((r.ok x hx).at w.ro).1
  refine vl__law_least_0 (wt__law_least_0_0 ?_)
  refine wo_asg (wr_tup (wr_cons (wr_dict0 fun c T1 e1 t1 k1 hc => ?_)))
  repeat array_get_dec
  refine wr_of (show oPow (.int 10) (.int 6) T1 = .ok (.int 1000000) T1 from rfl) ?_
  repeat array_get_dec
  have dc : d2 < c := by omega
  have ts1 := ts.kl fun j o _ z => k1 _ _ z
  refine wt__law_least_0_1 ?_
  refine wo.use (costs_ok (code := code) (tn := tn) w r ts1 (k1 _ _ h2) dc hc) fun δ U2 ⟨⟨e5', ed⟩, hc2, k2⟩ => ?_
  subst ed
  have ts2 := ts1.kl fun j o l z => k2 _ _ (by omega) z
  have h22 := k2 _ _ (by omega) (k1 _ _ h2)
  have kU2 : Keep U U2 := fun j o z => k2 _ _ (by have := lt_of z; omega) (k1 _ _ z)
  refine wt__law_least_0_2 ?_
  refine wo_set (wr_call (wr_cons (wr_lock (l := d2) (kvs := lkV E) (var_at rfl) h22 fun T3 t3 k3 hT => ?_)))
  refine wr_comp (wr_keys (wr_var rfl ⟨d2, lkV E, rfl, hT, ?_⟩))
  intro D T4 eD t4 k4 hD
  have d2D : d2 ≠ D := by have := lt_of hT; omega
  have cD : c ≠ D := by have := lt_of hc2; omega
  have hF4 := k4 _ _ hT
  have hc4 := k4 _ _ (k3 _ _ (by omega) hc2)
  rw [show (lkV E).length = ((lkV E).map Prod.fst).length from (List.length_map _).symm, lk_keys, ts.fs]
  have kl4 : ∀ {V : Sto}, KeepB D T4 V → KL d2 U2 V := fun k j o l z => k _ _ (by have := lt_of z; omega) (k4 _ _ (k3 _ _ (by omega) z))
  refine wr_cT (ws := K.map siV) (by rw [List.length_map]; omega) (fun q acc V => acc = ((K.take q).map fun x => Va.tup [siV x, .int (beN R C tn code x)]) ∧ KeepB D T4 V) ⟨rfl, KeepB.refl _ _⟩ hD (fun q v acc V hv ⟨g1, g2⟩ hV => ?_) (fun acc V ⟨g1, g2⟩ hV => ?_)
  · rw [List.getElem?_map] at hv
    obtain ⟨x, hx, rfl⟩ := Option.map_eq_some_iff.mp hv
    have xK := List.mem_of_getElem? hx
    have shx := shK x xK
    have ts4 := ts2.kl (kl4 g2)
    have fin : ∀ (V2 : Sto), Keep V V2 → V2[D]? = some (.lst acc) ∧ ∀ T, T.length = V2.length → KeepB D V2 T → T[D]? = some (.lst (acc ++ [Va.tup [siV x, .int (beN R C tn code x)]])) → (acc ++ [Va.tup [siV x, .int (beN R C tn code x)]] = ((K.take (q + 1)).map fun x => Va.tup [siV x, .int (beN R C tn code x)]) ∧ KeepB D T4 T) := fun V2 k2' => by
      refine ⟨k2' _ _ hV, fun T lT kT hT => ⟨?_, fun j o n z => kT _ _ n (k2' _ _ (g2 _ _ n z))⟩⟩
      rw [g1, List.take_succ, hx, List.map_append]
      rfl
    refine ⟨_, rfl, ?_⟩
    repeat array_get_dec
    refine wr_lix (d := d2) (E := E) (la := later C R) shx (by rw [ts.fs]; exact xK) (by rw [ts.fs]; exact r.nd) (by show dctAt _ _ = _; unfold dctAt; dsimp only; rw [g2 _ _ d2D hF4]) ts4.ls fun rr hr => ?_
    repeat array_get_dec
    intro l5 V1 e5 t5 k5 h5
    refine wr_eqE (k5 _ _ hr) h5 ?_
    by_cases ce : later C R x = []
    · rw [show ((later C R x).map siV).isEmpty = true by rw [ce]; rfl]
      repeat array_get_dec
      refine wr_iix shx xK r.nd (k5 _ _ (g2 _ _ cD hc4)) ?_
      have := fin V1 k5
      rw [show beN R C tn code x = coN R tn code x by unfold beN; rw [if_pos ce]] at this
      repeat array_get_dec
      exact this
    · rw [show ((later C R x).map siV).isEmpty = false by cases e : later C R x with | nil => exact absurd e ce | cons a b => rfl]
      have := fin V1 k5
      rw [show beN R C tn code x = 1000000 by unfold beN; rw [if_neg ce]] at this
      repeat array_get_dec
      exact this
  · rw [List.length_map, List.take_length] at g1
    refine ⟨g2 _ _ d2D hF4, fun V5 t5 k5 h5 => ?_⟩
    have Dd : D ≠ d2 := d2D.symm
    refine wr_nil (wr_dictSi (T := K.map fun x => (x, Va.int (beN R C tn code x))) (fun e he => by
      obtain ⟨x, hx, rfl⟩ := List.mem_map.mp he
      exact shK x hx) (by rw [mapf_fst]; exact r.nd) (by rw [k5 _ _ Dd hV, g1, List.map_map]; rfl) fun be V6 e6 t6 k6 h6 => ?_)
    have kU6 : Keep U2 V6 := fun j o z => k6 _ _ (by
      by_cases cj : j = d2
      · subst cj
        rw [h22] at z
        cases z
        exact h5
      · exact k5 _ _ cj (g2 _ _ (by have := lt_of z; omega) (k4 _ _ (k3 _ _ cj z))))
    have ts6 := ts2.kl fun j o _ z => kU6 _ _ z
    have h26 := kU6 _ _ h22
    have hc6 := kU6 _ _ hc2
    have V5l : U2.length ≤ V5.length := by
      have := kbLen g2 (lt_of hV)
      omega
    have cb : c ≠ be := by have := lt_of hc2; omega
    have db : d2 < be := by have := lt_of h22; omega
    refine wt__law_least_0_3 ?_
    repeat array_get_dec
    refine wr_lenDn h26 ?_
    rw [show (lkV E).length = K.length by rw [show (lkV E).length = ((lkV E).map Prod.fst).length from (List.length_map _).symm, lk_keys, ts.fs, List.length_map]]
    refine rngGo K.length rfl (by omega) ?_
    have hb6 : V6[be]? = some (.dct (iD (beN R C tn code) K)) := h6
    have bl := lt_of hb6
    refine wo_rng (fun t δ V => (∃ e5 e7, δ = C13 (csV n d lb lc) code d2 f tn e5 (some (.loc be)) e7 e8 (some (.loc c)) (some (.int 1000000)) e11 e12) ∧ (∃ h, V[be]? = some (.dct (iD h K)) ∧ QT C R K tn t h) ∧ KeepB be V6 V ∧ V6.length ≤ V.length) ⟨⟨_, _, rfl⟩, ⟨_, hb6, QT.first⟩, KeepB.refl _ _, Nat.le_refl _⟩ (fun t δ V ht ⟨⟨e5, e7, ed⟩, ⟨h, hV', q⟩, kV, lV⟩ => ?_) (fun δ V ⟨⟨e5, e7, ed⟩, ⟨h, hV', q⟩, kV, lV⟩ => ?_)
    · subst ed
      refine ⟨_, rfl, ?_⟩
      obtain ⟨P, p0, pS, pE⟩ := q.pass (code := code) r
      have tsV := ts6.kl fun j o l z => kV _ _ (by omega) z
      refine wo.use (pass_ok w r tsV (kV _ _ (by omega) h26) dc db cb (kV _ _ cb hc6) pS p0 hV') fun δ' V' ⟨⟨e5, ed'⟩, ⟨h', hh', ph⟩, kV'⟩ => ?_
      exact ⟨⟨_, _, ed'⟩, ⟨h', hh', pE h' ph⟩, fun j o n z => kV' _ _ n (kV _ _ n z), by have := kbLen kV' (lt_of hh'); omega⟩
    · subst ed
      have tsV := ts6.kl fun j o l z => kV _ _ (by omega) z
      have wV := w.keep tsV.kS
      have kUV : KeepB f U V := fun j o n z => kV _ _ (by have := lt_of (kU2 _ _ z); omega) (kU6 _ _ (kU2 _ _ z))
      have hfV : V[f]? = some (.lst fs) := kV _ _ (by have := lt_of (kU2 _ _ hf); omega) (kU6 _ _ (kU2 _ _ hf))
      refine wt__law_least_0_4 ?_
      repeat array_get_dec
      refine (starts_ok (lc := lc) w.ro.sh w.ro.nd wV.hb).use fun v V7 ⟨ls, ev, hs, k7, ll⟩ => ?_
      subst ev
      refine isqL hs ?_
      intro D7 V8 e8 t8 k8 hD7
      have nD : ls ≠ D7 := by have := lt_of hs; omega
      have sl := starts_len l36
      have hb8 := k8 _ _ (k7 _ _ hV')
      have bD : be ≠ D7 := by have := lt_of (k7 _ _ hV'); omega
      refine wr_cL (by rw [List.length_map]; omega) (fun i acc W => acc = ((starts B).take i).map (fun y => Va.int (h y)) ∧ KeepB D7 V8 W) ⟨rfl, KeepB.refl _ _⟩ hD7 (fun i acc W z => z.2 _ _ nD (k8 _ _ hs)) (fun i v acc W hv' ⟨g1, g2⟩ hW => ?_) (fun acc W ⟨g1, g2⟩ hW => ?_)
      · rw [List.getElem?_map] at hv'
        obtain ⟨y, hy, rfl⟩ := Option.map_eq_some_iff.mp hv'
        have yK := r.st y (List.mem_of_getElem? hy)
        refine ⟨_, rfl, ?_⟩
        repeat array_get_dec
        refine wr_iix (shK y yK) yK r.nd (g2 _ _ bD hb8) ?_
        refine ⟨hW, fun W2 lW kW hW2 => ⟨?_, fun j o n z => kW _ _ n (g2 _ _ n z)⟩⟩
        rw [g1, List.take_succ, hy, List.map_append]
        rfl
      · rw [List.length_map, List.take_length] at g1
        obtain ⟨x0, xs, es⟩ := List.exists_cons_of_ne_nil (starts_ne w.ro.ne)
        have hW' : W[D7]? = some (.lst ((h x0 :: xs.map h).map Va.int)) := by
          rw [hW, g1, es, List.map_cons, List.map_cons, List.map_map]
          rfl
        repeat array_get_dec
        refine wr_min1 hW' ?_
        refine wt__law_least_0_5 ?_
        have kVW : Keep V W := fun j o z => g2 _ _ (by have := lt_of (k7 _ _ z); omega) (k8 _ _ (k7 _ _ z))
        have hfW := kVW _ _ hfV
        repeat array_get_dec
        have fin : ∀ v, (tn = 0 → Due B C R K.length v) → wr (oApp (.loc f) [v] W) (fun _ S1 => (∃ a5 a6 a7 a8 a9 a10 a11 a12, C13 (csV n d lb lc) code d2 f tn e5 (some (.loc be)) e7 (some (.int ((xs.map h).foldl min (h x0)))) (some (.loc c)) (some (.int 1000000)) e11 e12 = C13 (csV n d lb lc) code d2 f tn a5 a6 a7 a8 a9 a10 a11 a12) ∧ (∃ v, S1[f]? = some (.lst (fs ++ [v])) ∧ (tn = 0 → Due B C R K.length v)) ∧ KeepB f U S1 ∧ U.length ≤ S1.length) noE := fun v hv => by
          refine wr_app hfW (by omega) fun W2 t9 k9 h9 => ?_
          exact ⟨⟨_, _, _, _, _, _, _, _, rfl⟩, ⟨v, h9, hv⟩, fun j o n z => k9 _ _ n (kVW _ _ (kUV _ _ n z)), by have := Keep.len kVW; have := Keep.len kU2; have := Keep.len kU6; omega⟩
        have due := fun e : tn = 0 => due_of (S := S) (h := h) w r es (by subst e; exact q)
        by_cases ct : 1000000 ≤ (xs.map h).foldl min (h x0)
        · rw [decide_eq_true ct]
          rw [if_pos ct] at due
          repeat array_get_dec
          exact fin _ due
        · rw [decide_eq_false ct]
          rw [if_neg ct] at due
          repeat array_get_dec
          exact fin _ due
end
section
variable {S : Sto} {g n d lb lc code : Nat} {L B : List (List Int)} {C : List (List Int × List Int)} {R : List Int → List Va}
theorem least_ok (w : World S g L n d R lb lc B C) :
    wr (m__law_least [csV n d lb lc, .int (code : Int)] S) (fun v T => ∃ l K v0 v1, v = .loc l ∧ T[l]? = some (.lst [v0, v1]) ∧ Rch n B C R K ∧ Due B C R K.length v0 ∧ Keep S T) noE := by
  refine v__law_least (wt__law_least_0 ?_)
  repeat array_get_dec
  refine (reached_ok w).use fun v T1 ⟨l, K, ev, hl, r, k1, ll⟩ => ?_
  subst ev
  have Kl := okS_len w.zs r.nd r.ok
  have shK : ∀ x ∈ K, Sh x.1 := fun x hx => w.ro.all _ ((r.ok x hx).at w.ro).1
  refine isqL hl ?_
  intro D T2 eD t2 k2 hD
  have nD : l ≠ D := by have := lt_of hl; omega
  refine wr_cL (by rw [List.length_map]; omega) (fun q acc V => (∃ E : Lk', acc = (E.map fun e => Va.tup [siV e.1, .loc e.2]) ∧ E.map Prod.fst = K.take q ∧ (∀ e ∈ E, e.2 ≠ D ∧ V[e.2]? = some (.lst ((later C R e.1).map siV)))) ∧ KeepB D T2 V) ⟨⟨[], rfl, rfl, (fun e h => nomatch h)⟩, KeepB.refl _ _⟩ hD (fun q acc V z => z.2 _ _ nD (k2 _ _ hl)) (fun q v acc V hv ⟨⟨E, g1, gE, gl⟩, g2⟩ hV => ?_) (fun acc V ⟨⟨E, g1, gE, gl⟩, g2⟩ hV => ?_)
  · rw [List.getElem?_map] at hv
    obtain ⟨x, hx, rfl⟩ := Option.map_eq_some_iff.mp hv
    obtain ⟨xo, xm, xn⟩ := (r.ok x (List.mem_of_getElem? hx)).at w.ro
    have kSV : Keep S V := fun j o z => g2 _ _ (by have := lt_of (k1 _ _ z); omega) (k2 _ _ (k1 _ _ z))
    have wV := w.keep kSV
    refine ⟨_, rfl, ?_⟩
    repeat array_get_dec
    refine (later_ok (lc := lc) (lb := lb) (g := x.2.1) (w.ro.all _ xo) (w.on _ xo) wV.ri.di (w.ri.ro _ (w.on _ xo)) xn w.ro.ch w.ro.few wV.hc).use fun v V2 ⟨l4, ev, h4, k4, n4, z4⟩ => ?_
    subst ev
    repeat array_get_dec
    refine ⟨k4 _ _ hV, fun T lT kT hT => ⟨⟨E ++ [(x, l4)], ?_, ?_, fun e he => ?_⟩, fun j o n z => kT _ _ n (k4 _ _ (g2 _ _ n z))⟩⟩
    · rw [g1, List.map_append]; rfl
    · rw [List.map_append, gE, List.take_succ, hx]; rfl
    · have DV := lt_of hV
      rcases List.mem_append.mp he with z | z
      · obtain ⟨a, b⟩ := gl e z
        exact ⟨a, kT _ _ a (k4 _ _ b)⟩
      · rw [List.mem_singleton.mp z]
        have : l4 ≠ D := by omega
        exact ⟨this, kT _ _ this h4⟩
  · rw [List.length_map, List.take_length] at gE
    have kSV : Keep S V := fun j o z => g2 _ _ (by have := lt_of (k1 _ _ z); omega) (k2 _ _ (k1 _ _ z))
    repeat array_get_dec
    refine wr_dictSi (T := E.map fun e : Si × Nat => (e.1, Va.loc e.2)) (fun e he => ?_) (by rw [lk_fst, gE]; exact r.nd) (by rw [hV, g1, List.map_map]; rfl) fun d2 T3 e3 t3 k3 h3 => ?_
    · obtain ⟨y, hy, rfl⟩ := List.mem_map.mp he
      exact shK _ (by rw [← gE]; exact List.mem_map.mpr ⟨y, hy, rfl⟩)
    · have h2 : T3[d2]? = some (.dct (lkV E)) := h3
      have ts : TS S d2 C R K E T3 := ⟨fun j o z => k3 _ _ (kSV _ _ z), by have := Keep.len kSV; omega, gE, fun e he => by have := lt_of (gl e he).2; omega, fun e he => k3 _ _ (gl e he).2⟩
      refine wt__law_least_1 ?_
      repeat array_get_dec
      intro f T4 e4 t4 k4 hf
      have h24 := k4 _ _ h2
      have df : d2 < f := by have := lt_of h2; omega
      refine wt__law_least_2 ?_
      repeat array_get_dec
      refine rngGo 2 rfl (by decide) ?_
      refine wo_rng (fun q δ U => (∃ e4 e5 e6 e7 e8 e9 e10 e11 e12, δ = [some (csV n d lb lc), some (.int (code : Int)), some (.loc d2), some (.loc f), e4, e5, e6, e7, e8, e9, e10, e11, e12]) ∧ (∃ fs, U[f]? = some (.lst fs) ∧ fs.length = q ∧ (1 ≤ q → ∃ v0 fs', fs = v0 :: fs' ∧ Due B C R K.length v0)) ∧ KeepB f T4 U) ⟨⟨_, _, _, _, _, _, _, _, _, rfl⟩, ⟨[], hf, rfl, fun z => absurd z (by omega)⟩, KeepB.refl _ _⟩ (fun q δ U hq ⟨⟨e4, e5, e6, e7, e8, e9, e10, e11, e12, ed⟩, ⟨fs, q1, q2, q3⟩, kU⟩ => ?_) (fun δ U ⟨⟨e4, e5, e6, e7, e8, e9, e10, e11, e12, ed⟩, ⟨fs, q1, q2, q3⟩, kU⟩ => ?_)
      · subst ed
        refine ⟨_, rfl, ?_⟩
        rw [show (0 : Int) + (q : Int) = (q : Int) by omega]
        have tsU := (ts.kl fun j o _ z => k4 _ _ z).kl (V := U) fun j o l z => kU _ _ (by omega) z
        refine wo.use (turn_ok (tn := q) w r tsU (kU _ _ (by omega) h24) df q1 (by omega)) fun δ' V ⟨⟨_, _, _, _, _, _, _, _, e⟩, ⟨v, hv, dv⟩, kV, lV⟩ => ?_
        refine ⟨⟨_, _, _, _, _, _, _, _, _, e⟩, ⟨_, hv, by rw [List.length_append, q2]; rfl, fun _ => ?_⟩, fun j o n z => kV _ _ n (kU _ _ n z)⟩
        by_cases c : q = 0
        · have : fs = [] := List.eq_nil_of_length_eq_zero (q2.trans c)
          exact ⟨v, [], by rw [this]; rfl, dv c⟩
        · obtain ⟨v0, fs', e1, e2⟩ := q3 (by omega)
          exact ⟨v0, fs' ++ [v], by rw [e1]; rfl, e2⟩
      · subst ed
        refine wt__law_least_3 ?_
        repeat array_get_dec
        obtain ⟨v0, fs', e1, e2⟩ := q3 (by decide)
        have l1 : fs'.length = 1 := by rw [e1, List.length_cons] at q2; omega
        obtain ⟨v1, fs'', e3'⟩ := List.exists_cons_of_length_pos (show 0 < fs'.length by omega)
        have : fs'' = [] := List.eq_nil_of_length_eq_zero (by rw [e3', List.length_cons] at l1; omega)
        refine ⟨f, K, v0, v1, rfl, by rw [q1, e1, e3', this], r, e2, fun j o z => kU _ _ (by have := lt_of (ts.kS _ _ z); omega) (k4 _ _ (ts.kS _ _ z))⟩
theorem done_ok {l : Nat} {W : List Si} {x : Si} (w : World S g L n d R lb lc B C) (wk : Walk B C R W) (hx : W.getLast? = some x) (hn : later C R x = []) (lz : W.length ≤ 2000) (hl : S[l]? = some (.lst (W.map fun x => spV (paO x)))) :
    wr (m__law_is_done [csV n d lb lc, .loc l] S) (fun v T => v = .bl true ∧ Keep S T) noE := by
  have ne : W ≠ [] := fun z => by rw [z] at hx; cases hx
  have n0 := List.length_pos_iff.mpr ne
  have gx : W[W.length - 1]? = some x := by rw [← List.getLast?_eq_getElem?]; exact hx
  obtain ⟨xo, xm, xn⟩ := wk.good w.ro w.n1 (fun s hs => w.ri.ro s (w.on s hs)) _ x gx
  refine v__law_is_done (wt__law_is_done_0 ?_)
  repeat array_get_dec
  refine (situations_ok w wk ne lz hl).use fun v T ⟨f, ev, hf, k1, lf⟩ => ?_
  subst ev
  have w1 := w.keep k1
  refine wt__law_is_done_1 ?_
  repeat array_get_dec
  refine wr_ixL hf (w := siV x) (atI_last (by rw [List.length_map]; exact n0) (by rw [List.getElem?_map, List.length_map, gx]; rfl)) ?_
  repeat array_get_dec
  refine (later_ok (lc := lc) (lb := lb) (g := x.2.1) (w.ro.all _ xo) (w.on _ xo) w1.ri.di (w.ri.ro _ (w.on _ xo)) xn w.ro.ch w.ro.few w1.hc).use fun v V2 ⟨l4, ev, h4, k4, n4, z4⟩ => ?_
  subst ev
  repeat array_get_dec
  intro l5 V3 e5 t5 k5 h5
  have h4' : V2[l4]? = some (.lst []) := by rw [h4]; show some (Ob.lst ((later C R x).map siV)) = _; rw [hn]; rfl
  refine wr_eqE (k5 _ _ h4') h5 ?_
  exact ⟨rfl, fun j o z => k5 _ _ (k4 _ _ (k1 _ _ z))⟩
end
theorem rule_of_new {L : List (List Int)} (sh : ∀ s ∈ L, Sh s) (nd : L.Nodup) (ne : L ≠ []) {n : Nat} {R : List Int → List Va} (n1 : 1 ≤ n) (n64 : n ≤ 64) (ro : ∀ s ∈ L, RowOk n s (R s)) {S : Sto} {d : Nat} (hD : DInv S d L R) : ∃ T, m__law_rule_of [.tup [.int (n : Int), .loc d]] S = .ok (.loc S.length) T ∧ RuleAt T S.length L n R ∧ Keep S T := by
  have l36 := Sh.len36 sh nd
  have := ok_ex (r := m__law_rule_of [.tup [.int (n : Int), .loc d]] S) (P := fun v T => v = .loc S.length ∧ RuleAt T S.length L n R ∧ Keep S T) (by
    refine w__law_rule_of ?_
    repeat array_get_dec
    refine newGo' rfl (init_ok sh nd ne (by omega) n1 n64 ro hD) fun T ⟨h1, h2⟩ => ?_
    exact ⟨rfl, h1, h2⟩)
  obtain ⟨v, T, e, rfl, h1, h2⟩ := this
  exact ⟨T, e, h1, h2⟩
theorem road_of_new {S : Sto} {l q : Nat} {B : List (List Int)} {C : List (List Int × List Int)} (ok : RoadOk B C) (hl : S[l]? = some (.lst (B.map tI'))) (hq : S[q]? = some (.lst (C.map cI))) : ∃ i T, m__law_road_of [road2 l q] S = .ok (.loc i) T ∧ RoadAt T i B C ∧ Keep S T ∧ S.length ≤ i := by
  obtain ⟨i, T, e, r, k, ln, _⟩ := made_ok ok (as := acons (xbin oIx (xvar 0) (xlit (.int 0))) (acons (xbin oIx (xvar 0) (xlit (.int 1))) anil)) (δ := [some (road2 l q)]) (S0 := S) (cons_at (bin_at (var_at rfl) lit_at (ixT_at rfl)) (one_at (bin_at (var_at rfl) lit_at (ixT_at rfl)))) hl hq
  refine ⟨i, T, ?_, r, k, ln⟩
  show (b__law_road_of [some (road2 l q)] S).fin = _
  have : b__law_road_of [some (road2 l q)] S = .rt (.loc i) T := by
    unfold b__law_road_of
    exact ret_at e
  rw [this]
  rfl
theorem repr_i {k : Nat} (h : k < 100000) (T : Sto) : fReprY [.int (k : Int)] T = .ok (.str (PyData.int (k : Int)).shown) T :=
  fReprY_eq (d := .int (k : Int)) rfl (by simp only [okY, decide_eq_true_eq]; exact log2_small (by omega)) (by simp only [szY]; split <;> omega) (by simp [PyData.depth])
abbrev sit (q : St) : Si := (q.1, false, q.2)
section
variable {S : Sto} {i j g n d lb lc : Nat} {L B : List (List Int)} {C : List (List Int × List Int)} {R : List Int → List Va}
theorem chn_walk {p : List St} {q : St} (h : Chn (bh C R) (bq B) p q) : Walk B C R (p.map sit) ∧ (p.map sit).getLast? = some (sit q) := by
  induction h with
  | @one q hq =>
    refine ⟨?_, rfl⟩
    have := (Walk.nil (B := B) (C := C) (R := R)).snoc (x := sit q) (starts_mem'.mpr ⟨hq, mv_f _⟩)
    exact this
  | @snoc p q t hp ht ih =>
    rw [List.map_append]
    refine ⟨ih.1.snoc ?_, List.getLast?_concat⟩
    unfold fit
    rw [ih.2]
    exact later_mem'.mpr ⟨ht, mv_f _⟩
theorem eqP_ok {i2 j2 : Nat} (w : World S g L n d R lb lc B C) {T : Sto} (hi : RuleAt T i L n R) (hi2 : RuleAt T i2 L n R) (hj : RoadAt T j B C) (hj2 : RoadAt T j2 B C) (ni : i ≠ i2) (nj : j ≠ j2) : cEqP 40 m_Rule___eq__ 41 m_Road___eq__ (.tup [.loc i, .loc j]) (.tup [.loc i2, .loc j2]) T = .ok true T := by
  have e1 := (eqO_rules w.nd hi hi2 w.ri.ro (fun _ _ => rfl) rfl).1
  obtain ⟨t, e2, _, it⟩ := eqO_at w.ro w.ro hj hj2
  have tt : t = true := it.mpr ⟨List.Perm.refl _, List.Perm.refl _⟩
  subst tt
  obtain ⟨D2, P2, a1, _⟩ := hi2.ex
  obtain ⟨x, y, z, b1, _⟩ := id hj2
  have i1 : (insAt 40 (.loc i2) T).isSome = true := by unfold insAt; dsimp only; rw [a1]; rfl
  have i2' : (insAt 41 (.loc j2) T).isSome = true := by unfold insAt; dsimp only; rw [b1]; rfl
  unfold cEqP
  dsimp only
  rw [decide_eq_true ⟨ni, nj⟩, i1]
  simp only [Bool.and_self, cond_true]
  rw [e1]
  dsimp only
  rw [i2']
  simp only [cond_true]
  rw [e2]
theorem right_ok (w : World S g L n d R lb lc B C) (hi : RuleAt S i L n R) (hj : RoadAt S j B C) (lL : L.length ≤ 5) :
    wr (m__law_right [.tup [.loc i, .loc j], csV n d lb lc] S) (fun v T => v = .bl true ∧ Keep S T) noE := by
  have z := w.zs
  have inv : ∀ {i : Nat} {Q : List Pe}, PR (bh C R) (glE (zOf n B C) C R) (bq B) i Q → (Q.map Prod.fst).Nodup := fun re => (re.inv (G := fun q => q ∈ zOf n B C) (bq_nd w.ro.nd) z.bg z.cl).2.1
  have inZ : ∀ c q, Chn (bh C R) (bq B) c q → q ∈ zOf n B C := fun c q h => by
    induction h with
    | one hq => exact z.bg _ hq
    | snoc hp ht ih => exact z.cl _ ih _ ht
  have zl : (zOf n B C).length ≤ 320 := by
    have l1 : (shs B C).length ≤ L.length := nd_len _ _ (shs_nd B C (shs_ok w.ro).1) fun s hs => w.on s (((shs_ok w.ro).2.2 s).mp hs)
    rw [show (zOf n B C).length = n * (shs B C).length from sts_len n _]
    exact Nat.mul_le_mul w.n64 (Nat.le_trans l1 lL)
  refine v__law_right (wt__law_right_0 ?_)
  repeat array_get_dec
  refine (least_ok (code := 0) w).use fun v T1 ⟨l, K, v0, v1, ev, hl, r, due, k1⟩ => ?_
  subst ev
  have inK : ∀ c q, Chn (bh C R) (bq B) c q → (q.1, false, q.2) ∈ K := fun c q h => by
    induction h with
    | one hq => exact r.st _ (starts_mem'.mpr ⟨hq, mv_f _⟩)
    | @snoc p q t hp ht ih => exact r.cl _ ih _ (later_mem'.mpr ⟨ht, mv_f _⟩)
  have hg2 : ∀ c q, Chn (bh C R) (bq B) c q → bh C R q = [] → glE (zOf n B C) C R q = true := fun c q h e => glE_iff.mpr ⟨inZ c q h, e⟩
  have hg : ∀ q, glE (zOf n B C) C R q = true → bh C R q = [] := fun q h => (glE_iff.mp h).2
  repeat array_get_dec
  refine wt__law_right_1 ?_
  repeat array_get_dec
  refine rngGo 2 rfl (by decide) ?_
  refine wo_rng (fun q δ U => (∃ e3 e4, δ = [some (.tup [.loc i, .loc j]), some (csV n d lb lc), some v0, e3, e4]) ∧ Keep T1 U) ⟨⟨_, _, rfl⟩, Keep.refl _⟩ (fun q δ U hq ⟨⟨e3, e4, ed⟩, kU⟩ => ?_) (fun δ U ⟨⟨e3, e4, ed⟩, kU⟩ => ?_)
  · subst ed
    refine ⟨_, rfl, ?_⟩
    have kSU : Keep S U := fun x o y => kU _ _ (k1 _ _ y)
    refine vl__law_right_0 (wt__law_right_0_0 ?_)
    repeat array_get_dec
    refine (fewest_ok w.sh w.nd w.n1 w.n64 w.ri.ro (hi.keep kSU) w.ro (hj.keep kSU) w.on).use fun v U2 ⟨rr, res, fv, lp, k2⟩ => ?_
    have kSU2 : Keep S U2 := fun x o y => k2 _ _ (kSU _ _ y)
    have k12 : Keep T1 U2 := fun x o y => k2 _ _ (kU _ _ y)
    refine wt__law_right_0_1 ?_
    cases rr with
    | none =>
      have e0 := due_none hg2 inv res due
      subst e0
      cases fv
      repeat array_get_dec
      refine wt__law_right_0_2 ?_
      repeat array_get_dec
      exact ⟨⟨_, _, rfl⟩, k12⟩
    | some p =>
      have pz := lp p rfl
      have pz' : p.length ≤ 321 := Nat.le_trans pz (by have : (sts n (shs B C)).length ≤ 320 := zl; omega)
      have e0 := due_some hg hg2 inv res (res.len inv inK) due
      subst e0
      obtain ⟨lf, rfl, nl, hl2⟩ := fv
      obtain ⟨⟨q0, hc, hq0⟩, _⟩ := res.short inv
      obtain ⟨wk, hlast⟩ := chn_walk hc
      have hl2' : U2[lf]? = some (.lst ((p.map sit).map fun x => spV (paO x))) := by rw [hl2, List.map_map]; rfl
      have w2 := w.keep kSU2
      repeat array_get_dec
      refine wt__law_right_0_2 ?_
      repeat array_get_dec
      refine wr_of (repr_i (by omega) _) ?_
      repeat array_get_dec
      refine wr_of (repr_i (by omega) _) ?_
      refine wr_ne (wr_of (cEq_str _ _ _) ?_)
      rw [decide_eq_true rfl]
      refine bif_cf rfl ?_
      repeat array_get_dec
      refine (done_ok w2 wk hlast (later_nil'.mpr (hg q0 hq0)) (by rw [List.length_map]; omega) hl2').use fun v U3 ⟨ev, k3⟩ => ?_
      subst ev
      repeat array_get_dec
      rw [List.length_map, List.length_map]
      rw [decide_eq_true rfl]
      repeat array_get_dec
      refine wr_app (k3 _ _ hl2') (by rw [List.length_map, List.length_map]; omega) fun U4 t4 k4 h4 => ?_
      exact ⟨⟨_, _, rfl⟩, fun x o y => k4 _ _ (by have := lt_of (kU _ _ y); omega) (k3 _ _ (k12 _ _ y))⟩
  · subst ed
    have kSU : Keep S U := fun x o y => kU _ _ (k1 _ _ y)
    refine wt__law_right_2 ?_
    repeat array_get_dec
    have wU := w.keep kSU
    obtain ⟨V1, a1, a2, a3⟩ := rule_of_new w.sh w.nd w.ne w.n1 w.n64 w.ri.ro wU.ri.di
    refine wr_of a1 ?_
    repeat array_get_dec
    have wV := wU.keep a3
    obtain ⟨j2, V2, b1, b2, b3, b4⟩ := road_of_new w.ro wV.hb wV.hc
    refine wr_of b1 ?_
    repeat array_get_dec
    have kSV : Keep S V2 := fun x o y => b3 _ _ (a3 _ _ (kSU _ _ y))
    have li : i < S.length := by
      obtain ⟨D, P, x, _⟩ := hi.ex
      exact lt_of x
    have lj : j < S.length := by
      obtain ⟨x, y, z, h, _⟩ := id hj
      exact lt_of h
    have l1 := Keep.len kSU
    have l2 := Keep.len a3
    refine wr_of (eqP_ok w (hi.keep kSV) (a2.keep b3) (hj.keep kSV) b2 (by omega) (by omega)) ?_
    exact ⟨rfl, kSV⟩
end
section
variable {S : Sto} {p m : Nat}
theorem case_ok (hm : m + 6000000 < 4294967296) (pn : Pen S p m) :
    wr (m__law_case [.loc p] S) (fun v T => ∃ (L : List (List Int)) (n d : Nat) (R : List Int → List Va) (lb lc : Nat) (B : List (List Int)) (C : List (List Int × List Int)), v = csV n d lb lc ∧ World T 5 L n d R lb lc B C ∧ L.length ≤ 5 ∧ Pen T p (m + 5000000) ∧ KeepB p S T) noE := by
  refine v__law_case (wt__law_case_0 ?_)
  repeat array_get_dec
  obtain ⟨w0, S1, c1, c2, c3, p1, k1⟩ := draw_ok p m (by omega) S pn 6 (by decide) (by decide)
  refine wr_of c1 ?_
  repeat array_get_dec
  generalize hwide : decide (w0 = 0) = wide
  refine wt__law_case_1 ?_
  -- shapes
  have gg : ∃ g : Nat, g < 6 ∧ ∀ (N : Rz.Env → Sto → Prop) (K : Ke) (δ : Rz.Env) (P : List (List Int)) (q : Nat), True := ⟨5, by decide, fun _ _ _ _ _ => trivial⟩
  suffices key : ∀ (g : Nat) (P : List (List Int)) (q1 : Nat) (U1 : Sto), g ≤ 5 → U1[q1]? = some (.lst (P.map tI')) → P ≠ [] → (∀ s ∈ P, Sh s) → P.Nodup → P.length ≤ 3 → (∀ s ∈ P, ∀ i ∈ s, i ≤ (g : Int)) → Pen U1 p (m + 1 + 2002) → KeepB p S1 U1 →
      wo (t__law_case_2 [some (.loc p), some (.bl wide), some (.loc q1), none] U1) (fun x S1 => ∃ (L : List (List Int)) (n d : Nat) (R : List Int → List Va) (lb lc : Nat) (B : List (List Int)) (C : List (List Int × List Int)), Va.non = csV n d lb lc ∧ World S1 5 L n d R lb lc B C ∧ L.length ≤ 5 ∧ Pen S1 p (m + 5000000) ∧ KeepB p S S1) (fnK (fun v T => ∃ (L : List (List Int)) (n d : Nat) (R : List Int → List Va) (lb lc : Nat) (B : List (List Int)) (C : List (List Int × List Int)), v = csV n d lb lc ∧ World T 5 L n d R lb lc B C ∧ L.length ≤ 5 ∧ Pen T p (m + 5000000) ∧ KeepB p S T) noE) by
    cases wide with
    | true =>
      repeat array_get_dec
      obtain ⟨q1, U1, P, a1, a2, a3, a4, a5, a6, a7, a8, a9, a10⟩ := shapes_g (g := 5) (most := 3) (by decide) (by decide) p (m + 1) (by omega) S1 p1
      refine wr_of a1 ?_
      exact key 5 P q1 U1 (by decide) a2 a3 a4 a5 (by omega) a7 a8 a9
    | false =>
      repeat array_get_dec
      obtain ⟨q1, U1, P, a1, a2, a3, a4, a5, a6, a7, a8, a9, a10⟩ := shapes_g (g := 2) (most := 3) (by decide) (by decide) p (m + 1) (by omega) S1 p1
      refine wr_of a1 ?_
      exact key 2 P q1 U1 (by decide) a2 a3 a4 a5 (by omega) a7 a8 a9
  intro g P q1 U1 hg a2 a3 a4 a5 lP a7 a8 a9
  have nl : q1 ≠ p := a8.ne a2 (tI_nl P)
  refine wt__law_case_2 ?_
  suffices key2 : ∀ (n d : Nat) (R : List Int → List Va) (T : Sto), 1 ≤ n → n ≤ 64 → RI T d P n R → Pen T p (m + 4700000) → KeepB p U1 T →
      wo (t__law_case_3 [some (.loc p), some (.bl wide), some (.loc q1), some (here n d)] T) (fun x S1 => ∃ (L : List (List Int)) (n d : Nat) (R : List Int → List Va) (lb lc : Nat) (B : List (List Int)) (C : List (List Int × List Int)), Va.non = csV n d lb lc ∧ World S1 5 L n d R lb lc B C ∧ L.length ≤ 5 ∧ Pen S1 p (m + 5000000) ∧ KeepB p S S1) (fnK (fun v T => ∃ (L : List (List Int)) (n d : Nat) (R : List Int → List Va) (lb lc : Nat) (B : List (List Int)) (C : List (List Int × List Int)), v = csV n d lb lc ∧ World T 5 L n d R lb lc B C ∧ L.length ≤ 5 ∧ Pen T p (m + 5000000) ∧ KeepB p S T) noE) by
    cases wide with
    | true =>
      repeat array_get_dec
      refine (law_drawn_ok (most := 3) a4 a5 (m := m + 1 + 2002) (by omega) a8 a2 (by decide) (by decide)).use fun v T ⟨n, d, R, ev, x1, x2, x3, x4, x5, x6, x7⟩ => ?_
      subst ev
      have hb : 2004 * n * P.length ≤ 2004 * 64 * 36 := Nat.mul_le_mul (Nat.mul_le_mul_left _ (by omega)) (by omega)
      exact key2 n d R T x1 (by omega) ⟨x3, x4, x5⟩ (x6.mono (by omega)) x7
    | false =>
      repeat array_get_dec
      refine (law_rule_ok (most := 5) a4 a5 a3 (m := m + 1 + 2002) (by omega) a8 a2 (by decide) (by decide)).use fun v T ⟨n, d, R, ev, x1, x2, x3, x4, x5, x6⟩ => ?_
      subst ev
      exact key2 n d R T x1 x2 x4 (x5.mono (by omega)) x6
  intro n d R T n1 n64 ri pT kT
  have hP := kT _ _ nl a2
  have kST : KeepB p S T := fun x o y z => kT _ _ y (a9 _ _ y (k1 _ _ y z))
  refine wt__law_case_3 ?_
  repeat array_get_dec
  obtain ⟨b, T2, ws, rest, s1, s2, s3, s4, s5, s6, s7⟩ := some_ok (pool := P.map tI') (by rw [List.length_map]; omega) p (m + 4700000) (by omega) T pT q1 hP 3 (by decide) (by decide)
  obtain ⟨B', rfl, ndB, inB⟩ := part_of tI_inj s3 a5
  refine wr_of s1 ?_
  refine wr_trL s2 ?_
  have ri2 := ri.pen pT s6
  have hP2 := s6 _ _ nl hP
  suffices key3 : ∀ (B' : List (List Int)) (b : Nat) (T3 : Sto), B' ≠ [] → B'.Nodup → (∀ s ∈ B', s ∈ P) → B'.length ≤ 5 → T3[b]? = some (.lst (B'.map tI')) → Keep T2 T3 →
      wr (m__law_road [.loc p, .loc b, .int 5] T3) (fun us S3 => wr (anil [some (.loc p), some (.bl wide), some (.loc q1), some (here n d)] S3) (fun us_1 S4 => TupGo (here n d :: us :: us_1) S4 ((fnK (fun v T => ∃ (L : List (List Int)) (n d : Nat) (R : List Int → List Va) (lb lc : Nat) (B : List (List Int)) (C : List (List Int × List Int)), v = csV n d lb lc ∧ World T 5 L n d R lb lc B C ∧ L.length ≤ 5 ∧ Pen T p (m + 5000000) ∧ KeepB p S T) noE).rt)) noE) noE by
    cases B' with
    | nil =>
      refine bif_cf rfl ?_
      repeat array_get_dec
      refine wr_part ?_
      repeat array_get_dec
      refine ⟨_, rfl, ?_⟩
      refine wr_cut hP2 (by rw [List.length_map]; omega) fun b2 T3 e3 t3 k3 h3 => ?_
      repeat array_get_dec
      obtain ⟨s0, r0, eP⟩ := List.exists_cons_of_ne_nil a3
      refine key3 [s0] b2 T3 (by simp) (by simp) (fun s hs => by rw [List.mem_singleton.mp hs, eP]; exact List.mem_cons_self) (by simp) (by rw [h3, cut1, eP]; rfl) k3
    | cons s0 r0 =>
      refine bif_ct rfl ?_
      repeat array_get_dec
      exact key3 (s0 :: r0) b T2 (by simp) ndB inB (by have := nd_len _ P ndB inB; omega) s2 (Keep.refl _)
  intro B' b T3 neB ndB inB lB hB k3
  have p3 : Pen T3 p (m + 4700000 + 2001) := s5.keep k3
  obtain ⟨lb, lc, U, B, C, r1, r2, r3, r4, r5, r6, r7, r8, r9⟩ := road_g (most := 5) (by decide) p (m + 4700000 + 2001) (by omega) T3 p3 neB (fun s hs => a4 s (inB s hs)) ndB lB b hB
  refine wr_of r1 ?_
  refine wr_nil (tupGo (by simp) ?_)
  have riU := (ri2.keep k3).pen p3 r9
  refine ⟨P, n, d, R, lb, lc, B, C, rfl, ⟨a3, a4, a5, fun s hs i hi => Int.le_trans (a7 s hs i hi) (by omega), n1, n64, riU, r2, r3, r4, fun s hs => inB s (r5 s hs), fun c hc => ⟨inB _ (r7 c hc).1, inB _ (r7 c hc).2⟩⟩, by omega, r8.mono (by omega), fun x o y z => r9 _ _ y (k3 _ _ (s6 _ _ y (kST _ _ y z)))⟩
end
theorem cut_map (xs : List Int) (lo hi : Option Int) : ∃ ys : List Int, cutA (xs.map Va.int) lo hi = ys.map Va.int ∧ ys.length ≤ xs.length := by
  unfold cutA
  rw [List.length_map, ← List.map_drop, ← List.map_take]
  exact ⟨_, rfl, by rw [List.length_take, List.length_drop]; omega⟩
theorem pen_ok (xs : List Int) (hx : xs.length ≤ 63) : ∃ (p : Nat) (S' : Sto), m__law_pen [.loc 0] [.frl (xs.map .int)] = .ok (.loc p) S' ∧ Pen S' p 0 := by
  obtain ⟨ys, e, hy⟩ := cut_map xs none (some 60)
  have q1 : xslice (xvar 0) xnop (xpart (xlit (.int 60))) [some (.loc 0)] [Ob.frl (xs.map .int)] = .ok (.loc 1) [Ob.frl (xs.map .int), .lst (ys.map .int)] := by
    show llst (cutA (xs.map Va.int) none (some 60)) [Ob.frl (xs.map .int)] = _
    rw [e, llst_eq _ (by rw [List.length_map]; omega)]
    rfl
  have q2 : fList [.loc 1] [Ob.frl (xs.map .int), .lst (ys.map .int)] = .ok (.loc 2) [Ob.frl (xs.map .int), .lst (ys.map .int), .lst (ys.map .int)] := by
    show llst (ys.map Va.int) [Ob.frl (xs.map .int), .lst (ys.map .int)] = _
    rw [llst_eq _ (by rw [List.length_map]; omega)]
    rfl
  refine ⟨3, [Ob.frl (xs.map .int), .lst (ys.map .int), .lst (ys.map .int), .lst [.loc 2, .int 0, .int 0]], ?_, 2, ys, 0, 0, by decide, rfl, rfl, by omega, by omega⟩
  show (b__law_pen [some (.loc 0)] [Ob.frl (xs.map .int)]).fin = _
  have q : b__law_pen [some (.loc 0)] [Ob.frl (xs.map .int)] = .rt (.loc 3) [Ob.frl (xs.map .int), .lst (ys.map .int), .lst (ys.map .int), .lst [.loc 2, .int 0, .int 0]] := by
    unfold b__law_pen
    exact ret_at (lst_at (us := [.loc 2, .int 0, .int 0]) (cons_at (call_at (one_at q1) q2) (cons_at lit_at (one_at lit_at))) (by simp))
  rw [q]
  rfl
theorem dinv_1 {S : Sto} {d r : Nat} {ws : List Va} {x : List Int} (hd : S[d]? = some (.dct [(tI' x, .loc r)])) (hr : S[r]? = some (.lst ws)) : DInv S d [x] (fun _ => ws) := by
  have e : ∀ s : List Int, valD [(tI' x, Va.loc r)] (keyS s) = if x = s then some (.loc r) else none := fun s => by
    have := valD_app [] x s (.loc r)
    rw [List.nil_append] at this
    rw [this]
    rfl
  refine ⟨_, hd, rfl, fun s hs => ?_, fun s hs => ?_⟩
  · rw [e, if_pos (List.mem_singleton.mp hs).symm]
    exact ⟨r, fun e => (by rw [e, hd] at hr; cases hr), rfl, hr⟩
  · rw [e, if_neg fun e => hs (by rw [← e]; exact List.mem_singleton.mpr rfl)]

def LastOk (S : Sto) (v : Va) : Prop := v = .non ∨ ∃ (L : List (List Int)) (n d : Nat) (R : List Int → List Va) (lb lc : Nat) (B : List (List Int)) (C : List (List Int × List Int)) (i j : Nat), v = .tup [.tup [.loc i, .loc j], csV n d lb lc] ∧ World S 5 L n d R lb lc B C ∧ RuleAt S i L n R ∧ RoadAt S j B C ∧ L.length ≤ 5
theorem LastOk.pen {S T : Sto} {p m : Nat} {v : Va} (h : LastOk S v) (pn : Pen S p m) (k : KeepB p S T) : LastOk T v := by
  rcases h with e | ⟨L, n, d, R, lb, lc, B, C, i, j, e, w, hi, hj, lL⟩
  · exact .inl e
  · exact .inr ⟨L, n, d, R, lb, lc, B, C, i, j, e, w.pen pn k, hi.pen pn k w.ri.ro, hj.pen pn k, lL⟩
abbrev F6 (e0 e1 e2 e3 e4 e5 : Option Va) : Rz.Env := [e0, e1, e2, e3, e4, e5]
section
variable {S : Sto} {p m : Nat} {d0 d3 d4 d5 : Option Va} {last : Va}
theorem outer_ok (hm : m + 6000000 < 4294967296) (pn : Pen S p m) (hl : LastOk S last) :
    wo (l_law_0 (F6 d0 (some (.loc p)) (some last) d3 d4 d5) S) (fun δ T => (∃ last d3 d4 d5, δ = F6 d0 (some (.loc p)) (some last) d3 d4 d5 ∧ LastOk T last) ∧ Pen T p (m + 5000000)) noK := by
  refine vl_law_0 (wt_law_0_0 ?_)
  repeat array_get_dec
  refine (case_ok hm pn).use fun v T ⟨L, n, d, R, lb, lc, B, C, ev, w, lL, pT, kT⟩ => ?_
  subst ev
  have hlT := hl.pen pn kT
  repeat array_get_dec
  refine wt_law_0_1 ?_
  repeat array_get_dec
  obtain ⟨i, T1, a1, a2, k1⟩ := rule_of_ok w.sh w.nd w.ne w.n1 w.n64 w.ri.ro w.ri.di
  refine wr_of a1 ?_
  repeat array_get_dec
  obtain ⟨j, T2, b1, b2, k2⟩ := road_of_ok w.ro (k1 _ _ w.hb) (k1 _ _ w.hc)
  refine wr_of b1 ?_
  repeat array_get_dec
  have k02 : Keep T T2 := fun x o y => k2 _ _ (k1 _ _ y)
  have w2 := w.keep k02
  have hi2 : RuleAt T2 i L n R := a2.keep k2
  refine wt_law_0_2 ?_
  refine wo_if (wr_or (wr_not (wr_tru ?_)))
  repeat array_get_dec
  refine (right_ok w2 hi2 b2 lL).use fun v T3 ⟨ev, k3⟩ => ?_
  subst ev
  have k03 : Keep T T3 := fun x o y => k3 _ _ (k02 _ _ y)
  have fin : ∀ V, Keep T3 V → wo (t_law_0_3 (F6 d0 (some (.loc p)) (some last) d3 (some (csV n d lb lc)) (some (.tup [.loc i, .loc j]))) V) (fun δ T => (∃ last d3 d4 d5, δ = F6 d0 (some (.loc p)) (some last) d3 d4 d5 ∧ LastOk T last) ∧ Pen T p (m + 5000000)) noK := fun V kV => by
    refine wt_law_0_3 ?_
    repeat array_get_dec
    have kTV : Keep T V := fun x o y => kV _ _ (k03 _ _ y)
    have k2V : Keep T2 V := fun x o y => kV _ _ (k3 _ _ y)
    exact ⟨⟨_, _, _, _, rfl, .inr ⟨L, n, d, R, lb, lc, B, C, i, j, rfl, w.keep kTV, hi2.keep k2V, b2.keep k2V, lL⟩⟩, pT.keep kTV⟩
  repeat array_get_dec
  rcases hlT with rfl | ⟨L', n', d', R', lb', lc', B', C', i', j', rfl, w', hi', hj', lL'⟩
  · repeat array_get_dec
    exact fin T3 (Keep.refl _)
  · repeat array_get_dec
    refine (right_ok (w'.keep k03) (hi'.keep k03) (hj'.keep k03) lL').use fun v T4 ⟨ev, k4⟩ => ?_
    subst ev
    repeat array_get_dec
    exact fin T4 k4
end
def R0c : List Int → List Va := fun _ => [cV [] (some 0)]
theorem sh0 : ∀ s ∈ [[(0 : Int)]], Sh s := fun s hs => by rw [List.mem_singleton.mp hs]; exact shB_sh (by decide +kernel)
theorem ro0 : ∀ s ∈ [[(0 : Int)]], RowOk 1 s (R0c s) := fun s hs => by
  rw [List.mem_singleton.mp hs]
  refine ⟨rfl, fun v hv => ?_⟩
  exact ⟨_, _, List.mem_singleton.mp hv, by decide +kernel, by decide +kernel, by decide, fun k e => by cases e; decide⟩
theorem ok0 : RoadOk [[0]] [] := ⟨by simp, sh0, by simp, (fun c hc => nomatch hc), by simp, by simp⟩
theorem way0 : go (bh [] R0c) (glE (sts 1 (shs [[0]] [])) [] R0c) 100 0 ((bq [[0]]).map fun q => (q, [q])) = some none := by decide +kernel
section
variable {S : Sto} {d0 d1 d2 d3 d4 d5 : Option Va}
theorem last_ok : wo (t_law_3 (F6 d0 d1 d2 d3 d4 d5) S) (fun _ _ => False) (fnK (fun v T => v = .bl true ∧ True) noE) := by
  refine wt_law_3 ?_
  repeat array_get_dec
  refine wr_dict1 fun d T1 e1 t1 k1 h1 => ?_
  repeat array_get_dec
  intro r T2 e2 t2 k2 h2
  refine ⟨k2 _ _ h1, ⟨_, keyT_sh (sh0 _ (List.mem_singleton.mpr rfl))⟩, fun T3 t3 k3 h3 => ?_⟩
  have rd : r ≠ d := by have := lt_of h1; omega
  have di : DInv T3 d [[0]] R0c := dinv_1 h3 (k3 _ _ rd h2)
  repeat array_get_dec
  refine newGo' rfl (init_ok (n := 1) sh0 (by decide) (by simp) (by decide) (by decide) (by decide) ro0 di) fun T5 ⟨a2, k5⟩ => ?_
  repeat array_get_dec
  intro l6 T6 e6 t6 k6 h6
  repeat array_get_dec
  intro l7 T7 e7 t7 k7 h7
  repeat array_get_dec
  refine newGo' (P := fun T => RoadAt T T7.length [[0]] [] ∧ Keep T7 T) rfl ?_ (fun T8 ⟨r8, k8⟩ => ?_)
  · obtain ⟨T8, x1, x2, x3, _⟩ := road_init ok0 (S := T7 ++ [.ins 41 []]) (i := T7.length) (l := l6) (q := l7) (get_new _ _ _) (Keep.app _ _ _ _ (k7 _ _ h6)) (Keep.app _ _ _ _ h7)
    exact ⟨T8, x1, x3, fun x o y => x2 _ _ (by have := lt_of y; omega) (Keep.app _ _ _ _ y)⟩
  repeat array_get_dec
  have k58 : Keep T5 T8 := fun x o y => k8 _ _ (k7 _ _ (k6 _ _ y))
  refine (fewest_ok (n := 1) sh0 (by decide) (by decide) (by decide) ro0 (a2.keep k58) ok0 r8 (by decide)).use fun v T9 ⟨r, res, hv, _, k9⟩ => ?_
  have er := res.det (go_res _ _ _ _ .start way0)
  subst er
  cases hv
  repeat array_get_dec
  exact ⟨rfl, trivial⟩
end
theorem law_ok : LawOk m_law := fun xs hx => by
  obtain ⟨p, S1, e1, pn1⟩ := pen_ok xs hx
  suffices z : wr (m_law [.loc 0] [.frl (xs.map .int)]) (fun v T => v = .bl true ∧ True) noE by
    obtain ⟨T, e, _⟩ := ok_of z
    exact ⟨T, e⟩
  refine v_law (wt_law_0 ?_)
  repeat array_get_dec
  refine wr_of e1 ?_
  repeat array_get_dec
  refine wt_law_1 ?_
  repeat array_get_dec
  refine wt_law_2 ?_
  repeat array_get_dec
  refine rngGo 16 rfl (by decide) ?_
  refine wo_rng (fun j δ U => (∃ last d3 d4 d5, δ = F6 (some (.loc 0)) (some (.loc p)) (some last) d3 d4 d5 ∧ LastOk U last) ∧ Pen U p (5000000 * j)) ⟨⟨_, _, _, _, rfl, .inl rfl⟩, pn1⟩ (fun j δ U hj ⟨⟨last, d3, d4, d5, ed, hl⟩, pU⟩ => ?_) (fun δ U ⟨⟨last, d3, d4, d5, ed, hl⟩, pU⟩ => ?_)
  · subst ed
    refine ⟨_, rfl, ?_⟩
    refine wo.use (outer_ok (m := 5000000 * j) (by omega) pU hl) fun δ' V ⟨e, pV⟩ => ?_
    exact ⟨e, pV.mono (by omega)⟩
  · subst ed
    exact last_ok.mono (fun _ _ h => h.elim)
end Law
open PySem PySem.W PyProof.Rows
