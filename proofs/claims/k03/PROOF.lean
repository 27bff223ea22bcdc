import PyProof.Rows.All
import Wide.All
import OpenK.AllK
import Wide.FinOn
import HandS.Base
import HandS.Call
import HandS.List
import HandS.Ends
import HandS.Exc
import HandS.ExcOwn
import HandS.Comp
import HandS.Iter
import HandS.Lambda
import KE.KDictKeyed
import KE.KeyNested
import HandS.Words
import HandS.Style
import HandS.Conv
import HandS.RaiseMore
import HandS.IsInst
import HandS.TupAny
import HandS.TryOnly
import HandS.WordsExc
import PyProof.Rows.Range3
import PyProof.ListRange
import PyProof.ConsumeWalk
import HandS.TupSets
import KE.SortCalls
import KE.SortKeyed
import HandS.ForExc
import HandS.Flow
import HandS.Deep
import HandS.Property
import HandS.Codes
import KE.KFmtOwn
import PyProof.InstEq
import KE.DataMinMax
import HandS.More
import PyProof.Rows.InDataRows
import HandS.ExcIs
import HandS.ExcValue
import HandS.Zip
import PyProof.Rows.CountFlat
import HandS.DictTup
import HandS.Records
import HandS.DictComp
import KE.KDictSum
import KE.KDictCopyH
import KE.KDictList
import HandS.DictEq
import KE.KDictPairs
import PyProof.ReprLen
import KE.KDictDisplayH
import HandS.EndOwn
import PySem.Challenge.RW_loosecursors_k03_bits_refused
set_option Elab.async false
set_option linter.all false
set_option maxRecDepth 100000
set_option maxHeartbeats 4000000
set_option autoImplicit false
/-! A plain semantics of data, beside the hand layer: values Va (tuples are data), a store of numbered objects, and what of the model answers to them. -/
namespace Rz
open PySem PySem.Spec PyProof.Rows L2

/-- built-in classes by number -/
def tyName : Nat → String
  | 0 => "NoneType"
  | 1 => "bool"
  | 2 => "int"
  | 3 => "str"
  | 4 => "tuple"
  | 5 => "list"
  | 6 => "dict"
  | _ => "object"

inductive Va where
  | non | bl (b : Bool) | int (i : Int) | str (x : Str) | ty (n : Nat) | tup (ws : List Va) | loc (i : Nat) | cl (c : Nat)
  deriving Inhabited

inductive Ob where
  | lst (ws : List Va) | frl (ws : List Va) | dct (kvs : List (Va × Va)) | frd (kvs : List (Va × Va)) | dci (kvs : List (Int × Va)) | dcs (kvs : List (Str × Va)) | ins (c : Nat) (fs : List Va) | exo (c : Nat) (fs : List Va)
  deriving Inhabited

abbrev Env := List (Option Va)
abbrev Sto := List Ob

inductive Rs (α : Type) where
  | ok (a : α) (S : Sto)
  | ex (c : Nat) (fs : List Va) (S : Sto)
  | bad
def Rs.bind {α β : Type} (r : Rs α) (f : α → Sto → Rs β) : Rs β := match r with
  | .ok a S => f a S
  | .ex c fs S => .ex c fs S
  | .bad => .bad

inductive Out where
  | nx (δ : Env) (S : Sto)
  | rt (w : Va) (S : Sto)
  | bk (δ : Env) (S : Sto)
  | ct (δ : Env) (S : Sto)
  | ex (c : Nat) (fs : List Va) (δ : Env) (S : Sto)
  | bad
def Out.next (o : Out) (f : Env → Sto → Out) : Out := match o with
  | .nx δ S => f δ S
  | o => o
def Rs.out {α : Type} (r : Rs α) (δ : Env) (f : α → Sto → Out) : Out := match r with
  | .ok a S => f a S
  | .ex c fs S => .ex c fs δ S
  | .bad => .bad

abbrev XE := Env → Sto → Rs Va
abbrev XA := Env → Sto → Rs (List Va)
abbrev XT := Env → Sto → Rs Bool
abbrev XS := Env → Sto → Out

/-- what the text's classes are: where they stand, the names of their attributes in order -/
structure G where
  K : PySem.W.Frag
  cls : Nat → Addr
  fld : Nat → List Str
  P : Program
  w : World
  /-- tables of code objects and the name that each bears -/
  T : List (Addr × Str)
/-- a dict's object: its keys, where they stand, its values -/
def dN (P : Program) (w : World) (a : Addr) (L : List (NestedKey × Addr × V)) : HO := .ext fun h => (a == sysModules) = false ∧ L.length ≤ sizeLine ∧ (∀ r ∈ L, r.1.depth ≤ 8) ∧ ∃ xs : List (NestedKey × Addr × Value),
  Paired (fun (p : NestedKey × Addr × V) (q : NestedKey × Addr × Value) => p.1 = q.1 ∧ p.2.1 = q.2.1 ∧ RelV p.2.2 q.2.2) L xs ∧
  ∃ o es ep, h.get? a = some o ∧ o.ExactDict ∧ o.data = .dict es ep ∧ es.toList = xs.map (entryOfKey (nestedKind P w)) ∧ (xs.map (·.1)).Nodup
/-- the key that data without texts is -/
def nkV : Va → Option NestedKey
  | .non => some .none
  | .bl b => some (.num (if b then 1 else 0))
  | .int i => some (.num i)
  | .tup ws => (nksV ws).map .tup
  | _ => none
where nksV : List Va → Option (List NestedKey)
  | [] => some []
  | w :: ws => match nkV w, nksV ws with
    | some k, some ks => some (k :: ks)
    | _, _ => none

mutual
inductive Rel (g : G) (ρ : List Addr) (H : Hp) : Va → V → Prop
  | non : Rel g ρ H .non .non
  | bl (b : Bool) : Rel g ρ H (.bl b) (.bl b)
  | int (i : Int) : Rel g ρ H (.int i) (.int i)
  | str (x : Str) : Rel g ρ H (.str x) (.str x)
  | ty (n : Nat) : Rel g ρ H (.ty n) (.ty (tyName n))
  | tup {ws : List Va} {vs : List V} {a : Addr} : SqT g.K H a vs → RelL g ρ H ws vs → Rel g ρ H (.tup ws) (.ref a)
  | loc {i : Nat} {a : Addr} : ρ[i]? = some a → Rel g ρ H (.loc i) (.ref a)
  | cl (c : Nat) : Rel g ρ H (.cl c) (.ref (g.cls c))
inductive RelL (g : G) (ρ : List Addr) (H : Hp) : List Va → List V → Prop
  | nil : RelL g ρ H [] []
  | cons {w : Va} {ws : List Va} {v : V} {vs : List V} : Rel g ρ H w v → RelL g ρ H ws vs → RelL g ρ H (w :: ws) (v :: vs)
end

/-- more is known, nothing is forgotten -/
structure Ext (g : G) (ρ : List Addr) (H : Hp) (ρ' : List Addr) (H' : Hp) : Prop where
  pre : ∃ r, ρ' = ρ ++ r
  tup : ∀ a vs, SqT g.K H a vs → SqT g.K H' a vs
  frz : ∀ b o u, H b = some (.frz o u) → H' b = some (.frz o u)

section
variable {g : G} {ρ ρ' ρ'' : List Addr} {H H' H'' : Hp}
theorem Ext.refl : Ext g ρ H ρ H := ⟨⟨[], by simp⟩, fun _ _ h => h, fun _ _ _ h => h⟩
theorem Ext.trans (a : Ext g ρ H ρ' H') (b : Ext g ρ' H' ρ'' H'') : Ext g ρ H ρ'' H'' := by
  obtain ⟨r, rfl⟩ := a.pre
  obtain ⟨q, rfl⟩ := b.pre
  exact ⟨⟨r ++ q, by simp⟩, fun x vs h => b.tup x vs (a.tup x vs h), fun x o u h => b.frz x o u (a.frz x o u h)⟩
theorem Ext.at (e : Ext g ρ H ρ' H') {i : Nat} {a : Addr} (h : ρ[i]? = some a) : ρ'[i]? = some a := by
  obtain ⟨r, rfl⟩ := e.pre
  have q := (List.getElem?_eq_some_iff.mp h).1
  rw [List.getElem?_append_left q]
  exact h
theorem Rel.mono (e : Ext g ρ H ρ' H') {w : Va} {v : V} (h : Rel g ρ H w v) : Rel g ρ' H' w v :=
  Rel.rec (motive_1 := fun w v _ => Rel g ρ' H' w v) (motive_2 := fun ws vs _ => RelL g ρ' H' ws vs) .non (fun b => .bl b) (fun i => .int i) (fun x => .str x) (fun n => .ty n)
    (fun s _ ih => .tup (e.tup _ _ s) ih) (fun s => .loc (e.at s)) (fun c => .cl c) .nil (fun _ _ a b => .cons a b) h
theorem RelL.mono (e : Ext g ρ H ρ' H') : ∀ {ws : List Va} {vs : List V}, RelL g ρ H ws vs → RelL g ρ' H' ws vs
  | _, _, .nil => .nil
  | _, _, .cons a b => .cons (a.mono e) (RelL.mono e b)
theorem RelL.length : ∀ {ws : List Va} {vs : List V}, RelL g ρ H ws vs → ws.length = vs.length
  | _, _, .nil => rfl
  | _, _, .cons _ b => congrArg (· + 1) (RelL.length b)
theorem RelL.get : ∀ {ws : List Va} {vs : List V} {i : Nat} {w : Va}, RelL g ρ H ws vs → ws[i]? = some w → ∃ v, vs[i]? = some v ∧ Rel g ρ H w v
  | _, _, _, _, .nil, h => by simp at h
  | _, _, 0, _, .cons a _, h => by
    simp at h
    subst h
    exact ⟨_, rfl, a⟩
  | _, _, i + 1, w, .cons _ b, h => by
    obtain ⟨v, h1, h2⟩ := RelL.get (i := i) (w := w) b (by simpa using h)
    exact ⟨v, by simpa using h1, h2⟩
theorem RelL.tog : ∀ {ws : List Va} {vs : List V} {i : Nat} {v : V}, RelL g ρ H ws vs → vs[i]? = some v → ∃ w, ws[i]? = some w ∧ Rel g ρ H w v
  | _, _, _, _, .nil, h => by simp at h
  | _, _, 0, _, .cons a _, h => by
    simp at h
    subst h
    exact ⟨_, rfl, a⟩
  | _, _, i + 1, v, .cons _ b, h => by
    obtain ⟨w, h1, h2⟩ := RelL.tog (i := i) (v := v) b (by simpa using h)
    exact ⟨w, by simpa using h1, h2⟩
theorem RelL.app : ∀ {ws us : List Va} {vs ts : List V}, RelL g ρ H ws vs → RelL g ρ H us ts → RelL g ρ H (ws ++ us) (vs ++ ts)
  | _, _, _, _, .nil, h => h
  | _, _, _, _, .cons a b, h => .cons a (RelL.app b h)
theorem RelL.take : ∀ {ws : List Va} {vs : List V} (n : Nat), RelL g ρ H ws vs → RelL g ρ H (ws.take n) (vs.take n)
  | _, _, 0, _ => .nil
  | _, _, _ + 1, .nil => .nil
  | _, _, n + 1, .cons a b => .cons a (RelL.take n b)
theorem RelL.drop : ∀ {ws : List Va} {vs : List V} (n : Nat), RelL g ρ H ws vs → RelL g ρ H (ws.drop n) (vs.drop n)
  | _, _, 0, h => h
  | _, _, _ + 1, .nil => .nil
  | _, _, n + 1, .cons _ b => RelL.drop n b
theorem RelL.put {w : Va} {v : V} (r : Rel g ρ H w v) : ∀ {ws : List Va} {vs : List V} (i : Nat), RelL g ρ H ws vs → RelL g ρ H (ws.set i w) (vs.set i v)
  | _, _, _, .nil => .nil
  | _, _, 0, .cons _ b => .cons r b
  | _, _, i + 1, .cons a b => .cons a (RelL.put r i b)
theorem RelL.rev : ∀ {ws : List Va} {vs : List V}, RelL g ρ H ws vs → RelL g ρ H ws.reverse vs.reverse
  | _, _, .nil => .nil
  | _, _, .cons a b => by
    rw [List.reverse_cons, List.reverse_cons]
    exact (RelL.rev b).app (.cons a .nil)
theorem RelL.ints : ∀ ns : List Int, RelL g ρ H (ns.map Va.int) (ns.map V.int)
  | [] => .nil
  | n :: r => .cons (.int n) (RelL.ints r)
end

/-- what stands where an exception of the class cls without a dict of its own stands -/
def exH (cls : Value) (a : Addr) : HO := .ext fun hp => ∃ ob fs, hp.get? a = some ob ∧ Zc cls none ob ∧ ob.data = .fields fs
/-- what stands at the address of an object of the store -/
def At (g : G) (ρ : List Addr) (H : Hp) (a : Addr) : Ob → Prop
  | .lst ws => ∃ vs, H a = some (.lst vs) ∧ RelL g ρ H ws vs
  | .frl ws => (∃ o vs, H a = some (.frz o (.lst vs)) ∧ RelL g ρ H ws vs) ∨ ∃ vs, (∀ H', SqL g.K H' a vs) ∧ RelL g ρ H ws vs
  | .dct kvs => ∃ L : List (NestedKey × Addr × V), H a = some (dN g.P g.w a L) ∧ RelL g ρ H (kvs.map Prod.fst) (L.map fun r => V.ref r.2.1) ∧ RelL g ρ H (kvs.map Prod.snd) (L.map fun r => r.2.2) ∧ kvs.map (fun p => nkV p.1) = L.map (fun r => some r.1) ∧ ∀ r ∈ L, r.1.depth ≤ 8
  | .frd kvs => ∃ (o : Obj) (L : List (NestedKey × Addr × V)), H a = some (.frz o (dN g.P g.w a L)) ∧ RelL g ρ H (kvs.map Prod.fst) (L.map fun r => V.ref r.2.1) ∧ RelL g ρ H (kvs.map Prod.snd) (L.map fun r => r.2.2) ∧ kvs.map (fun p => nkV p.1) = L.map (fun r => some r.1) ∧ ∀ r ∈ L, r.1.depth ≤ 8
  | .dci kvs => ∃ L : List (L2.Key × V), H a = some (.dK L) ∧ L.map Prod.fst = kvs.map (fun p => Sum.inl p.1) ∧ RelL g ρ H (kvs.map Prod.snd) (L.map Prod.snd)
  | .dcs kvs => ∃ L : List (L2.Key × V), H a = some (.dK L) ∧ L.map Prod.fst = kvs.map (fun p => Sum.inr p.1) ∧ RelL g ρ H (kvs.map Prod.snd) (L.map Prod.snd)
  | .ins c fs => ∃ dx fs', H a = some (.ins (g.cls c) dx fs') ∧ fs'.map (·.1) = (g.fld c).take fs.length ∧ RelL g ρ H fs (fs'.map (·.2))
  | .exo c fs => fs = [] ∧ H a = some (exH (.ref (g.cls c)) a)
def isFr : Ob → Bool
  | .frl _ => true
  | _ => false
/-- what isn't written -/
def isLk : Ob → Bool
  | .frl _ => true
  | .frd _ => true
  | _ => false
/-- a heap with one object -/
def offObj : Obj := { cls := .none, data := .freed }
def oneHeap (c : Addr) (o : Obj) : Heap := ⟨(List.replicate c offObj ++ [o]).toArray, {}⟩
theorem oneHeap_objs (c b : Addr) (o : Obj) : (oneHeap c o).objs[b]? = if b < c then some offObj else if b = c then some o else none := by
  unfold oneHeap
  dsimp only
  rw [List.getElem?_toArray]
  by_cases e : b < c
  · rw [if_pos e, List.getElem?_append_left (by simpa using e), List.getElem?_replicate, if_pos e]
  · rw [if_neg e, List.getElem?_append_right (by simpa using Nat.le_of_not_lt e), List.length_replicate]
    by_cases e2 : b = c
    · rw [if_pos e2, e2, Nat.sub_self]; rfl
    · rw [if_neg e2]
      refine List.getElem?_eq_none ?_
      have h1 : c < b := Nat.lt_of_le_of_ne (Nat.le_of_not_lt e) (Ne.symm e2)
      exact Nat.sub_pos_of_lt h1
theorem oneHeap_at {c : Addr} {o : Obj} (h : o.data ≠ .freed) : (oneHeap c o).get? c = some o := by
  unfold Heap.get?
  rw [oneHeap_objs, if_neg (Nat.lt_irrefl c), if_pos rfl]
  obtain ⟨a, b, d, f⟩ := o
  cases d <;> first | rfl | exact absurd rfl h
theorem oneHeap_of {c b : Addr} {o u : Obj} (h : (oneHeap c o).get? b = some u) : u = o := by
  unfold Heap.get? at h
  rw [oneHeap_objs] at h
  by_cases e : b < c
  · rw [if_pos e] at h
    cases h
  · rw [if_neg e] at h
    by_cases e2 : b = c
    · rw [if_pos e2] at h
      obtain ⟨a, b, d, f⟩ := o
      cases d <;> first | (cases h; done) | exact (Option.some.inj h).symm
    · rw [if_neg e2] at h
      cases h
/-- a code object alone -/
def oneCode (q : Str) : Obj := { cls := .none, data := .fields #[.none, .str q 0] }
theorem ne_code {c : Addr} {q : Str} {p : Heap → Prop} (h : p (oneHeap c (oneCode q)) → False) : HO.ext p ≠ LamX.CodeO c q := fun z => by
  unfold LamX.CodeO at z
  injection z with z
  have := congrFun z (oneHeap c (oneCode q))
  exact h (this ▸ ⟨oneCode q, _, 0, oneHeap_at (fun z => nomatch z), rfl, rfl⟩)
theorem dN_code {P : Program} {w : World} {a c : Addr} {q : Str} {L : List (NestedKey × Addr × V)} : dN P w a L ≠ LamX.CodeO c q := ne_code fun ⟨_, _, _, _, _, o, es, ep, h, _, hd, _⟩ => by
  rw [oneHeap_of h] at hd
  cases hd
theorem exH_code {cls : Addr} {a c : Addr} {q : Str} : exH (.ref cls) a ≠ LamX.CodeO c q := ne_code fun ⟨o, fs, h, z, _⟩ => by
  rw [oneHeap_of h] at z
  exact absurd z.1 (fun z => nomatch z)
theorem tabs_upd {T : List (Addr × Str)} {H : Hp} {a : Addr} {x u : HO} (t : LamX.Tabs T H) (hx : H a = some x) (h1 : ∀ ps, x ≠ .tbl ps) (h2 : ∀ c q, x ≠ LamX.CodeO c q) : LamX.Tabs T (upd H a u) := fun p hp => by
  obtain ⟨ps, e1, e2, e3⟩ := t p hp
  refine ⟨ps, ?_, e2, fun pos cv hc => ?_⟩
  · rw [upd_ne (fun z => by rw [z, hx] at e1; exact h1 _ (Option.some.inj e1))]
    exact e1
  · obtain ⟨c, f1, f2⟩ := e3 pos cv hc
    refine ⟨c, f1, ?_⟩
    rw [upd_ne (fun z => by rw [z, hx] at f2; exact h2 _ _ (Option.some.inj f2))]
    exact f2
theorem tabs_new {T : List (Addr × Str)} {H : Hp} {a : Addr} {u : HO} (t : LamX.Tabs T H) (hx : H a = none) : LamX.Tabs T (upd H a u) := t.ext fun b o e => by
  rw [upd_ne (ne_of_none e hx)]
  exact e
structure Sim (g : G) (ρ : List Addr) (S : Sto) (H : Hp) : Prop where
  len : S.length = ρ.length
  inj : ∀ (i j : Nat) (a : Addr) (o u : Ob), ρ[i]? = some a → ρ[j]? = some a → S[i]? = some o → S[j]? = some u → isFr o = false → isFr u = false → i = j
  ats : ∀ (i : Nat) (o : Ob) (a : Addr), S[i]? = some o → ρ[i]? = some a → At g ρ H a o
  tabs : LamX.Tabs g.T H

section
variable {g : G} {ρ ρ' : List Addr} {H H' : Hp} {S : Sto} {a : Addr}
theorem At.there0 {o : Ob} (h : At g ρ H a o) (n : isFr o = false) : ∃ u, H a = some u := by
  cases o with
  | lst ws => obtain ⟨vs, e, _⟩ := h; exact ⟨_, e⟩
  | frl ws => cases n
  | dct kvs => obtain ⟨L, e, _⟩ := h; exact ⟨_, e⟩
  | frd kvs => obtain ⟨o, L, e, _⟩ := h; exact ⟨_, e⟩
  | dci kvs => obtain ⟨L, e, _⟩ := h; exact ⟨_, e⟩
  | dcs kvs => obtain ⟨L, e, _⟩ := h; exact ⟨_, e⟩
  | ins c fs => obtain ⟨dx, fs', e, _⟩ := h; exact ⟨_, e⟩
  | exo c fs => exact ⟨_, h.2⟩
theorem At.there {o : Ob} (h : At g ρ H a o) (n : isLk o = false) : ∃ u, H a = some u ∧ (∀ vs, u ≠ .tup vs) ∧ ∀ ob w, u ≠ .frz ob w := by
  cases o with
  | lst ws => obtain ⟨vs, e, _⟩ := h; exact ⟨_, e, (fun vs z => by cases z), fun ob w z => by cases z⟩
  | frl ws => cases n
  | frd kvs => cases n
  | dct kvs => obtain ⟨L, e, _⟩ := h; exact ⟨_, e, (fun vs z => nomatch (show HO.ext _ = HO.tup vs from z)), fun ob w z => nomatch (show HO.ext _ = HO.frz ob w from z)⟩
  | dci kvs => obtain ⟨L, e, _⟩ := h; exact ⟨_, e, (fun vs z => by cases z), fun ob w z => by cases z⟩
  | dcs kvs => obtain ⟨L, e, _⟩ := h; exact ⟨_, e, (fun vs z => by cases z), fun ob w z => by cases z⟩
  | ins c fs => obtain ⟨dx, fs', e, _⟩ := h; exact ⟨_, e, (fun vs z => by cases z), fun ob w z => by cases z⟩
  | exo c fs => exact ⟨_, h.2, (fun vs z => nomatch (show HO.ext _ = HO.tup vs from z)), fun ob w z => nomatch (show HO.ext _ = HO.frz ob w from z)⟩
theorem At.code {o : Ob} (h : At g ρ H a o) (n : isFr o = false) : ∃ u, H a = some u ∧ (∀ ps, u ≠ .tbl ps) ∧ ∀ c q, u ≠ LamX.CodeO c q := by
  cases o with
  | lst ws => obtain ⟨vs, e, _⟩ := h; exact ⟨_, e, (fun ps z => nomatch z), fun c q z => by unfold LamX.CodeO at z; cases z⟩
  | frl ws => cases n
  | dct kvs => obtain ⟨L, e, _⟩ := h; exact ⟨_, e, (fun ps z => nomatch (show HO.ext _ = HO.tbl ps from z)), fun c q => dN_code⟩
  | frd kvs => obtain ⟨o, L, e, _⟩ := h; exact ⟨_, e, (fun ps z => nomatch z), fun c q z => by unfold LamX.CodeO at z; cases z⟩
  | dci kvs => obtain ⟨L, e, _⟩ := h; exact ⟨_, e, (fun ps z => nomatch z), fun c q z => by unfold LamX.CodeO at z; cases z⟩
  | dcs kvs => obtain ⟨L, e, _⟩ := h; exact ⟨_, e, (fun ps z => nomatch z), fun c q z => by unfold LamX.CodeO at z; cases z⟩
  | ins c fs => obtain ⟨dx, fs', e, _⟩ := h; exact ⟨_, e, (fun ps z => nomatch z), fun c q z => by unfold LamX.CodeO at z; cases z⟩
  | exo c fs => exact ⟨_, h.2, (fun ps z => nomatch (show HO.ext _ = HO.tbl ps from z)), fun c q => exH_code⟩
/-- the object's description at a heap that knows more, the object itself standing -/
theorem At.mono (e : Ext g ρ H ρ' H') (k : ∀ u, H a = some u → H' a = some u) {o : Ob} (h : At g ρ H a o) : At g ρ' H' a o := by
  cases o with
  | lst ws => obtain ⟨vs, q, r⟩ := h; exact ⟨vs, k _ q, r.mono e⟩
  | frl ws =>
    rcases h with ⟨o, vs, q, r⟩ | ⟨vs, q, r⟩
    · exact .inl ⟨o, vs, k _ q, r.mono e⟩
    · exact .inr ⟨vs, q, r.mono e⟩
  | dct kvs => obtain ⟨L, q, r1, r2, z⟩ := h; exact ⟨L, k _ q, r1.mono e, r2.mono e, z⟩
  | frd kvs => obtain ⟨o, L, q, r1, r2, z⟩ := h; exact ⟨o, L, k _ q, r1.mono e, r2.mono e, z⟩
  | dci kvs => obtain ⟨L, q, z, r⟩ := h; exact ⟨L, k _ q, z, r.mono e⟩
  | dcs kvs => obtain ⟨L, q, z, r⟩ := h; exact ⟨L, k _ q, z, r.mono e⟩
  | ins c fs => obtain ⟨dx, fs', q, z, r⟩ := h; exact ⟨dx, fs', k _ q, z, r.mono e⟩
  | exo c fs => exact ⟨h.1, k _ h.2⟩
theorem Sim.mono (s : Sim g ρ S H) (t : ∀ a vs, SqT g.K H a vs → SqT g.K H' a vs) (f : ∀ b o u, H b = some (.frz o u) → H' b = some (.frz o u)) (k : ∀ a ∈ ρ, ∀ u, H a = some u → H' a = some u) (tb : LamX.Tabs g.T H') : Sim g ρ S H' :=
  ⟨s.len, s.inj, fun i o a h1 h2 => (s.ats i o a h1 h2).mono ⟨⟨[], by simp⟩, t, f⟩ (k a (List.mem_of_getElem? h2)), tb⟩
theorem sqT_upd {p : Addr} {o : HO} (h : H p = none) : ∀ a vs, SqT g.K H a vs → SqT g.K (upd H p o) a vs := fun a vs s => by
  rcases s with (s | ⟨u, s⟩) | s
  · exact .inl (.inl (by rw [upd_ne (ne_of_none s h)]; exact s))
  · exact .inl (.inr ⟨u, by rw [upd_ne (ne_of_none s h)]; exact s⟩)
  · exact .inr s
theorem frz_upd {p : Addr} {o : HO} (h : H p = none) : ∀ b ob u, H b = some (.frz ob u) → upd H p o b = some (.frz ob u) := fun b ob u e => by
  rw [upd_ne (ne_of_none e h)]
  exact e
/-- a new address is laid, known to the store or not -/
theorem Sim.aside {p : Addr} {o : HO} (s : Sim g ρ S H) (h : H p = none) : Sim g ρ S (upd H p o) :=
  s.mono (sqT_upd h) (frz_upd h) (fun a _ u e => by rw [upd_ne (ne_of_none e h)]; exact e) (tabs_new s.tabs h)
theorem ext_upd {p : Addr} {o : HO} (h : H p = none) : Ext g ρ H ρ (upd H p o) := ⟨⟨[], by simp⟩, sqT_upd h, frz_upd h⟩
theorem Sim.laid {p : Addr} {o : Ob} {u : HO} (s : Sim g ρ S H) (h : H p = none) (new : ∀ ρ' H', Ext g ρ H ρ' H' → H' p = some u → At g ρ' H' p o) (nf : isFr o = false) :
    Sim g (ρ ++ [p]) (S ++ [o]) (upd H p u) ∧ Ext g ρ H (ρ ++ [p]) (upd H p u) := by
  have e : Ext g ρ H (ρ ++ [p]) (upd H p u) := ⟨⟨[p], rfl⟩, sqT_upd h, frz_upd h⟩
  have sl := s.len
  have old : ∀ {i : Nat} {a : Addr}, i ≠ ρ.length → (ρ ++ [p])[i]? = some a → i < ρ.length ∧ ρ[i]? = some a := fun {i a} hi q => by
    have hlt := (List.getElem?_eq_some_iff.mp q).1
    rw [List.length_append, List.length_singleton] at hlt
    have hlt2 : i < ρ.length := by omega
    rw [List.getElem?_append_left hlt2] at q
    exact ⟨hlt2, q⟩
  have oldS : ∀ {i : Nat} {b : Ob}, i < ρ.length → (S ++ [o])[i]? = some b → S[i]? = some b := fun {i b} hi q => by
    rw [List.getElem?_append_left (by omega)] at q
    exact q
  have newA : ∀ {a : Addr}, (ρ ++ [p])[ρ.length]? = some a → a = p := fun {a} q => by simp at q; exact q.symm
  have newS : ∀ {b : Ob}, (S ++ [o])[ρ.length]? = some b → b = o := fun {b} q => by rw [← sl] at q; simp at q; exact q.symm
  have freshA : ∀ {i : Nat} {a : Addr} {b : Ob}, ρ[i]? = some a → S[i]? = some b → isFr b = false → a ≠ p := fun {i a b} q1 q2 q3 z => by
    obtain ⟨x, q4⟩ := (s.ats i b a q2 q1).there0 q3
    rw [z, h] at q4
    cases q4
  refine ⟨⟨by simp [sl], fun i j a b c h1 h2 h3 h4 h5 h6 => ?_, fun i b a h1 h2 => ?_, tabs_new s.tabs h⟩, e⟩
  · by_cases hi : i = ρ.length
    · by_cases hj : j = ρ.length
      · rw [hi, hj]
      · obtain ⟨l2, q2⟩ := old hj h2
        rw [hi] at h1
        exact absurd (newA h1) (freshA q2 (oldS l2 h4) h6)
    · obtain ⟨l1, q1⟩ := old hi h1
      by_cases hj : j = ρ.length
      · rw [hj] at h2
        exact absurd (newA h2) (freshA q1 (oldS l1 h3) h5)
      · obtain ⟨l2, q2⟩ := old hj h2
        exact s.inj i j a b c q1 q2 (oldS l1 h3) (oldS l2 h4) h5 h6
  · by_cases hi : i = ρ.length
    · subst hi
      obtain rfl := newA h2
      obtain rfl := newS h1
      exact new _ _ e upd_same
    · obtain ⟨l1, q1⟩ := old hi h2
      exact (s.ats i b a (oldS l1 h1) q1).mono e fun x q => by rw [upd_ne (ne_of_none q h)]; exact q
/-- an object of the store is written -/
theorem Sim.put {i : Nat} {o o' : Ob} {u : HO} (s : Sim g ρ S H) (h1 : S[i]? = some o) (h2 : ρ[i]? = some a) (nl : isLk o = false) (nf' : isFr o' = false)
    (new : ∀ H', Ext g ρ H ρ H' → H' a = some u → At g ρ H' a o') : Sim g ρ (S.set i o') (upd H a u) ∧ Ext g ρ H ρ (upd H a u) := by
  obtain ⟨x, hx, nt, nfz⟩ := (s.ats i o a h1 h2).there nl
  have nf : isFr o = false := by cases o <;> first | rfl | cases nl
  have e : Ext g ρ H ρ (upd H a u) := ⟨⟨[], by simp⟩, fun b vs t => by
    rcases t with (t | ⟨ob, t⟩) | t
    · exact .inl (.inl (by rw [upd_ne (ne_of t hx (fun z => nt vs z.symm))]; exact t))
    · exact .inl (.inr ⟨ob, by rw [upd_ne (ne_of t hx (fun z => nfz ob _ z.symm))]; exact t⟩)
    · exact .inr t, fun b ob w e => by rw [upd_ne (ne_of e hx (fun z => nfz ob w z.symm))]; exact e⟩
  have back : ∀ {j : Nat} {c : Ob}, (S.set i o')[j]? = some c → isFr c = false → ∃ b, S[j]? = some b ∧ isFr b = false := fun {j c} q q2 => by
    by_cases hj : j = i
    · subst hj
      exact ⟨o, h1, nf⟩
    · rw [List.getElem?_set_ne (Ne.symm hj)] at q
      exact ⟨c, q, q2⟩
  obtain ⟨x', hx', nt', nc'⟩ := (s.ats i o a h1 h2).code nf
  refine ⟨⟨by simp [s.len], fun j k b c d q1 q2 q3 q4 q5 q6 => ?_, fun j b c q1 q2 => ?_, tabs_upd s.tabs hx' nt' nc'⟩, e⟩
  · obtain ⟨c', z1, z2⟩ := back q3 q5
    obtain ⟨d', z3, z4⟩ := back q4 q6
    exact s.inj j k b c' d' q1 q2 z1 z3 z2 z4
  · by_cases hj : j = i
    · subst hj
      rw [h2] at q2
      cases q2
      have hlt := (List.getElem?_eq_some_iff.mp h1).1
      rw [List.getElem?_set_self hlt] at q1
      cases q1
      exact new _ e upd_same
    · rw [List.getElem?_set_ne (Ne.symm hj)] at q1
      have z0 := s.ats j b c q1 q2
      by_cases hb : isFr b = true
      · cases b with
        | frl ws =>
          rcases z0 with ⟨ob, vs, z, r⟩ | ⟨vs, z, r⟩
          · refine .inl ⟨ob, vs, ?_, r.mono e⟩
            rw [upd_ne (ne_of z hx fun y => nfz _ _ y.symm)]
            exact z
          · exact .inr ⟨vs, z, r.mono e⟩
        | _ => cases hb
      · have hb' : isFr b = false := by simpa using hb
        refine z0.mono e fun y q => ?_
        have n : c ≠ a := fun z => by
          subst z
          exact hj (s.inj j i c b o q2 h2 q1 h1 hb' nf)
        rw [upd_ne n]
        exact q
end
end Rz
namespace Rz
open PySem PySem.Spec PyProof.Rows L2

/-! ### what is asked of the model -/
def ExD (g : G) (ρ : List Addr) (H : Hp) (c : Nat) (fs : List Va) (d : Option Addr) : Prop :=
  (fs = [] ∧ d = none) ∨ ∃ dd fs', fs ≠ [] ∧ d = some dd ∧ H dd = some (.xd fs') ∧ fs'.map (·.1) = (g.fld c).take fs.length ∧ RelL g ρ H fs (fs'.map (·.2))
def wpR {α β : Type} (g : G) (Wx : WX) (σ : L2.St) (rel : List Addr → Hp → α → β → Prop) (ρ : List Addr) (H : Hp) (r : Rs α) (Q : β → Hp → Prop) : Prop :=
  match r with
  | .ok a S => ∀ ρ' H' b, Ext g ρ H ρ' H' → Sim g ρ' S H' → rel ρ' H' a b → Q b H'
  | .ex c fs S => ∀ ρ' H' d, Ext g ρ H ρ' H' → Sim g ρ' S H' → ExD g ρ' H' c fs d → Wx (.ref (g.cls c)) d σ H'
  | .bad => False
def relB (_ : List Addr) (_ : Hp) (a b : Bool) : Prop := a = b
def SimE (g : G) (ρ : List Addr) (H : Hp) (δ : Env) (σ : L2.St) : Prop := δ.length = σ.length ∧ ∀ (i : Nat) (w : Va), δ[i]? = some (some w) → ∃ v, σ[i]? = some (some v) ∧ Rel g ρ H w v
def wpS (g : G) (Wx : WX) (ρ : List Addr) (H : Hp) (D : Ends) (o : Out) : Prop :=
  match o with
  | .nx δ S => ∀ ρ' H' σ', Ext g ρ H ρ' H' → Sim g ρ' S H' → SimE g ρ' H' δ σ' → D.nx σ' H'
  | .bk δ S => ∀ ρ' H' σ', Ext g ρ H ρ' H' → Sim g ρ' S H' → SimE g ρ' H' δ σ' → D.bk σ' H'
  | .ct δ S => ∀ ρ' H' σ', Ext g ρ H ρ' H' → Sim g ρ' S H' → SimE g ρ' H' δ σ' → D.ct σ' H'
  | .rt w S => ∀ ρ' H' v, Ext g ρ H ρ' H' → Sim g ρ' S H' → Rel g ρ' H' w v → D.rt v H'
  | .ex c fs δ S => ∀ ρ' H' σ' d, Ext g ρ H ρ' H' → Sim g ρ' S H' → SimE g ρ' H' δ σ' → ExD g ρ' H' c fs d → Wx (.ref (g.cls c)) d σ' H'
  | .bad => False

section
variable {g : G} {Wx : WX} {ρ ρ' : List Addr} {H H' : Hp} {σ : L2.St} {δ : Env} {S : Sto}
theorem SimE.mono (e : Ext g ρ H ρ' H') (h : SimE g ρ H δ σ) : SimE g ρ' H' δ σ := ⟨h.1, fun i w q => let ⟨v, h1, h2⟩ := h.2 i w q; ⟨v, h1, h2.mono e⟩⟩
theorem SimE.put {i : Nat} {w : Va} {v : V} (h : SimE g ρ H δ σ) (r : Rel g ρ H w v) : SimE g ρ H (δ.set i (some w)) (σ.set i (some v)) := by
  refine ⟨by simp [h.1], fun j u q => ?_⟩
  by_cases hj : j = i
  · subst hj
    have hlt : j < δ.length := by
      have z := (List.getElem?_eq_some_iff.mp q).1
      simpa using z
    rw [List.getElem?_set_self hlt] at q
    cases q
    exact ⟨v, List.getElem?_set_self (by rw [← h.1]; exact hlt), r⟩
  · rw [List.getElem?_set_ne (Ne.symm hj)] at q ⊢
    exact h.2 j u q
theorem SimE.drop {i : Nat} (h : SimE g ρ H δ σ) : SimE g ρ H (δ.set i none) (σ.set i none) := by
  refine ⟨by simp [h.1], fun j u q => ?_⟩
  by_cases hj : j = i
  · subst hj
    have hlt : j < δ.length := by
      have z := (List.getElem?_eq_some_iff.mp q).1
      simpa using z
    rw [List.getElem?_set_self hlt] at q
    cases q
  · rw [List.getElem?_set_ne (Ne.symm hj)] at q ⊢
    exact h.2 j u q
theorem SimE.weak {i : Nat} (h : SimE g ρ H δ σ) : SimE g ρ H (δ.set i none) σ := by
  refine ⟨by simp [h.1], fun j u q => ?_⟩
  by_cases hj : j = i
  · subst hj
    have hlt : j < δ.length := by
      have z := (List.getElem?_eq_some_iff.mp q).1
      simpa using z
    rw [List.getElem?_set_self hlt] at q
    cases q
  · rw [List.getElem?_set_ne (Ne.symm hj)] at q
    exact h.2 j u q
section
variable {α β γ θ : Type} {rel : List Addr → Hp → α → β → Prop} {rel2 : List Addr → Hp → γ → θ → Prop}
theorem wpR.imp {r : Rs α} {Q Q' : β → Hp → Prop} (h : wpR g Wx σ rel ρ H r Q) (k : ∀ b H', Q b H' → Q' b H') : wpR g Wx σ rel ρ H r Q' := by
  cases r with
  | ok a S => exact fun ρ' H' b e s r => k b H' (h ρ' H' b e s r)
  | ex c fs S => exact h
  | bad => exact h
theorem wpR.ext {r : Rs α} {Q : β → Hp → Prop} (e0 : Ext g ρ H ρ' H') (h : wpR g Wx σ rel ρ H r Q) : wpR g Wx σ rel ρ' H' r Q := by
  cases r with
  | ok a S => exact fun ρ1 H1 b e s r => h ρ1 H1 b (e0.trans e) s r
  | ex c fs S => exact fun ρ1 H1 d e s x => h ρ1 H1 d (e0.trans e) s x
  | bad => exact h
theorem wpR.bind {r : Rs α} {f : α → Sto → Rs γ} {Q : θ → Hp → Prop} (h : wpR g Wx σ rel2 ρ H (r.bind f) Q) :
    wpR g Wx σ rel ρ H r fun b H1 => ∃ ρ1 a S1, Ext g ρ H ρ1 H1 ∧ Sim g ρ1 S1 H1 ∧ rel ρ1 H1 a b ∧ wpR g Wx σ rel2 ρ1 H1 (f a S1) Q := by
  cases r with
  | ok a S => exact fun ρ' H' b e s r => ⟨ρ', a, S, e, s, r, wpR.ext e h⟩
  | ex c fs S => exact h
  | bad => exact h
theorem wpS.ext {D : Ends} {o : Out} (e0 : Ext g ρ H ρ' H') (h : wpS g Wx ρ H D o) : wpS g Wx ρ' H' D o := by
  cases o with
  | nx δ S => exact fun ρ1 H1 s e a b => h ρ1 H1 s (e0.trans e) a b
  | bk δ S => exact fun ρ1 H1 s e a b => h ρ1 H1 s (e0.trans e) a b
  | ct δ S => exact fun ρ1 H1 s e a b => h ρ1 H1 s (e0.trans e) a b
  | rt w S => exact fun ρ1 H1 s e a b => h ρ1 H1 s (e0.trans e) a b
  | ex c fs δ S => exact fun ρ1 H1 s d e a b c => h ρ1 H1 s d (e0.trans e) a b c
  | bad => exact h
theorem wpR.out {r : Rs α} {f : α → Sto → Out} {D : Ends} (se : SimE g ρ H δ σ) (h : wpS g Wx ρ H D (r.out δ f)) :
    wpR g Wx σ rel ρ H r fun b H1 => ∃ ρ1 a S1, Ext g ρ H ρ1 H1 ∧ Sim g ρ1 S1 H1 ∧ rel ρ1 H1 a b ∧ wpS g Wx ρ1 H1 D (f a S1) := by
  cases r with
  | ok a S => exact fun ρ' H' b e s r => ⟨ρ', a, S, e, s, r, wpS.ext e h⟩
  | ex c fs S => exact fun ρ' H' d e s x => h ρ' H' σ d e s (se.mono e) x
  | bad => exact h
end
theorem wpR.fin {α β : Type} {rel : List Addr → Hp → α → β → Prop} {a : α} {b : β} {Q : β → Hp → Prop} (h : wpR g Wx σ rel ρ H (.ok a S) Q) (s : Sim g ρ S H) (r : rel ρ H a b) : Q b H := h ρ H b .refl s r
theorem wpR.fin_at {α β : Type} {rel : List Addr → Hp → α → β → Prop} {a : α} {b : β} {Q : β → Hp → Prop} (h : wpR g Wx σ rel ρ H (.ok a S) Q) (e : Ext g ρ H ρ' H') (s : Sim g ρ' S H') (r : rel ρ' H' a b) : Q b H' := h ρ' H' b e s r
end

/-! ### the readings, the judgements -/
def tE (g : G) (Wx : WX) (x : XE) : TE := fun σ H Q => ∃ δ S ρ, Sim g ρ S H ∧ SimE g ρ H δ σ ∧ wpR g Wx σ (Rel g) ρ H (x δ S) Q
def tA (g : G) (Wx : WX) (x : XA) : TA := fun σ H Q => ∃ δ S ρ, Sim g ρ S H ∧ SimE g ρ H δ σ ∧ wpR g Wx σ (RelL g) ρ H (x δ S) Q
def tQ (g : G) (Wx : WX) (x : XT) : TT := fun σ H Q => ∃ δ S ρ, Sim g ρ S H ∧ SimE g ρ H δ σ ∧ wpR g Wx σ relB ρ H (x δ S) Q
def tS (g : G) (Wx : WX) (x : XS) : TS := fun D σ H => ∃ δ S ρ, Sim g ρ S H ∧ SimE g ρ H δ σ ∧ wpS g Wx ρ H D (x δ S)
/-- e means x -/
abbrev SE (X : Cx) (g : G) (Wx : WX) (e : Expr) (x : XE) : Prop := PE X e (tE g Wx x)
abbrev SA (X : Cx) (g : G) (Wx : WX) (es : List Expr) (x : XA) : Prop := PA X es (tA g Wx x)
abbrev SQ (X : Cx) (g : G) (Wx : WX) (e : Expr) (x : XT) : Prop := PT X e (tQ g Wx x)
abbrev SS (X : Cx) (g : G) (Wx : WX) (s : Stmt) (x : XS) : Prop := PS X s (tS g Wx x)
abbrev SB (X : Cx) (g : G) (Wx : WX) (s : List Stmt) (x : XS) : Prop := PSs X s (tS g Wx x)
theorem pe_imp {X : Cx} {e : Expr} {t t' : TE} (h : PE X e t) (k : ∀ σ H Q, t' σ H Q → t σ H Q) : PE X e t' := ⟨fun pins s σ H Q I q => h.run pins s σ H Q I (k _ _ _ q)⟩
theorem pt_imp {X : Cx} {e : Expr} {t t' : TT} (h : PT X e t) (k : ∀ σ H Q, t' σ H Q → t σ H Q) : PT X e t' := ⟨fun pins s σ H Q I q => h.run pins s σ H Q I (k _ _ _ q)⟩
theorem pw_imp {X : Cx} {e : Expr} {t t' : TT} (h : PW X e t) (k : ∀ σ H Q, t' σ H Q → t σ H Q) : PW X e t' := ⟨fun wh pins s σ H Q I q => h.run wh pins s σ H Q I (k _ _ _ q)⟩
theorem pa_imp {X : Cx} {e : List Expr} {t t' : TA} (h : PA X e t) (k : ∀ σ H Q, t' σ H Q → t σ H Q) : PA X e t' := ⟨fun ps pins s σ H Q I q => h.run ps pins s σ H Q I (k _ _ _ q)⟩
theorem ps_imp {X : Cx} {e : Stmt} {t t' : TS} (h : PS X e t) (k : ∀ D σ H, t' D σ H → t D σ H) : PS X e t' := ⟨fun pins s σ H D I q => h.run pins s σ H D I (k _ _ _ q)⟩
theorem pb_imp {X : Cx} {e : List Stmt} {t t' : TS} (h : PSs X e t) (k : ∀ D σ H, t' D σ H → t D σ H) : PSs X e t' := ⟨fun pins s σ H D I q => h.run pins s σ H D I (k _ _ _ q)⟩

/-- where one stands -/
structure XO (X : Cx) (g : G) (Wx : WX) (k : Nat) : Prop where
  K : g.K = X.K
  nd : X.N.Nodup
  calm : X.calm = true
  room : Room k X.A
  grd : X.A.guards = some []
  tk : Takes X Wx
  po : PassesOwn (model X.prog X.w) X.A X.env X.xe
  gP : g.P = X.prog
  gw : g.w = X.w
theorem XO.mono {X : Cx} {g : G} {Wx : WX} {j k : Nat} (o : XO X g Wx k) (h : j ≤ k) : XO X g Wx j := ⟨o.K, o.nd, o.calm, o.room.mono h, o.grd, o.tk, o.po, o.gP, o.gw⟩

/-! ### combinators -/
@[simp] def xvar (i : Nat) : XE := fun δ S => match δ[i]? with
  | some (some w) => .ok w S
  | _ => .bad
@[simp] def xlit (w : Va) : XE := fun _ S => .ok w S
@[simp] def xbin (f : Va → Va → Sto → Rs Va) (x y : XE) : XE := fun δ S => (x δ S).bind fun a S1 => (y δ S1).bind fun b S2 => f a b S2
@[simp] def xun (f : Va → Sto → Rs Va) (x : XE) : XE := fun δ S => (x δ S).bind f
@[simp] def xbinB (f : Va → Va → Sto → Rs Bool) (x y : XE) : XT := fun δ S => (x δ S).bind fun a S1 => (y δ S1).bind fun b S2 => f a b S2
@[simp] def xboo (x : XT) : XE := fun δ S => (x δ S).bind fun b S1 => .ok (.bl b) S1
@[simp] def xand (x y : XT) : XT := fun δ S => (x δ S).bind fun b S1 => if b then y δ S1 else .ok false S1
@[simp] def xor (x y : XT) : XT := fun δ S => (x δ S).bind fun b S1 => if b then .ok true S1 else y δ S1
@[simp] def xnot (x : XT) : XT := fun δ S => (x δ S).bind fun b S1 => .ok (!b) S1
@[simp] def xite (c : XT) (x y : XE) : XE := fun δ S => (c δ S).bind fun b S1 => if b then x δ S1 else y δ S1
@[simp] def anil : XA := fun _ S => .ok [] S
@[simp] def acons (x : XE) (r : XA) : XA := fun δ S => (x δ S).bind fun a S1 => (r δ S1).bind fun as S2 => .ok (a :: as) S2
@[simp] def xcall (f : List Va → Sto → Rs Va) (r : XA) : XE := fun δ S => (r δ S).bind f
/-- a length within the line -/
def fits (n : Nat) : Bool := decide (n ≤ sizeLine)
theorem fits_iff {n : Nat} : fits n = true ↔ n ≤ sizeLine := by unfold fits; exact decide_eq_true_iff
theorem fits_of {n : Nat} (h : n ≤ 16777216) : fits n = true := fits_iff.mpr (by rw [sizeLine_eq]; exact h)
def ltup (ws : List Va) (S : Sto) : Rs Va := bif fits ws.length then .ok (.tup ws) S else .bad
def llst (ws : List Va) (S : Sto) : Rs Va := bif fits ws.length then .ok (.loc S.length) (S ++ [.lst ws]) else .bad

section
variable {X : Cx} {g : G} {Wx : WX} {k : Nat} {pos : Pos}
theorem se_var (i : Nat) {x : Str} (hN : X.N[i]? = some x := by rfl) (hv : Vis X.env.scope x := by first | exact Or.inl rfl | exact Or.inr (Or.inl rfl) | exact Or.inr (Or.inr rfl)) (hd : (x == ("__debug__" : Str)) = false := by decide)
    (hcd : (x == ("__classdict__" : Str)) = false := by decide) : SE X g Wx (.Name x pos) (xvar i) :=
  pe_imp (pe_var hN hv hd hcd) fun σ H Q ⟨δ, S, ρ, sm, se, h⟩ => by
    unfold xvar at h
    split at h
    · rename_i w hw
      obtain ⟨v, hv, r⟩ := se.2 _ _ hw
      exact ⟨v, hv, h.fin sm r⟩
    · exact h.elim
theorem se_c {e : Expr} {w : Va} {v : V} (h : PE X e (tC v)) (r : ∀ ρ H, Rel g ρ H w v) : SE X g Wx e (xlit w) :=
  pe_imp h fun σ H Q ⟨δ, S, ρ, sm, se, h⟩ => h.fin sm (r ρ H)
theorem se_int {i : Int} {j : Nat} : SE X g Wx (.Constant (.int i) j pos) (xlit (.int i)) := se_c pe_int fun _ _ => .int i
theorem se_bl {b : Bool} {j : Nat} : SE X g Wx (.Constant (.bool b) j pos) (xlit (.bl b)) := se_c pe_bl fun _ _ => .bl b
theorem se_non {j : Nat} : SE X g Wx (.Constant .none j pos) (xlit .non) := se_c pe_non fun _ _ => .non
theorem se_str {x : Str} {j : Nat} : SE X g Wx (.Constant (.str x) j pos) (xlit (.str x)) := se_c pe_str fun _ _ => .str x
theorem se_ty {x : Str} (n : Nat) (hm : X.mg x = none) (hg : Gl X x := by rfl) (hv : bootBuiltins x = some (.type (tyName n)) := by decide +kernel) (hn : x ≠ "__name__" := by decide) (hd : (x == ("__debug__" : Str)) = false := by decide) : SE X g Wx (.Name x pos) (xlit (.ty n)) :=
  se_c (pe_bltn (v := .ty (tyName n)) hg hm hv rfl hn hd) fun _ _ => .ty n
theorem se_gint {x : Str} {i : Int} {t : Tok} (hm : X.mg x = some (.int i t)) (hg : Gl X x := by rfl) (hd : (x == ("__debug__" : Str)) = false := by decide) : SE X g Wx (.Name x pos) (xlit (.int i)) :=
  se_c (pe_glob (v := .int i) hg hm ⟨t, rfl⟩ hd) fun _ _ => .int i
theorem se_cls {x : Str} {c : Nat} (hm : X.mg x = some (.ref (g.cls c))) (hg : Gl X x := by rfl) (hd : (x == ("__debug__" : Str)) = false := by decide) : SE X g Wx (.Name x pos) (xlit (.cl c)) :=
  se_c (pe_glob (v := .ref (g.cls c)) hg hm rfl hd) fun _ _ => .cl c

/-- what an operation on data is worth -/
def OpS (g : G) (r : R2) (f : Va → Va → Sto → Rs Va) : Prop :=
  ∀ (Wx : WX) (σ : L2.St) (ρ : List Addr) (S : Sto) (H : Hp) (a b : Va) (x y : V) (Q : VK), Sim g ρ S H → Rel g ρ H a x → Rel g ρ H b y → wpR g Wx σ (Rel g) ρ H (f a b S) Q → r x y H Q
def OpB (g : G) (r : R2) (f : Va → Va → Sto → Rs Bool) : Prop :=
  ∀ (Wx : WX) (σ : L2.St) (ρ : List Addr) (S : Sto) (H : Hp) (a b : Va) (x y : V) (Q : VK), Sim g ρ S H → Rel g ρ H a x → Rel g ρ H b y → wpR g Wx σ relB ρ H (f a b S) (fun b H' => Q (.bl b) H') → r x y H Q
theorem two_in {x y : XE} {f : Va → Va → Sto → Rs Va} {r : R2} (hf : OpS g r f) : ∀ σ H Q, tE g Wx (xbin f x y) σ H Q → tOp r (tE g Wx x) (tE g Wx y) σ H Q :=
  fun σ H Q ⟨δ, S, ρ, sm, se, h⟩ => by
    refine ⟨δ, S, ρ, sm, se, wpR.imp (wpR.bind (rel := Rel g) h) fun v H1 ⟨ρ1, a, S1, e1, s1, r1, h1⟩ => ?_⟩
    refine ⟨δ, S1, ρ1, s1, se.mono e1, wpR.imp (wpR.bind (rel := Rel g) h1) fun u H2 ⟨ρ2, b, S2, e2, s2, r2, h2⟩ => ?_⟩
    exact hf Wx σ ρ2 S2 H2 a b v u Q s2 (r1.mono e2) r2 h2
theorem two_inB {x y : XE} {f : Va → Va → Sto → Rs Bool} {r : R2} (hf : OpB g r f) : ∀ σ H Q, tE g Wx (xboo (xbinB f x y)) σ H Q → tOp r (tE g Wx x) (tE g Wx y) σ H Q :=
  fun σ H Q ⟨δ, S, ρ, sm, se, h⟩ => by
    have h' : wpR g Wx σ relB ρ H (xbinB f x y δ S) fun b H' => Q (.bl b) H' := by
      unfold xboo at h
      cases q : xbinB f x y δ S with
      | ok b S' => rw [q] at h; exact fun ρ' H' b' e s r => by cases r; exact h ρ' H' (.bl b) e s (.bl b)
      | ex c fs S' => rw [q] at h; exact h
      | bad => rw [q] at h; exact h
    refine ⟨δ, S, ρ, sm, se, wpR.imp (wpR.bind (rel := Rel g) h') fun v H1 ⟨ρ1, a, S1, e1, s1, r1, h1⟩ => ?_⟩
    refine ⟨δ, S1, ρ1, s1, se.mono e1, wpR.imp (wpR.bind (rel := Rel g) h1) fun u H2 ⟨ρ2, b, S2, e2, s2, r2, h2⟩ => ?_⟩
    exact hf Wx σ ρ2 S2 H2 a b v u Q s2 (r1.mono e2) r2 h2
theorem se_bin {a b : Expr} {op : Operator} {x y : XE} {r : R2} {f : Va → Va → Sto → Rs Va} (ho : OpR X (binaryOp op) r) (hf : OpS g r f) (ha : SE X g Wx a x) (hb : SE X g Wx b y) : SE X g Wx (.BinOp a op b pos) (xbin f x y) :=
  pe_imp (pe_op ho ha hb) (two_in hf)
theorem se_cmp {a b : Expr} {op : CmpOp} {x y : XE} {r : R2} {f : Va → Va → Sto → Rs Bool} (ho : OpR X (compareOp op) r) (hf : OpB g r f) (ha : SE X g Wx a x) (hb : SE X g Wx b y) (hm : behindInMarks op b = false := by first | exact nobehind _ (by decide) (by decide) | rfl) :
    SE X g Wx (.Compare a [op] [b] pos) (xboo (xbinB f x y)) := pe_imp (pe_cmpR ho ha hb hm) (two_inB hf)
theorem sq_cmp {a b : Expr} {op : CmpOp} {x y : XE} {r : R2} {f : Va → Va → Sto → Rs Bool} (ho : OpR X (compareOp op) r) (hf : OpB g r f) (ha : SE X g Wx a x) (hb : SE X g Wx b y) (hm : behindInMarks op b = false := by first | exact nobehind _ (by decide) (by decide) | rfl) :
    SQ X g Wx (.Compare a [op] [b] pos) (xbinB f x y) := by
  refine pt_imp (pt_cmpR ho ha hb hm) fun σ H Q ⟨δ, S, ρ, sm, se, h⟩ => ?_
  refine two_inB hf σ H _ ⟨δ, S, ρ, sm, se, ?_⟩
  unfold xboo
  cases q : xbinB f x y δ S with
  | ok b S' => rw [q] at h; exact fun ρ' H' v e s r => by cases r; exact ⟨b, rfl, h ρ' H' b e s rfl⟩
  | ex c fs S' => rw [q] at h; exact h
  | bad => rw [q] at h; exact h
/-- a test of a value that is a bool -/
@[simp] def tobl (w : Va) (S : Sto) : Rs Bool := match w with
  | .bl b => .ok b S
  | _ => .bad
def xtst (x : XE) : XT := fun δ S => (x δ S).bind tobl
end
end Rz
namespace Rz
open PySem PySem.Spec PyProof.Rows L2

/-! ### reading the store -/
def getL (S : Sto) (i : Nat) : Option (List Va) := match S[i]? with
  | some (.lst ws) => some ws
  | some (.frl ws) => some ws
  | _ => none
theorem getL_at {g : G} {ρ : List Addr} {S : Sto} {H : Hp} {i : Nat} {ws : List Va} {a : Addr} (s : Sim g ρ S H) (h : getL S i = some ws) (r : ρ[i]? = some a) : ∃ vs, SqL g.K H a vs ∧ RelL g ρ H ws vs := by
  unfold getL at h
  split at h
  · rename_i w e
    cases h
    obtain ⟨vs, q, z⟩ := s.ats i _ a e r
    exact ⟨vs, .of q, z⟩
  · rename_i w e
    cases h
    rcases s.ats i _ a e r with ⟨o, vs, q, z⟩ | ⟨vs, q, z⟩
    · exact ⟨vs, .inl (.inr ⟨o, q⟩), z⟩
    · exact ⟨vs, q H, z⟩
  · cases h
/-- truth -/
@[simp] def truV (w : Va) (S : Sto) : Rs Bool := match w with
  | .non => .ok false S
  | .bl b => .ok b S
  | .int i => .ok (i != 0) S
  | .str y => bif fits y.length then .ok ((y.length : Int) != 0) S else .bad
  | .tup ws => .ok (!ws.isEmpty) S
  | .loc i => match getL S i with
    | some ws => .ok (!ws.isEmpty) S
    | none => .bad
  | _ => .bad
theorem RelL.emp {g : G} {ρ : List Addr} {H : Hp} {ws : List Va} {vs : List V} (r : RelL g ρ H ws vs) : (!ws.isEmpty) = !vs.isEmpty := by
  cases r <;> rfl
theorem truV_ok {g : G} {Wx : WX} {σ : L2.St} {ρ : List Addr} {S : Sto} {H : Hp} {w : Va} {v : V} {Q : Bool → Hp → Prop} (s : Sim g ρ S H) (r : Rel g ρ H w v) (h : wpR g Wx σ relB ρ H (truV w S) Q) : ∃ k, TruV g.K v H k ∧ Q k H := by
  cases r with
  | non => exact ⟨false, rfl, h.fin s rfl⟩
  | bl b => exact ⟨b, rfl, h.fin s rfl⟩
  | int i => exact ⟨_, rfl, h.fin s rfl⟩
  | str y =>
    have h' : wpR g Wx σ relB ρ H (bif fits y.length then Rs.ok ((y.length : Int) != 0) S else .bad) Q := h
    by_cases hz : fits y.length = true
    · rw [hz] at h'
      exact ⟨_, ⟨fits_iff.mp hz, rfl⟩, wpR.fin (a := ((y.length : Int) != 0)) h' s rfl⟩
    · rw [Bool.not_eq_true _ |>.mp hz] at h'
      exact h'.elim
  | ty n => exact h.elim
  | cl c => exact h.elim
  | tup q z => exact ⟨_, .inr (.inl ⟨_, q, z.emp⟩), h.fin s rfl⟩
  | @loc i a q =>
    unfold truV at h
    dsimp only at h
    split at h
    · rename_i ws e
      obtain ⟨vs, h1, h2⟩ := getL_at s e q
      exact ⟨_, .inl ⟨vs, h1, h2.emp⟩, h.fin s rfl⟩
    · exact h.elim

section
variable {X : Cx} {g : G} {Wx : WX} {k : Nat} {pos : Pos} {a b c : Expr} {x y z : XE} {p q : XT}
@[simp] def xtru (x : XE) : XT := fun δ S => (x δ S).bind truV
theorem sq_tru (o : XO X g Wx k) (ha : SE X g Wx a x) (he : ∀ whole, isTrue a X.env whole = (do let v ← whole; standAt a.pos; holding [v] (truthy v)) := by intro _; rfl) : SQ X g Wx a (xtru x) :=
  pt_imp (pt_truth ha he) fun σ H Q ⟨δ, S, ρ, sm, se, h⟩ => ⟨δ, S, ρ, sm, se, wpR.imp (wpR.bind (rel := Rel g) h) fun v H1 ⟨ρ1, w, S1, e1, s1, r1, h1⟩ => o.K ▸ truV_ok s1 r1 h1⟩
theorem sq_not (hp : SQ X g Wx a p) : SQ X g Wx (.UnaryOp .Not a pos) (xnot p) :=
  pt_imp (pt_not hp) fun σ H Q ⟨δ, S, ρ, sm, se, h⟩ => ⟨δ, S, ρ, sm, se, wpR.imp (wpR.bind (rel := relB) h) fun v H1 ⟨ρ1, w, S1, e1, s1, r1, h1⟩ => by
    cases r1
    exact h1.fin s1 rfl⟩
abbrev SW (X : Cx) (g : G) (Wx : WX) (e : Expr) (x : XT) : Prop := PW X e (tQ g Wx x)
theorem sw_and1 (hp : SQ X g Wx a p) : SW X g Wx (.BoolOp .And [a] pos) p := pw_and1 hp
theorem sw_or1 (hp : SQ X g Wx a p) : SW X g Wx (.BoolOp .Or [a] pos) p := pw_or1 hp
theorem sw_and {rest : List Expr} (hp : SQ X g Wx a p) (hq : SW X g Wx (.BoolOp .And (b :: rest) pos) q) : SW X g Wx (.BoolOp .And (a :: b :: rest) pos) (xand p q) :=
  pw_imp (pw_and hp hq) fun σ H Q ⟨δ, S, ρ, sm, se, h⟩ => ⟨δ, S, ρ, sm, se, wpR.imp (wpR.bind (rel := relB) h) fun v H1 ⟨ρ1, w, S1, e1, s1, r1, h1⟩ => by
    cases r1
    cases v with
    | true => exact ⟨δ, S1, ρ1, s1, se.mono e1, h1⟩
    | false => exact h1.fin s1 rfl⟩
theorem sw_or {rest : List Expr} (hp : SQ X g Wx a p) (hq : SW X g Wx (.BoolOp .Or (b :: rest) pos) q) : SW X g Wx (.BoolOp .Or (a :: b :: rest) pos) (xor p q) :=
  pw_imp (pw_or hp hq) fun σ H Q ⟨δ, S, ρ, sm, se, h⟩ => ⟨δ, S, ρ, sm, se, wpR.imp (wpR.bind (rel := relB) h) fun v H1 ⟨ρ1, w, S1, e1, s1, r1, h1⟩ => by
    cases r1
    cases v with
    | true => exact h1.fin s1 rfl
    | false => exact ⟨δ, S1, ρ1, s1, se.mono e1, h1⟩⟩
theorem sq_boo (h : SW X g Wx a p) : SQ X g Wx a p := h.pt
/-- and, or as values: the operands are bools -/
@[simp] def xandV (x y : XE) : XE := fun δ S => (x δ S).bind fun w S1 => match w with
  | .bl true => y δ S1
  | .bl false => .ok (.bl false) S1
  | _ => .bad
@[simp] def xorV (x y : XE) : XE := fun δ S => (x δ S).bind fun w S1 => match w with
  | .bl true => .ok (.bl true) S1
  | .bl false => y δ S1
  | _ => .bad
@[simp] def xnotV (x : XE) : XE := fun δ S => (x δ S).bind fun w S1 => match w with
  | .bl b => .ok (.bl (!b)) S1
  | _ => .bad
theorem se_one {op : BoolOp} (ha : SE X g Wx a x) : SE X g Wx (.BoolOp op [a] pos) x := pe_one ha
theorem se_and {rest : List Expr} (ha : SE X g Wx a x) (hb : SE X g Wx (.BoolOp .And (b :: rest) pos) y) : SE X g Wx (.BoolOp .And (a :: b :: rest) pos) (xandV x y) :=
  pe_imp (pe_and ha hb) fun σ H Q ⟨δ, S, ρ, sm, se, h⟩ => ⟨δ, S, ρ, sm, se, wpR.imp (wpR.bind (rel := Rel g) h) fun v H1 ⟨ρ1, w, S1, e1, s1, r1, h1⟩ => by
    cases r1 with
    | bl t =>
      refine ⟨t, rfl, ?_⟩
      cases t with
      | true => exact ⟨δ, S1, ρ1, s1, se.mono e1, h1⟩
      | false => exact h1.fin s1 (.bl false)
    | _ => exact h1.elim⟩
theorem se_or {rest : List Expr} (ha : SE X g Wx a x) (hb : SE X g Wx (.BoolOp .Or (b :: rest) pos) y) : SE X g Wx (.BoolOp .Or (a :: b :: rest) pos) (xorV x y) :=
  pe_imp (pe_or ha hb) fun σ H Q ⟨δ, S, ρ, sm, se, h⟩ => ⟨δ, S, ρ, sm, se, wpR.imp (wpR.bind (rel := Rel g) h) fun v H1 ⟨ρ1, w, S1, e1, s1, r1, h1⟩ => by
    cases r1 with
    | bl t =>
      refine ⟨t, rfl, ?_⟩
      cases t with
      | true => exact h1.fin s1 (.bl true)
      | false => exact ⟨δ, S1, ρ1, s1, se.mono e1, h1⟩
    | _ => exact h1.elim⟩
theorem se_not (ha : SE X g Wx a x) : SE X g Wx (.UnaryOp .Not a pos) (xnotV x) :=
  pe_imp (pe_not ha) fun σ H Q ⟨δ, S, ρ, sm, se, h⟩ => ⟨δ, S, ρ, sm, se, wpR.imp (wpR.bind (rel := Rel g) h) fun v H1 ⟨ρ1, w, S1, e1, s1, r1, h1⟩ => by
    cases r1 with
    | bl t => exact ⟨t, rfl, h1.fin s1 (.bl _)⟩
    | _ => exact h1.elim⟩
theorem se_ite (hp : SQ X g Wx c p) (ha : SE X g Wx a x) (hb : SE X g Wx b y) : SE X g Wx (.IfExp c a b pos) (xite p x y) :=
  pe_imp (pe_ifExp hp ha hb) fun σ H Q ⟨δ, S, ρ, sm, se, h⟩ => ⟨δ, S, ρ, sm, se, wpR.imp (wpR.bind (rel := relB) h) fun v H1 ⟨ρ1, w, S1, e1, s1, r1, h1⟩ => by
    cases r1
    cases v with
    | true => exact ⟨δ, S1, ρ1, s1, se.mono e1, h1⟩
    | false => exact ⟨δ, S1, ρ1, s1, se.mono e1, h1⟩⟩
/-- a op b op' c -/
@[simp] def xchain (f f' : Va → Va → Sto → Rs Bool) (x y z : XE) : XT := fun δ S => (x δ S).bind fun u S1 => (y δ S1).bind fun v S2 => (f u v S2).bind fun t S3 => if t then (z δ S3).bind fun w S4 => f' v w S4 else .ok false S3
theorem wp_boo {g : G} {Wx : WX} {σ : L2.St} {ρ : List Addr} {H : Hp} {r : Rs Bool} {Q : VK} (h : wpR g Wx σ (Rel g) ρ H (r.bind fun b S => .ok (.bl b) S) Q) : wpR g Wx σ relB ρ H r fun b H' => Q (.bl b) H' := by
  cases r with
  | ok b S' => exact fun ρ' H' b' e s r => by cases r; exact h ρ' H' (.bl b) e s (.bl b)
  | ex c fs S' => exact h
  | bad => exact h
theorem chain_in {op op' : CmpOp} {r r' : R2} {f f' : Va → Va → Sto → Rs Bool} (hf : OpB g r f) (hf' : OpB g r' f') (σ : L2.St) (H : Hp) (Q : VK) (h0 : ∃ δ S ρ, Sim g ρ S H ∧ SimE g ρ H δ σ ∧ wpR g Wx σ relB ρ H (xchain f f' x y z δ S) fun b H' => Q (.bl b) H') : tChain r r' (tE g Wx x) (tE g Wx y) (tE g Wx z) σ H Q := by
  obtain ⟨δ, S, ρ, sm, se, h⟩ := h0
  refine ⟨δ, S, ρ, sm, se, wpR.imp (wpR.bind (rel := Rel g) h) fun v H1 ⟨ρ1, a, S1, e1, s1, r1, h1⟩ => ?_⟩
  refine ⟨δ, S1, ρ1, s1, se.mono e1, wpR.imp (wpR.bind (rel := Rel g) h1) fun u H2 ⟨ρ2, b, S2, e2, s2, r2, h2⟩ => ?_⟩
  refine hf Wx σ ρ2 S2 H2 a b v u _ s2 (r1.mono e2) r2 (wpR.imp (wpR.bind (rel := relB) h2) fun t H3 ⟨ρ3, t', S3, e3, s3, r3, h3⟩ => ?_)
  cases r3
  refine ⟨t, rfl, ?_⟩
  cases t with
  | false => exact h3.fin s3 rfl
  | true =>
    refine ⟨δ, S3, ρ3, s3, se.mono ((e1.trans e2).trans e3), wpR.imp (wpR.bind (rel := Rel g) h3) fun w H4 ⟨ρ4, c, S4, e4, s4, r4, h4⟩ => ?_⟩
    exact hf' Wx σ ρ4 S4 H4 b c u w Q s4 (r2.mono (e3.trans e4)) r4 h4
theorem se_chain {op op' : CmpOp} {r r' : R2} {f f' : Va → Va → Sto → Rs Bool} (ho : OpR X (compareOp op) r) (ho' : OpR X (compareOp op') r') (hf : OpB g r f) (hf' : OpB g r' f') (ha : SE X g Wx a x) (hb : SE X g Wx b y) (hc : SE X g Wx c z)
    (hm : lastMarks [op, op'] [b, c] = false := by with_unfolding_all rfl) : SE X g Wx (.Compare a [op, op'] [b, c] pos) (xboo (xchain f f' x y z)) :=
  pe_imp (pe_chain ho ho' ha hb hc hm) fun σ H Q ⟨δ, S, ρ, sm, se, h⟩ => chain_in (op := op) (op' := op') hf hf' σ H Q ⟨δ, S, ρ, sm, se, wp_boo h⟩
theorem sq_chain {op op' : CmpOp} {r r' : R2} {f f' : Va → Va → Sto → Rs Bool} (ho : OpR X (compareOp op) r) (ho' : OpR X (compareOp op') r') (hf : OpB g r f) (hf' : OpB g r' f') (ha : SE X g Wx a x) (hb : SE X g Wx b y) (hc : SE X g Wx c z)
    (hm : lastMarks [op, op'] [b, c] = false := by with_unfolding_all rfl) : SQ X g Wx (.Compare a [op, op'] [b, c] pos) (xchain f f' x y z) :=
  pt_imp (pt_chain ho ho' ha hb hc hm) fun σ H Q ⟨δ, S, ρ, sm, se, h⟩ => chain_in (op := op) (op' := op') hf hf' σ H _ ⟨δ, S, ρ, sm, se, wpR.imp h fun b H' q => ⟨b, rfl, q⟩⟩

/-! ### arguments, displays -/
variable {es : List Expr} {r : XA}
theorem sa_nil : SA X g Wx [] anil := pa_imp pa_nil fun σ H Q ⟨δ, S, ρ, sm, se, h⟩ => h.fin sm .nil
theorem sa_cons (ha : SE X g Wx a x) (hr : SA X g Wx es r) (hs : starEach (a :: es) X.env = (false, eval a X.env) :: starEach es X.env := by rfl) : SA X g Wx (a :: es) (acons x r) :=
  pa_imp (pa_cons ha hr hs) fun σ H Q ⟨δ, S, ρ, sm, se, h⟩ => ⟨δ, S, ρ, sm, se, wpR.imp (wpR.bind (rel := Rel g) h) fun v H1 ⟨ρ1, w, S1, e1, s1, r1, h1⟩ =>
    ⟨δ, S1, ρ1, s1, se.mono e1, wpR.imp (wpR.bind (rel := RelL g) h1) fun vs H2 ⟨ρ2, ws, S2, e2, s2, r2, h2⟩ => h2.fin s2 (.cons (r1.mono e2) r2)⟩⟩
@[simp] def xtup (r : XA) : XE := fun δ S => (r δ S).bind ltup
@[simp] def xlst (r : XA) : XE := fun δ S => (r δ S).bind llst
theorem new_tup {σ : L2.St} {ρ : List Addr} {S : Sto} {H : Hp} {ws : List Va} {vs : List V} {Q : VK} (s : Sim g ρ S H) (r : RelL g ρ H ws vs) (h : wpR g Wx σ (Rel g) ρ H (ltup ws S) Q) : vs.length ≤ sizeLine ∧ ∀ p, H p = none → Q (.ref p) (upd H p (.tup vs)) := by
  unfold ltup at h
  by_cases hz : fits ws.length = true
  · rw [hz] at h
    refine ⟨by rw [← r.length]; exact fits_iff.mp hz, fun p hp => ?_⟩
    exact wpR.fin_at (a := Va.tup ws) h (ext_upd hp) (s.aside hp) (.tup (.of upd_same) (r.mono (ext_upd hp)))
  · rw [Bool.not_eq_true _ |>.mp hz] at h
    exact h.elim
theorem new_lst {σ : L2.St} {ρ : List Addr} {S : Sto} {H : Hp} {ws : List Va} {vs : List V} {Q : VK} (s : Sim g ρ S H) (r : RelL g ρ H ws vs) (h : wpR g Wx σ (Rel g) ρ H (llst ws S) Q) : vs.length ≤ sizeLine ∧ ∀ p, H p = none → Q (.ref p) (upd H p (.lst vs)) := by
  unfold llst at h
  by_cases hz : fits ws.length = true
  · rw [hz] at h
    refine ⟨by rw [← r.length]; exact fits_iff.mp hz, fun p hp => ?_⟩
    obtain ⟨s1, e1⟩ := s.laid (o := .lst ws) (u := .lst vs) hp (fun ρ' H' e q => ⟨vs, q, r.mono e⟩) rfl
    exact wpR.fin_at (a := Va.loc S.length) h e1 s1 (.loc (by rw [s.len]; simp))
  · rw [Bool.not_eq_true _ |>.mp hz] at h
    exact h.elim
theorem se_tup {n : Nat} (hr : SA X g Wx es r) {x1} : SE X g Wx (.Tuple es x1 pos) (xtup r) :=
  pe_imp (pe_tup hr) fun σ H Q ⟨δ, S, ρ, sm, se, h⟩ => ⟨δ, S, ρ, sm, se, wpR.imp (wpR.bind (rel := RelL g) h) fun vs H1 ⟨ρ1, ws, S1, e1, s1, r1, h1⟩ => new_tup s1 r1 h1⟩
theorem se_lst (hr : SA X g Wx es r) : SE X g Wx (.List es pos) (xlst r) :=
  pe_imp (pe_lst hr) fun σ H Q ⟨δ, S, ρ, sm, se, h⟩ => ⟨δ, S, ρ, sm, se, wpR.imp (wpR.bind (rel := RelL g) h) fun vs H1 ⟨ρ1, ws, S1, e1, s1, r1, h1⟩ => new_lst s1 r1 h1⟩

/-! ### statements -/
variable {s t : XS} {st : Stmt} {rest : List Stmt}
@[simp] def snext : XS := fun δ S => .nx δ S
@[simp] def sseq (s t : XS) : XS := fun δ S => (s δ S).next t
theorem sb_nil : SB X g Wx [] snext := pb_imp pss_nil fun D σ H ⟨δ, S, ρ, sm, se, h⟩ => h ρ H σ .refl sm se
theorem sb_cons (h1 : SS X g Wx st s) (h2 : SB X g Wx rest t) : SB X g Wx (st :: rest) (sseq s t) :=
  pb_imp (pss_cons h1 h2) fun D σ H ⟨δ, S, ρ, sm, se, h⟩ => by
    refine ⟨δ, S, ρ, sm, se, ?_⟩
    unfold sseq at h
    cases q : s δ S with
    | nx δ' S' =>
      rw [q] at h
      exact fun ρ' H' σ' e1 s1 se1 => ⟨δ', S', ρ', s1, se1, wpS.ext e1 h⟩
    | bk δ' S' => rw [q] at h; exact h
    | ct δ' S' => rw [q] at h; exact h
    | rt w S' => rw [q] at h; exact h
    | ex c fs δ' S' => rw [q] at h; exact h
    | bad => rw [q] at h; exact h
theorem sb_one (h1 : SS X g Wx st s) : SB X g Wx [st] s := pss_one h1
@[simp] def sset (i : Nat) (x : XE) : XS := fun δ S => (x δ S).out δ fun w S1 => .nx (δ.set i (some w)) S1
theorem ss_set (o : XO X g Wx k) (i : Nat) {n : Str} {e : Expr} {pos' : Pos} (he : SE X g Wx e x) (hi : X.N[i]? = some n := by rfl) (hx : Loc X.env.scope n := by first | exact Or.inl rfl | exact Or.inr rfl)
    (hs : swapsWith e (some (.Name n pos')) pos.line X.env = pure false := by rfl) (hf : X.fn n = true ∨ X.env.scope.names.lookup n = some .local := by first | exact .inl rfl | exact .inr rfl) :
    SS X g Wx (.Assign [.Name n pos'] e pos) (sset i x) :=
  ps_imp (ps_asg he (pg_name (i := i) o.nd hi hx hf) (by first | exact hs | rfl)) fun D σ H ⟨δ, S, ρ, sm, se, h⟩ => ⟨δ, S, ρ, sm, se, wpR.imp (wpR.out (rel := Rel g) se h) fun v H1 ⟨ρ1, w, S1, e1, s1, r1, h1⟩ =>
    h1 ρ1 H1 _ .refl s1 ((se.mono e1).put r1)⟩
@[simp] def sexp (x : XE) : XS := fun δ S => (x δ S).out δ fun _ S1 => .nx δ S1
theorem ss_exp {e : Expr} (he : SE X g Wx e x) (hs : swapsWith e none pos.line X.env = pure false := by rfl) : SS X g Wx (.Expr e pos) (sexp x) :=
  ps_imp (ps_expr he hs) fun D σ H ⟨δ, S, ρ, sm, se, h⟩ => ⟨δ, S, ρ, sm, se, wpR.imp (wpR.out (rel := Rel g) se h) fun v H1 ⟨ρ1, w, S1, e1, s1, r1, h1⟩ => h1 ρ1 H1 _ .refl s1 (se.mono e1)⟩
@[simp] def sret (x : XE) : XS := fun δ S => (x δ S).out δ fun w S1 => .rt w S1
theorem ss_ret {e : Expr} (he : SE X g Wx e x) : SS X g Wx (.Return (some e) pos) (sret x) :=
  ps_imp (ps_ret he) fun D σ H ⟨δ, S, ρ, sm, se, h⟩ => ⟨δ, S, ρ, sm, se, wpR.imp (wpR.out (rel := Rel g) se h) fun v H1 ⟨ρ1, w, S1, e1, s1, r1, h1⟩ => h1 ρ1 H1 _ .refl s1 r1⟩
@[simp] def sretN : XS := fun _ S => .rt .non S
theorem ss_retN : SS X g Wx (.Return none pos) sretN := ps_imp ps_retN fun D σ H ⟨δ, S, ρ, sm, se, h⟩ => h ρ H _ .refl sm .non
theorem ss_pass : SS X g Wx (.Pass pos) snext := ps_imp ps_pass fun D σ H ⟨δ, S, ρ, sm, se, h⟩ => h ρ H σ .refl sm se
@[simp] def sbrk : XS := fun δ S => .bk δ S
@[simp] def scnt : XS := fun δ S => .ct δ S
theorem ss_brk : SS X g Wx (.Break pos) sbrk := ps_imp ps_break fun D σ H ⟨δ, S, ρ, sm, se, h⟩ => h ρ H σ .refl sm se
theorem ss_cnt : SS X g Wx (.Continue pos) scnt := ps_imp ps_continue fun D σ H ⟨δ, S, ρ, sm, se, h⟩ => h ρ H σ .refl sm se
@[simp] def sif (p : XT) (s t : XS) : XS := fun δ S => (p δ S).out δ fun b S1 => if b then s δ S1 else t δ S1
theorem ss_if {A B : List Stmt} (hp : SQ X g Wx c p) (ha : SB X g Wx A s) (hb : SB X g Wx B t) : SS X g Wx (.If c A B pos) (sif p s t) :=
  ps_imp (ps_if hp ha hb) fun D σ H ⟨δ, S, ρ, sm, se, h⟩ => ⟨δ, S, ρ, sm, se, wpR.imp (wpR.out (rel := relB) se h) fun v H1 ⟨ρ1, w, S1, e1, s1, r1, h1⟩ => by
    cases r1
    cases v with
    | true => exact ⟨δ, S1, ρ1, s1, se.mono e1, h1⟩
    | false => exact ⟨δ, S1, ρ1, s1, se.mono e1, h1⟩⟩
@[simp] def sraise (c : Nat) : XS := fun δ S => .ex c [] δ S
theorem ss_raise (o : XO X g Wx k) {c : Nat} {n m : Str} {j : Nat} {p2 pos' pos2 : Pos} {bmB : List Value} {B newId initId : String} (F : PySem.ExcBaseFacts B newId initId bmB) (q : PySem.W.excIn X.K (g.cls c) bmB newId = true) (gC : X.mg n = some (.ref (g.cls c)))
    (kC : PySem.W.keepIn X.K (.ref (g.cls c)) = true) (rs : Raises X (.ref (g.cls c))) (hg : Gl X n := by rfl) (hdb : (n == ("__debug__" : Str)) = false := by decide) : SS X g Wx (.Raise (some (.Call (.Name n p2) [.Constant (.str m) j pos2] [] pos')) none pos) (sraise c) :=
  ps_imp (ps_raise o.calm o.tk (pmk_own F q gC kC rs hg hdb)) fun D σ H ⟨δ, S, ρ, sm, se, h⟩ => h ρ H σ none .refl sm se (.inl ⟨rfl, rfl⟩)
end
end Rz
namespace Rz
open PySem PySem.Spec PyProof.Rows L2

/-! ### defs: as the hand layer's FnOk, where no guard stands around -/
structure FnG (P : Program) (w : World) (K : PySem.W.Frag) (mg : Str → Option Value) (base : Heap) (k : Nat) (f : Addr) (fd : FuncData) (ps : List Str) (sp : Sp) : Prop where
  len : ∀ vs H Q E, sp vs H Q E → vs.length = ps.length
  run : ∀ (A : Around) (outer : List PySem.Env) (s : Shared) (H : Hp) (args : Args) (us : List Value) (vs : List V) (Q : VK) (E : XK), Room k A → A.guards = some [] →
    Env0 P w K mg base A outer s H → BindsTo s fd args (ps.zip us) → Vals vs us → sp vs H Q E →
    codeAny (model P w) A (.call (.ref f) args) (CR (L2.CX P w) outer P w H s Q E) s
theorem FnG.mono {P : Program} {w : World} {K : PySem.W.Frag} {mg : Str → Option Value} {base : Heap} {j k : Nat} {f : Addr} {fd : FuncData} {ps : List Str} {sp : Sp} (F : FnG P w K mg base j f fd ps sp) (h : j ≤ k) : FnG P w K mg base k f fd ps sp :=
  ⟨F.len, fun A outer s H args us vs Q E hr => F.run A outer s H args us vs Q E (hr.mono h)⟩
/-- the promise of a def whose meaning is m, of n parameters -/
def spM (g : G) (n : Nat) (m : List Va → Sto → Rs Va) : Sp := fun vs H Q E => vs.length = n ∧ ∃ ws S ρ, Sim g ρ S H ∧ RelL g ρ H ws vs ∧ wpR g (fun c d _ H' => E c d H') [] (Rel g) ρ H (m ws S) Q
/-- a body's meaning as a def's -/
def Out.fin (o : Out) : Rs Va := match o with
  | .rt w S' => .ok w S'
  | .nx _ S' => .ok .non S'
  | .ex c fs _ S' => .ex c fs S'
  | _ => .bad
@[simp] def mkFn (n : Nat) (s : XS) (ws : List Va) (S : Sto) : Rs Va := (s (ws.map some ++ List.replicate (n - ws.length) none) S).fin
theorem simE_start {g : G} {ρ : List Addr} {H : Hp} {ws : List Va} {vs : List V} {N : List Str} (r : RelL g ρ H ws vs) : SimE g ρ H (ws.map some ++ List.replicate (N.length - ws.length) none) (L2.start N vs) := by
  have hl := r.length
  refine ⟨by unfold L2.start; simp [hl], fun i w q => ?_⟩
  have hlt : i < ws.length := by
    rcases Nat.lt_or_ge i ws.length with h | h
    · exact h
    · rw [List.getElem?_append_right (by simpa using h)] at q
      have z := (List.getElem?_eq_some_iff.mp q).2
      simp at z
  rw [List.getElem?_append_left (by simpa using hlt), List.getElem?_map] at q
  have q' : ws[i]? = some w := by
    cases e : ws[i]? with
    | none => rw [e] at q; cases q
    | some w' => rw [e] at q; simpa using q
  obtain ⟨v, h1, h2⟩ := r.get q'
  refine ⟨v, ?_, h2⟩
  unfold L2.start
  rw [List.getElem?_append_left (by simp; omega), List.getElem?_map, h1]
  rfl
abbrev Eo (E : XK) : WX := fun c d _ H' => E c d H'
/-- THE RULE for a def -/
theorem fng_of {g : G} {P : Program} {w : World} {K : PySem.W.Frag} {mg : Str → Option Value} {base : Heap} {x qual : Str} {st : Stmt} {f : Addr} {fd : FuncData} {N ps : List Str} {k n : Nat} {sem : XS} (F : Fun K x qual st f fd) (S : FnScope N ps (defScope st)) (hK : g.K = K)
    (hn : ps.length = n)
    (hbody : ∀ (cdv : Value) (A : Around) (outer : List PySem.Env) (s : Shared) (H : Hp) (E : XK), XO (cxOf (L2.CX P w) P w K mg base N qual (defScope st) f cdv A outer s H E) g (Eo E) k →
      SB (cxOf (L2.CX P w) P w K mg base N qual (defScope st) f cdv A outer s H E) g (Eo E) (defBody st) sem)
    (hgP : g.P = P := by rfl) (hgw : g.w = w := by rfl) :
    FnG P w K mg base (k + 1) f fd ps (spM g n (mkFn N.length sem)) := by
  obtain ⟨oc, od, kV, doc, pm, an, cdv, ct, osl, rfl, lk, hcd⟩ := F.ex
  refine ⟨fun vs H Q E h => h.1.trans hn.symm, fun A outer s H args us vs Q E hr hgd e0 hb r hsp => ?_⟩
  obtain ⟨hl, ws, T, ρ, sm, rl, hw⟩ := hsp
  have hl' : vs.length = ps.length := hl.trans hn.symm
  have at0 : ∀ b o, base.get? b = some o → s.heap.get? b = some o := fun b o e => (e0.bs b o e).1
  have KX : K.In s.heap := e0.mod.kin.keeps at0
  have hkind : ∀ y ∈ ps.zip us, (defScope st).names.lookup y.1 = some .local ∨ ((defScope st).names.lookup y.1 = some .cell ∧ ((cellsFrom (s.heap.objs.size + 1) (defScope st).names []).lookup y.1).isSome = true) := by
    intro y hy
    obtain ⟨nm, v⟩ := y
    rcases S.par nm (List.of_mem_zip hy).1 with q | q
    · left; exact q
    · right; exact ⟨q, PySem.W.cellsFrom_some _ _ _ (.inl q)⟩
  refine codeAny_call_function hr.depth (KX _ _ lk) rfl S.co S.gen rfl (PySem.W.codeRec_of KX hcd) (hb _ _ _ _ (wpAny_newFunctionEnv_cells S.kind hkind fun env he s1 x => ?_))
  subst he
  refine ⟨(e0.mod.nolimit.keeps at0).keeps x.toInCall.keep, codeAny_func ?_⟩
  have xo : XO (cxOf (L2.CX P w) P w K mg base N qual (defScope st) f cdv A outer s H E) g (Eo E) k := ⟨hK, S.nd, rfl, hr.deeper _, hgd, takes_of rfl rfl rfl rfl, passes_of rfl, hgP, hgw⟩
  have ht := hbody cdv A outer s H E xo
  have I : Inv (cxOf (L2.CX P w) P w K mg base N qual (defScope st) f cdv A outer s H E) [] (L2.start N vs) H s1 := inv_start S hr.hd e0 hl' r x
  have fin : ∀ {σ' : L2.St} {H' : Hp} {s' : Shared} {v : V} {u : Value}, Inv (cxOf (L2.CX P w) P w K mg base N qual (defScope st) f cdv A outer s H E) [] σ' H' s' → RelV v u → Q v H' → CE outer P w H s Q u s' :=
    fun {σ' H' s' v u} J rv q => ⟨v, H', J.os, J.bare, J.base, J.hok, rv, q⟩
  have hq : tS g (Eo E) sem { nx := fun _ H' => Q .non H', rt := Q } (L2.start N vs) H := by
    refine ⟨_, T, ρ, sm, simE_start rl, ?_⟩
    unfold mkFn at hw
    unfold Out.fin at hw
    generalize sem (ws.map some ++ List.replicate (N.length - ws.length) none) T = z at hw ⊢
    cases z with
    | nx δ S' => exact fun ρ' H' σ' e a b => hw ρ' H' .non e a .non
    | rt w S' => exact hw
    | ex c fs δ S' => exact fun ρ' H' σ' d e a b c => hw ρ' H' d e a c
    | bk δ S' => exact hw.elim
    | ct δ S' => exact hw.elim
    | bad => exact hw.elim
  refine wpAny_mono (ht.run [] s1 (L2.start N vs) H _ I hq) (fun fl s' hs => ?_) fun e s' hs => hs
  cases fl with
  | ret u => obtain ⟨v, σ', H', J, rv, q⟩ := hs; exact fin J rv q
  | next => obtain ⟨σ', H', J, q⟩ := hs; exact fin (v := V.non) (u := Value.none) J rfl q
  | brk => obtain ⟨_, _, _, q⟩ := hs; exact q.elim
  | cont => obtain ⟨_, _, _, q⟩ := hs; exact q.elim

section
variable {X : Cx} {g : G} {Wx : WX} {k : Nat} {pos : Pos} {a b c : Expr} {es : List Expr} {x y z : XE} {r : XA}
theorem run_g (o : XO X g Wx k) {f : Addr} {fd : FuncData} {ps : List Str} {m : List Va → Sto → Rs Va} {n : Nat} {pins : List (Addr × Obj)} {σ : L2.St} {ρ : List Addr} {S : Sto} {H : Hp} {s : Shared} {Q : VK} {us : List Value} {vs : List V} {ws : List Va}
    (F : FnG X.prog X.w X.K X.mg X.base k f fd ps (spM g n m)) (hb : Binds X.K fd ps []) (hn : ws.length = n) (sm : Sim g ρ S H) (rl : RelL g ρ H ws vs) (I : Inv X pins σ H s) (rv : Vals vs us) (h : wpR g Wx σ (Rel g) ρ H (m ws S) Q) :
    wpAny (model X.prog X.w) X.A (PySem.call (.ref f) us) (EP X pins σ Q) X.xe s := by
  have h' : spM g n m vs H Q (WE Wx σ) := by
    refine ⟨by rw [← rl.length]; exact hn, ws, S, ρ, sm, rl, ?_⟩
    cases q : m ws S with
    | ok w S' => rw [q] at h; exact h
    | ex c fs S' => rw [q] at h; exact h
    | bad => rw [q] at h; exact h
  have hl : us.length = ps.length := by
    rw [← rv.length]
    exact F.len _ _ _ _ h'
  have bd := hb s us I.kIn (by simpa using hl)
  rw [List.append_nil] at bd
  refine wpAny_call (codeAny_mono (F.run X.A X.stack s H ⟨us, []⟩ us vs Q _ o.room o.grd I.env0 bd rv h') fun res s' hq => ?_)
  cases res with
  | error e => exact passAt o.tk σ pins H s e s' I hq
  | ok fl =>
    cases fl with
    | ret u => exact I.after hq
    | _ => exact False.elim hq
/-- f(e, ..) -/
@[simp] def ycall (n : Nat) (m : List Va → Sto → Rs Va) (r : XA) : XE := fun δ S => (r δ S).bind fun ws S1 => if ws.length = n then m ws S1 else .bad
theorem se_call (o : XO X g Wx k) {j : Nat} {f : Addr} {fd : FuncData} {ps : List Str} {nm : Str} {p : Pos} {m : List Va → Sto → Rs Va} {n : Nat} (F : FnG X.prog X.w X.K X.mg X.base j f fd ps (spM g n m)) (hj : j ≤ k) (hm : X.mg nm = some (.ref f)) (hk : PySem.W.keepIn X.K (.ref f) = true)
    (hb : Binds X.K fd ps []) (ha : SA X g Wx (a :: es) r) (hg : Gl X nm := by rfl) (hdb : (nm == ("__debug__" : Str)) = false := by decide) (he : starEach (a :: es) X.env = (false, eval a X.env) :: starEach es X.env := by rfl)
    (hpl : (backTo pos (starEach es X.env)).any (·.1) = false := by rfl) : SE X g Wx (.Call (.Name nm p) (a :: es) [] pos) (ycall n m r) := by
  refine ⟨fun pins s σ H Q I ⟨δ, S, ρ, sm, se, h⟩ => ?_⟩
  refine wpAny_Call_Name_kw (ld_glob I hg hm (PySem.W.callWith_K (h₀ := X.base) I.ok.mod.kin hk (thn (ha.run pos pins s σ H _ I ⟨δ, S, ρ, sm, se, wpR.bind (rel := RelL g) h⟩) fun us s1 hh => ?_) he hpl) hdb)
  obtain ⟨vs, H1, I1, rv, ρ1, ws, S1, e1, s1', r1, h1⟩ := hh
  refine ⟨I1.kIn, ?_⟩
  by_cases hn : ws.length = n
  · rw [if_pos hn] at h1
    exact run_g o (F.mono hj) hb hn s1' r1 I1 rv h1
  · rw [if_neg hn] at h1
    exact h1.elim
theorem se_call0 (o : XO X g Wx k) {j : Nat} {f : Addr} {fd : FuncData} {ps : List Str} {nm : Str} {p : Pos} {m : List Va → Sto → Rs Va} {n : Nat} (F : FnG X.prog X.w X.K X.mg X.base j f fd ps (spM g n m)) (hj : j ≤ k) (hm : X.mg nm = some (.ref f)) (hk : PySem.W.keepIn X.K (.ref f) = true)
    (hb : Binds X.K fd ps []) (hg : Gl X nm := by rfl) (hdb : (nm == ("__debug__" : Str)) = false := by decide) : SE X g Wx (.Call (.Name nm p) [] [] pos) (ycall n m anil) := by
  refine ⟨fun pins s σ H Q I ⟨δ, S, ρ, sm, se, h⟩ => ?_⟩
  refine wpAny_Call_Name_kw (ld_glob I hg hm ?_ hdb)
  have h1 : wpR g Wx σ (Rel g) ρ H (if ([] : List Va).length = n then m [] S else .bad) Q := h
  by_cases hn : ([] : List Va).length = n
  · rw [if_pos hn] at h1
    exact PySem.W.callWith_K0 I.kIn hk (run_g (us := []) o (F.mono hj) hb hn sm .nil I .nil h1)
  · rw [if_neg hn] at h1
    exact h1.elim

/-! ### targets -/
/-- a target's store, in the environment -/
abbrev XP := Va → Env → Option Env
/-- a target's reading: sl the slots that it may change -/
def tP (g : G) (p : XP) (sl : List Nat) : TG := fun v σ H Q => ∃ δ w ρ δ', Rel g ρ H w v ∧ SimE g ρ H δ σ ∧ p w δ = some δ' ∧ ∀ σ', SimE g ρ H δ' σ' → σ'.length = σ.length → (∀ j, j ∉ sl → σ'[j]? = σ[j]?) → Q σ' H
theorem pg_imp {tg : Expr} {t t' : TG} (h : PG X tg t) (k : ∀ v σ H Q, t' v σ H Q → t v σ H Q) : PG X tg t' := ⟨fun pins s σ H x v Q I r q => h.run pins s σ H x v Q I r (k _ _ _ _ q)⟩
theorem pgs_imp {tg : List Expr} {t t' : TGs} (h : PGs X tg t) (k : ∀ v σ H Q, t' v σ H Q → t v σ H Q) : PGs X tg t' := ⟨fun pins s σ H x v Q I r q => h.run pins s σ H x v Q I r (k _ _ _ _ q)⟩
abbrev SG (X : Cx) (g : G) (tg : Expr) (p : XP) (sl : List Nat) : Prop := PG X tg (tP g p sl)
@[simp] def pname (i : Nat) : XP := fun w δ => some (δ.set i (some w))
theorem sg_name (o : XO X g Wx k) (i : Nat) {n : Str} {p : Pos} (hi : X.N[i]? = some n := by rfl) (hx : Loc X.env.scope n := by first | exact Or.inl rfl | exact Or.inr rfl) (hf : X.fn n = true ∨ X.env.scope.names.lookup n = some .local := by first | exact .inl rfl | exact .inr rfl) :
    SG X g (.Name n p) (pname i) [i] := pg_imp (pg_name (i := i) o.nd hi hx hf) fun v σ H Q ⟨δ, w, ρ, δ', r, se, e, q⟩ => by
    cases e
    exact q _ (se.put r) (by simp) fun j hj => List.getElem?_set_ne (fun z => hj (by rw [z]; exact List.mem_singleton.mpr rfl))
abbrev XPs := List Va → Env → Option Env
def tPs (g : G) (p : XPs) (sl : List Nat) : TGs := fun vs σ H Q => ∃ δ ws ρ δ', RelL g ρ H ws vs ∧ SimE g ρ H δ σ ∧ p ws δ = some δ' ∧ ∀ σ', SimE g ρ H δ' σ' → σ'.length = σ.length → (∀ j, j ∉ sl → σ'[j]? = σ[j]?) → Q σ' H
abbrev SGs (X : Cx) (g : G) (ts : List Expr) (p : XPs) (sl : List Nat) : Prop := PGs X ts (tPs g p sl)
@[simp] def pnil : XPs := fun ws δ => match ws with
  | [] => some δ
  | _ => none
@[simp] def pcons (p : XP) (q : XPs) : XPs := fun ws δ => match ws with
  | w :: ws => (p w δ).bind (q ws)
  | [] => none
theorem sgs_nil : SGs X g [] pnil [] := pgs_imp pgs_nil fun vs σ H Q ⟨δ, ws, ρ, δ', r, se, e, q⟩ => by
  cases r with
  | nil => cases e; exact ⟨rfl, q _ se rfl fun _ _ => rfl⟩
  | cons a b => cases e
theorem sgs_cons {ts : List Expr} {p : XP} {q : XPs} {s1 s2 : List Nat} (hp : SG X g a p s1) (hq : SGs X g ts q s2) (hs : ∀ (t : TG) (u : TGs), PG X a t → PGs X ts u → PGs X (a :: ts) (gCons t u) := by intro t u h1 h2; exact pgs_cons h1 h2) : SGs X g (a :: ts) (pcons p q) (s1 ++ s2) :=
  pgs_imp (hs _ _ hp hq) fun vs σ H Q ⟨δ, ws, ρ, δ', r, se, e, k⟩ => by
    cases r with
    | nil => cases e
    | @cons w ws v vs r1 r2 =>
      have e' : (p w δ).bind (q ws) = some δ' := e
      cases e1 : p w δ with
      | none => rw [e1] at e'; cases e'
      | some δ1 =>
        rw [e1] at e'
        exact ⟨v, vs, rfl, δ, w, ρ, δ1, r1, se, e1, fun σ1 se1 l1 k1 => ⟨δ1, ws, ρ, δ', r2, se1, e', fun σ2 se2 l2 k2 => k σ2 se2 (l2.trans l1) fun j hj => (k2 j fun z => hj (List.mem_append_right _ z)).trans (k1 j fun z => hj (List.mem_append_left _ z))⟩⟩
@[simp] def ptup (n : Nat) (q : XPs) : XP := fun w δ => match w with
  | .tup ws => if ws.length = n then q ws δ else none
  | _ => none
theorem sg_tup (o : XO X g Wx k) {ts : List Expr} {q : XPs} {sl : List Nat} {j : Nat} {p : Pos} (n : Nat) (hq : SGs X g ts q sl) (hs : ∀ u : TGs, X.calm = true → PGs X ts u → PG X (.Tuple ts j p) (gTup X.K n u) := by intro u hc h; exact pg_tup hc h) : SG X g (.Tuple ts j p) (ptup n q) sl :=
  pg_imp (hs _ o.calm hq) fun v σ H Q ⟨δ, w, ρ, δ', r, se, e, k⟩ => by
    cases r with
    | @tup ws vs a s rl =>
      have e' : (if ws.length = n then q ws δ else none) = some δ' := e
      by_cases hn : ws.length = n
      · rw [if_pos hn] at e'
        exact ⟨a, vs, rfl, o.K ▸ s, by rw [← rl.length]; exact hn, δ, ws, ρ, δ', rl, se, e', k⟩
      · rw [if_neg hn] at e'
        cases e'
    | _ => cases e

/-! ### loops -/
/-- what comes next: none: the source is no more what it was; some none: it ends -/
abbrev Nth := Sto → Nat → Option (Option Va)
def nseq (ws : List Va) : Nth := fun _ i => some ws[i]?
def nloc (l : Nat) : Nth := fun S i => (getL S l).map fun ws => ws[i]?
def nrng (lo : Int) (n : Nat) : Nth := fun _ i => some (if i < n then some (.int (lo + i)) else none)
def forG (nth : Nth) (put : XP) (body : XS) : Nat → Nat → XS
  | 0, _ => fun _ _ => .bad
  | n + 1, i => fun δ S => match nth S i with
    | none => .bad
    | some none => .nx δ S
    | some (some w) => match put w δ with
      | none => .bad
      | some δ1 => match body δ1 S with
        | .nx δ2 S2 => forG nth put body n (i + 1) δ2 S2
        | .ct δ2 S2 => forG nth put body n (i + 1) δ2 S2
        | .bk δ2 S2 => .nx δ2 S2
        | o => o
/-- the iterator J gives what nth tells -/
def NthOk (g : G) (ρ0 : List Addr) (H0 : Hp) (nth : Nth) (J : It) : Prop := ∀ i S ρ H, Ext g ρ0 H0 ρ H → Sim g ρ S H →
  (nth S i = some none → J.stop i H) ∧ ∀ w, nth S i = some (some w) → J.go i H ∧ ∀ x H', J.yld i H x H' → Ext g ρ H ρ H' ∧ Sim g ρ S H' ∧ Rel g ρ H' w x
theorem nth_seq {ρ : List Addr} {H : Hp} {ws : List Va} {vs : List V} {q : Addr} (s : SqT g.K H q vs) (r : RelL g ρ H ws vs) : NthOk g ρ H (nseq ws) (Itt g.K q) := fun i S ρ1 H1 e sm => by
  refine ⟨fun h => ⟨vs, e.tup _ _ s, ?_⟩, fun w h => ?_⟩
  · have h' : ws[i]? = none := Option.some.inj h
    rw [← r.length]
    exact List.getElem?_eq_none_iff.mp h'
  · have h' : ws[i]? = some w := Option.some.inj h
    obtain ⟨v, h1, h2⟩ := (r.mono e).get h'
    refine ⟨⟨vs, v, e.tup _ _ s, h1⟩, fun x H' y => ?_⟩
    have z := y.2 vs (e.tup _ _ s)
    rw [h1] at z
    cases z
    rw [y.1]
    exact ⟨.refl, sm, h2⟩
theorem nth_loc {ρ : List Addr} {H : Hp} {l : Nat} {q : Addr} (hq : ρ[l]? = some q) : NthOk g ρ H (nloc l) (Itl g.K q) := fun i S ρ1 H1 e sm => by
  have hq1 := e.at hq
  unfold nloc
  cases hw : getL S l with
  | none => exact ⟨fun h => (by cases h), fun w h => (by cases h)⟩
  | some ws =>
    obtain ⟨vs, h1, h2⟩ := getL_at sm hw hq1
    refine ⟨fun h => ⟨vs, h1, ?_⟩, fun w h => ?_⟩
    · have h' : ws[i]? = none := Option.some.inj h
      rw [← h2.length]
      exact List.getElem?_eq_none_iff.mp h'
    · have h' : ws[i]? = some w := Option.some.inj h
      obtain ⟨v, h3, h4⟩ := h2.get h'
      refine ⟨⟨vs, v, h1, h3⟩, fun x H' y => ?_⟩
      have z := y.2 vs h1
      rw [h3] at z
      cases z
      rw [y.1]
      exact ⟨.refl, sm, h4⟩
theorem nth_rng {ρ : List Addr} {H : Hp} {lo : Int} {n : Nat} : NthOk g ρ H (nrng lo n) (Itr lo n) := fun i S ρ1 H1 e sm => by
  unfold nrng
  by_cases hi : i < n
  · rw [if_pos hi]
    refine ⟨fun h => (by cases h), fun w h => ?_⟩
    cases h
    refine ⟨hi, fun x H' y => ?_⟩
    rw [y.1, y.2]
    exact ⟨.refl, sm, .int _⟩
  · rw [if_neg hi]
    exact ⟨fun _ => Nat.le_of_not_lt hi, fun w h => (by cases h)⟩
/-- what a for (a comprehension) walks: how many turns are allowed, what comes -/
abbrev XI := Env → Sto → Rs (Nat × Nth)
def tI (g : G) (Wx : WX) (x : XI) : TI := fun σ H R => ∃ δ S ρ, Sim g ρ S H ∧ SimE g ρ H δ σ ∧ match x δ S with
    | .ok a S' => ∀ ρ' H' J, Ext g ρ H ρ' H' → Sim g ρ' S' H' → NthOk g ρ' H' a.2 J → R J H'
    | .ex c fs S' => ∀ ρ' H' d, Ext g ρ H ρ' H' → Sim g ρ' S' H' → ExD g ρ' H' c fs d → Wx (.ref (g.cls c)) d σ H'
    | .bad => False
abbrev SI (X : Cx) (g : G) (Wx : WX) (tg it : Expr) (x : XI) : Prop := PI X tg it (tI g Wx x)
theorem pi_imp {tg it : Expr} {w w' : TI} (h : PI X tg it w) (k : ∀ σ H R, w' σ H R → w σ H R) : PI X tg it w' := ⟨fun pins s σ H R I q => h.run pins s σ H R I (k _ _ _ q)⟩
@[simp] def sfor (x : XI) (put : XP) (body : XS) : XS := fun δ S => (x δ S).out δ fun a S1 => forG a.2 put body a.1 0 δ S1
theorem ss_for (o : XO X g Wx k) {tg it : Expr} {B : List Stmt} {xi : XI} {put : XP} {sl : List Nat} {body : XS} (hi : SI X g Wx tg it xi) (hg : SG X g tg put sl) (hb : SB X g Wx B body) (hs : ∀ x, foldedSetIterable it X.env x = pure x := by intro _; rfl) : SS X g Wx (.For tg it B [] pos) (sfor xi put body) := by
  refine ps_imp (ps_for o.po o.calm hi hg hb hs) fun D σ H ⟨δ, S, ρ, sm, se, h⟩ => ?_
  refine ⟨δ, S, ρ, sm, se, ?_⟩
  unfold sfor at h
  cases q : xi δ S with
  | bad => rw [q] at h; exact h
  | ex c fs S' => rw [q] at h; exact fun ρ' H' d e s z => h ρ' H' σ d e s (se.mono e) z
  | ok a S' =>
    rw [q] at h
    have h' : wpS g Wx ρ H D (forG a.2 put body a.1 0 δ S') := h
    intro ρ1 H1 J e1 s1 ok
    refine ⟨fun i m σ H => ∃ δ S ρ, Ext g ρ1 H1 ρ H ∧ Sim g ρ S H ∧ SimE g ρ H δ σ ∧ wpS g Wx ρ H D (forG a.2 put body m i δ S), ⟨a.1, δ, S', ρ1, .refl, s1, se.mono e1, wpS.ext e1 h'⟩, ?_⟩
    rintro i m σ2 H2 ⟨δ2, S2, ρ2, e2, s2, se2, hw⟩
    cases m with
    | zero => exact hw.elim
    | succ m =>
      obtain ⟨k3, k4⟩ := ok i S2 ρ2 H2 e2 s2
      unfold forG at hw
      cases hn : a.2 S2 i with
      | none => rw [hn] at hw; exact hw.elim
      | some ow =>
        rw [hn] at hw
        cases ow with
        | none => exact .inl ⟨k3 hn, hw ρ2 H2 σ2 .refl s2 se2⟩
        | some w =>
          obtain ⟨g1, g2⟩ := k4 w hn
          refine .inr ⟨g1, fun σ' H' => ∃ δ S ρ, Ext g ρ1 H1 ρ H' ∧ Sim g ρ S H' ∧ SimE g ρ H' δ σ' ∧ wpS g Wx ρ H' D (forG a.2 put body m (i + 1) δ S), fun σ' H' hh => ⟨m, Nat.lt_succ_self m, hh⟩, fun x H' y => ?_⟩
          obtain ⟨ey, sy, rx⟩ := g2 x H' y
          dsimp only at hw
          cases hp : put w δ2 with
          | none => rw [hp] at hw; exact hw.elim
          | some δ3 =>
            rw [hp] at hw
            refine ⟨δ2, w, ρ2, δ3, rx, se2.mono ey, hp, fun σ3 se3 _ _ => ⟨δ3, S2, ρ2, sy, se3, ?_⟩⟩
            dsimp only at hw
            cases hb' : body δ3 S2 with
            | nx δ4 S4 => rw [hb'] at hw; exact fun ρ' H'' σ' e s se => ⟨δ4, S4, ρ', (e2.trans ey).trans e, s, se, wpS.ext (ey.trans e) hw⟩
            | ct δ4 S4 => rw [hb'] at hw; exact fun ρ' H'' σ' e s se => ⟨δ4, S4, ρ', (e2.trans ey).trans e, s, se, wpS.ext (ey.trans e) hw⟩
            | bk δ4 S4 => rw [hb'] at hw; exact wpS.ext ey (o := .bk δ4 S4) hw
            | rt w' S4 => rw [hb'] at hw; exact wpS.ext ey (o := .rt w' S4) hw
            | ex c fs δ4 S4 => rw [hb'] at hw; exact wpS.ext ey (o := .ex c fs δ4 S4) hw
            | bad => rw [hb'] at hw; exact hw
/-- over a list or a tuple -/
@[simp] def isq (x : XE) : XI := fun δ S => (x δ S).bind fun w S1 => match w with
  | .tup ws => .ok (ws.length + 1, nseq ws) S1
  | .loc l => match getL S1 l with
    | some ws => .ok (ws.length + 1, nloc l) S1
    | none => .bad
  | _ => .bad
theorem si_seq (o : XO X g Wx k) {tg it : Expr} (he : SE X g Wx it x) : SI X g Wx tg it (isq x) := by
  have both : PI X tg it fun σ H R => iList X.K (tE g Wx x) σ H R ∨ iTup X.K (tE g Wx x) σ H R := ⟨fun pins s σ H R I h => by
    rcases h with h | h
    · exact (pi_list he).run pins s σ H R I h
    · exact (pi_tup he).run pins s σ H R I h⟩
  refine pi_imp both fun σ H R ⟨δ, S, ρ, sm, se, h⟩ => ?_
  all_goals
    unfold isq at h
    cases q : x δ S with
    | bad => rw [q] at h; exact h.elim
    | ex c fs S' =>
      rw [q] at h
      refine .inl ⟨δ, S, ρ, sm, se, ?_⟩
      rw [q]
      exact h
    | ok w S' =>
      rw [q] at h
      dsimp only [Rs.bind] at h
      cases w with
      | tup ws =>
        refine .inr ⟨δ, S, ρ, sm, se, ?_⟩
        rw [q]
        intro ρ1 H1 v e1 s1 r1
        cases r1 with
        | @tup ws vs p sq rl => exact ⟨p, rfl, ⟨vs, o.K ▸ sq⟩, h ρ1 H1 _ e1 s1 (o.K ▸ nth_seq sq rl)⟩
      | loc l =>
        dsimp only at h
        cases hw : getL S' l with
        | none => rw [hw] at h; exact h.elim
        | some ws =>
          rw [hw] at h
          refine .inl ⟨δ, S, ρ, sm, se, ?_⟩
          rw [q]
          intro ρ1 H1 v e1 s1 r1
          cases r1 with
          | @loc i p hp =>
            obtain ⟨vs, h1, h2⟩ := getL_at s1 hw hp
            exact ⟨p, rfl, ⟨vs, o.K ▸ h1⟩, h ρ1 H1 _ e1 s1 (o.K ▸ nth_loc hp)⟩
      | _ => exact h.elim
def big (j : Int) : Bool := decide (-(2 ^ 62) ≤ j) && decide (j < 2 ^ 62)
theorem big_ok {j : Int} (h : big j = true) : -(2 ^ 62) ≤ j ∧ j < 2 ^ 62 := by
  unfold big at h
  simpa using h
@[simp] def irg1 (x : XE) : XI := fun δ S => (x δ S).bind fun w S1 => match w with
  | .int j => bif big j then .ok (j.toNat + 1, nrng 0 j.toNat) S1 else .bad
  | _ => .bad
theorem si_rg1 {tg : Expr} {p : Pos} (hm : X.mg "range" = none) (he : SE X g Wx a x) (hg : Gl X "range" := by rfl) (hs : starEach [a] X.env = [(false, eval a X.env)] := by rfl) : SI X g Wx tg (.Call (.Name "range" p) [a] [] pos) (irg1 x) := by
  refine pi_imp (pi_range1 hg hm (pa_cons he pa_nil (hs := hs)) hs) fun σ H R ⟨δ, S, ρ, sm, se, h⟩ => ⟨δ, S, ρ, sm, se, ?_⟩
  unfold irg1 at h
  cases q : x δ S with
  | bad => rw [q] at h; exact h
  | ex c fs S' => rw [q] at h; exact h
  | ok w S' =>
    rw [q] at h
    dsimp only [Rs.bind] at h
    intro ρ1 H1 v e1 s1 r1
    cases r1 with
    | int j =>
      dsimp only at h
      by_cases hb : big j = true
      · rw [hb] at h
        exact ⟨j, rfl, (big_ok hb).1, (big_ok hb).2, h ρ1 H1 _ e1 s1 nth_rng⟩
      · rw [Bool.not_eq_true _ |>.mp hb] at h
        exact h.elim
    | _ => exact h.elim
@[simp] def irg2 (x y : XE) : XI := fun δ S => (x δ S).bind fun w S1 => (y δ S1).bind fun u S2 => match w, u with
  | .int i, .int j => bif big i && big j then .ok ((j - i).toNat + 1, nrng i (j - i).toNat) S2 else .bad
  | _, _ => .bad
theorem si_rg2 {tg : Expr} {p : Pos} (hm : X.mg "range" = none) (he : SE X g Wx a x) (hy : SE X g Wx b y) (hg : Gl X "range" := by rfl) (hs : starEach [a, b] X.env = (false, eval a X.env) :: starEach [b] X.env := by rfl)
    (pir : ∀ ta : TA, X.mg "range" = none → PA X [a, b] ta → PI X tg (.Call (.Name "range" p) [a, b] [] pos) (iRng2 ta) := by intro ta hm h; exact pi_range2 (by rfl) hm h) (hs2 : starEach [b] X.env = (false, eval b X.env) :: starEach [] X.env := by rfl) : SI X g Wx tg (.Call (.Name "range" p) [a, b] [] pos) (irg2 x y) := by
  refine pi_imp (pir _ hm (pa_cons he (pa_cons hy pa_nil (hs := hs2)) (hs := hs))) fun σ H R ⟨δ, S, ρ, sm, se, h⟩ => ⟨δ, S, ρ, sm, se, ?_⟩
  unfold irg2 at h
  cases q : x δ S with
  | bad => rw [q] at h; exact h
  | ex c fs S' => rw [q] at h; exact h
  | ok w S' =>
    rw [q] at h
    dsimp only [Rs.bind] at h
    intro ρ1 H1 v e1 s1 r1
    refine ⟨δ, S', ρ1, s1, se.mono e1, ?_⟩
    cases q2 : y δ S' with
    | bad => rw [q2] at h; exact h.elim
    | ex c fs S2 => rw [q2] at h; exact fun ρ' H' d e s z => h ρ' H' d (e1.trans e) s z
    | ok u S2 =>
      rw [q2] at h
      intro ρ2 H2 v2 e2 s2 r2
      dsimp only at h
      cases r1 with
      | int i =>
        cases r2 with
        | int j =>
          dsimp only at h
          by_cases hb : (big i && big j) = true
          · rw [hb] at h
            rw [Bool.and_eq_true] at hb
            exact ⟨i, j, rfl, ⟨(big_ok hb.1).1, (big_ok hb.1).2, (big_ok hb.2).1, (big_ok hb.2).2⟩, h ρ2 H2 _ (e1.trans e2) s2 nth_rng⟩
          · rw [Bool.not_eq_true _ |>.mp hb] at h
            exact h.elim
        | _ => exact h.elim
      | _ => exact h.elim
end
end Rz
namespace Rz
open PySem PySem.Spec PyProof.Rows L2

/-! ### operations on data -/
def mulOk (i j : Int) : Bool := (decide (-(2 ^ 64) < i) && decide (i < 2 ^ 64)) || (decide (-(2 ^ 64) < j) && decide (j < 2 ^ 64))
theorem mulOk_ok {i j : Int} (h : mulOk i j = true) : CMul i j := by
  unfold mulOk at h
  simp only [Bool.or_eq_true, Bool.and_eq_true, decide_eq_true_eq] at h
  exact h
def powOk (i j : Int) : Bool := decide (0 ≤ j) && decide (j ≤ 1000000) && decide (i.natAbs < 2 ^ 64)
theorem powOk_ok {i j : Int} (h : powOk i j = true) : CPow i j := by
  unfold powOk at h
  simp only [Bool.and_eq_true, decide_eq_true_eq] at h
  exact ⟨h.1.1, h.1.2, h.2⟩
@[simp] def oAdd (a b : Va) (S : Sto) : Rs Va := match a, b with
  | .int i, .int j => .ok (.int (i + j)) S
  | .str x, .str y => bif fits (x.length + y.length) then .ok (.str (x ++ y)) S else .bad
  | .tup xs, .tup ys => ltup (xs ++ ys) S
  | .loc i, .loc j => match S[i]?, S[j]? with
    | some (.lst xs), some (.lst ys) => llst (xs ++ ys) S
    | _, _ => .bad
  | _, _ => .bad
@[simp] def oSub (a b : Va) (S : Sto) : Rs Va := match a, b with
  | .int i, .int j => .ok (.int (i - j)) S
  | _, _ => .bad
def oMul (a b : Va) (S : Sto) : Rs Va := match a, b with
  | .int i, .int j => bif mulOk i j then .ok (.int (i * j)) S else .bad
  | .loc l, .int k => match S[l]? with
    | some (.lst xs) => bif big k && decide (xs.length * k.toNat ≤ sizeLine) then llst (List.replicate k.toNat xs).flatten S else .bad
    | _ => .bad
  | _, _ => .bad
@[simp] def oDiv (a b : Va) (S : Sto) : Rs Va := match a, b with
  | .int i, .int j => if 0 < j ∧ j < 1073741824 then .ok (.int (i / j)) S else .bad
  | _, _ => .bad
@[simp] def oMod (a b : Va) (S : Sto) : Rs Va := match a, b with
  | .int i, .int j => if 0 < j then .ok (.int (i % j)) S else .bad
  | _, _ => .bad
@[simp] def oPow (a b : Va) (S : Sto) : Rs Va := match a, b with
  | .int i, .int j => bif powOk i j then .ok (.int (i ^ j.toNat)) S else .bad
  | _, _ => .bad
@[simp] def oShl (a b : Va) (S : Sto) : Rs Va := match a, b with
  | .int i, .int j => bif powOk i j then .ok (.int (i * 2 ^ j.toNat)) S else .bad
  | _, _ => .bad
section
variable {g : G}
abbrev rOr (r r' : R2) : R2 := fun x y H Q => r x y H Q ∨ r' x y H Q
abbrev rStr : R2 := fun x y H Q => ∃ i j, x = .str i ∧ y = .str j ∧ i.length + j.length ≤ sizeLine ∧ Q (.str (i ++ j)) H
abbrev rAddAll (K : PySem.W.Frag) : R2 := rOr (rI0 fun i j => .int (i + j)) (rOr rStr (rOr (rCatA K) rCat))
theorem or_add {X : Cx} : OpR X (binaryOp .Add) (rAddAll X.K) := OpR.or op_add (OpR.or op_add_str (OpR.or op_catA op_cat))
theorem os_add : OpS g (rAddAll g.K) oAdd := fun Wx σ ρ S H a b x y Q sm ra rb h => by
  cases ra with
  | int i =>
    cases rb with
    | int j => exact .inl ⟨i, j, rfl, rfl, h.fin sm (.int _)⟩
    | _ => exact h.elim
  | str i =>
    cases rb with
    | str j =>
      have h' : wpR g Wx σ (Rel g) ρ H (bif fits (i.length + j.length) then .ok (.str (i ++ j)) S else .bad) Q := h
      by_cases hz : fits (i.length + j.length) = true
      · rw [hz] at h'
        exact .inr (.inl ⟨i, j, rfl, rfl, fits_iff.mp hz, wpR.fin (a := Va.str (i ++ j)) h' sm (.str _)⟩)
      · rw [Bool.not_eq_true _ |>.mp hz] at h'
        exact h'.elim
    | _ => exact h.elim
  | @tup ws vs p s rl =>
    cases rb with
    | @tup us ts q s2 rl2 =>
      have h' : wpR g Wx σ (Rel g) ρ H (ltup (ws ++ us) S) Q := h
      obtain ⟨z1, z2⟩ := new_tup sm (rl.app rl2) h'
      have key : ∀ v, Rel g ρ H (.tup (ws ++ us)) v → Q v H := fun v rv => by
        unfold ltup at h'
        have e : (ws ++ us).length = (vs ++ ts).length := (rl.app rl2).length
        rw [fits_iff.mpr (by rw [e]; exact z1)] at h'
        exact wpR.fin (a := Va.tup (ws ++ us)) h' sm rv
      refine .inr (.inr (.inl ⟨p, q, vs, ts, rfl, rfl, s, s2, by simpa using z1, fun e => ?_, fun _ e => ?_, fun _ _ => z2⟩))
      · subst e
        cases rl
        exact key _ (.tup s2 rl2)
      · subst e
        cases rl2
        exact key _ (.tup s (by simpa using rl))
    | _ => exact h.elim
  | @loc i p hp =>
    cases rb with
    | @loc j q hq =>
      have h' : wpR g Wx σ (Rel g) ρ H (match S[i]?, S[j]? with | some (.lst xs), some (.lst ys) => llst (xs ++ ys) S | _, _ => .bad) Q := h
      split at h'
      · rename_i xs ys e1 e2
        obtain ⟨vs, k1, k2⟩ := sm.ats i _ p e1 hp
        obtain ⟨ts, k3, k4⟩ := sm.ats j _ q e2 hq
        obtain ⟨z1, z2⟩ := new_lst sm (k2.app k4) h'
        exact .inr (.inr (.inr ⟨p, q, vs, ts, rfl, rfl, k1, k3, by simpa using z1, z2⟩))
      · exact h'.elim
    | _ => exact h.elim
  | _ => cases rb <;> exact h.elim
theorem os_sub : OpS g (rI0 fun i j => .int (i - j)) oSub := fun Wx σ ρ S H a b x y Q sm ra rb h => by
  cases ra with
  | int i =>
    cases rb with
    | int j => exact ⟨i, j, rfl, rfl, h.fin sm (.int _)⟩
    | _ => exact h.elim
  | _ => cases rb <;> exact h.elim
theorem os_int {C : Int → Int → Prop} {c : Int → Int → Prop} [∀ i j, Decidable (c i j)] {f : Int → Int → Int} {o : Va → Va → Sto → Rs Va} (hc : ∀ i j, c i j → C i j) (ho : ∀ i j S, o (.int i) (.int j) S = if c i j then .ok (.int (f i j)) S else .bad)
    (hn : ∀ a b S, (∀ i j, ¬ (a = .int i ∧ b = .int j)) → o a b S = .bad) : OpS g (rI C fun i j => .int (f i j)) o := fun Wx σ ρ S H a b x y Q sm ra rb h => by
  by_cases e : ∃ i j, a = .int i ∧ b = .int j
  · obtain ⟨i, j, rfl, rfl⟩ := e
    cases ra
    cases rb
    rw [ho] at h
    by_cases z : c i j
    · rw [if_pos z] at h
      exact ⟨i, j, rfl, rfl, hc _ _ z, h.fin sm (.int _)⟩
    · rw [if_neg z] at h
      exact h.elim
  · rw [hn a b S fun i j z => e ⟨i, j, z⟩] at h
    exact h.elim
theorem os_div : OpS g (rI CDiv fun i j => .int (i / j)) oDiv := os_int (c := fun i j => 0 < j ∧ j < 1073741824) (fun _ _ h => h) (fun _ _ _ => rfl) (fun a b S n => by cases a <;> cases b <;> first | rfl | exact absurd ⟨rfl, rfl⟩ (n _ _))
theorem os_mod : OpS g (rI (fun _ j => 0 < j) fun i j => .int (i % j)) oMod := os_int (c := fun _ j => 0 < j) (fun _ _ h => h) (fun _ _ _ => rfl) (fun a b S n => by cases a <;> cases b <;> first | rfl | exact absurd ⟨rfl, rfl⟩ (n _ _))
theorem os_pow : OpS g (rI CPow fun i j => .int (i ^ j.toNat)) oPow := os_int (c := fun i j => powOk i j = true) (fun _ _ h => powOk_ok h) (fun i j S => by show cond (powOk i j) _ _ = _; cases powOk i j <;> rfl) (fun a b S n => by cases a <;> cases b <;> first | rfl | exact absurd ⟨rfl, rfl⟩ (n _ _))
theorem os_shl : OpS g (rI CPow fun i j => .int (i * 2 ^ j.toNat)) oShl := os_int (c := fun i j => powOk i j = true) (fun _ _ h => powOk_ok h) (fun i j S => by show cond (powOk i j) _ _ = _; cases powOk i j <;> rfl) (fun a b S n => by cases a <;> cases b <;> first | rfl | exact absurd ⟨rfl, rfl⟩ (n _ _))
abbrev rMulAll : R2 := rOr (rI CMul fun i j => .int (i * j)) rRep
theorem or_mul {X : Cx} : OpR X (binaryOp .Mult) rMulAll := OpR.or op_mul op_rep
theorem RelL.rep {ρ : List Addr} {H : Hp} {ws : List Va} {vs : List V} (r : RelL g ρ H ws vs) : ∀ n, RelL g ρ H (List.replicate n ws).flatten (List.replicate n vs).flatten
  | 0 => .nil
  | n + 1 => by
    rw [List.replicate_succ, List.replicate_succ, List.flatten_cons, List.flatten_cons]
    exact r.app (RelL.rep r n)
theorem os_mul : OpS g rMulAll oMul := fun Wx σ ρ S H a b x y Q sm ra rb h => by
  cases ra with
  | int i =>
    cases rb with
    | int j =>
      have h' : wpR g Wx σ (Rel g) ρ H (bif mulOk i j then .ok (.int (i * j)) S else .bad) Q := h
      by_cases z : mulOk i j = true
      · rw [z] at h'
        exact .inl ⟨i, j, rfl, rfl, mulOk_ok z, wpR.fin (a := Va.int (i * j)) h' sm (.int _)⟩
      · rw [Bool.not_eq_true _ |>.mp z] at h'
        exact h'.elim
    | _ => exact h.elim
  | @loc l p hp =>
    cases rb with
    | int k =>
      have h' : wpR g Wx σ (Rel g) ρ H (match S[l]? with | some (.lst xs) => bif (big k && decide (xs.length * k.toNat ≤ sizeLine)) then llst (List.replicate k.toNat xs).flatten S else .bad | _ => .bad) Q := h
      split at h'
      · rename_i xs e1
        obtain ⟨vs, k1, k2⟩ := sm.ats l _ p e1 hp
        by_cases z : (big k && decide (xs.length * k.toNat ≤ sizeLine)) = true
        · rw [z] at h'
          rw [Bool.and_eq_true, decide_eq_true_eq] at z
          obtain ⟨z1, z2⟩ := new_lst sm (k2.rep k.toNat) h'
          exact .inr ⟨p, k, vs, rfl, rfl, k1, by have := (big_ok z.1).1; omega, by have := (big_ok z.1).2; omega, by rw [← k2.length]; exact z.2, z2⟩
        · rw [Bool.not_eq_true _ |>.mp z] at h'
          exact h'.elim
      · exact h'.elim
    | _ => exact h.elim
  | _ => cases rb <;> exact h.elim
/-! ### order -/
@[simp] def cLt (a b : Va) (S : Sto) : Rs Bool := match a, b with
  | .int i, .int j => .ok (decide (i < j)) S
  | _, _ => .bad
@[simp] def cLe (a b : Va) (S : Sto) : Rs Bool := match a, b with
  | .int i, .int j => .ok (decide (i ≤ j)) S
  | _, _ => .bad
@[simp] def cGt (a b : Va) (S : Sto) : Rs Bool := match a, b with
  | .int i, .int j => .ok (decide (j < i)) S
  | _, _ => .bad
@[simp] def cGe (a b : Va) (S : Sto) : Rs Bool := match a, b with
  | .int i, .int j => .ok (decide (j ≤ i)) S
  | _, _ => .bad
theorem ob_int {f : Int → Int → Bool} {o : Va → Va → Sto → Rs Bool} (ho : ∀ i j S, o (.int i) (.int j) S = .ok (f i j) S) (hn : ∀ a b S, (∀ i j, ¬ (a = .int i ∧ b = .int j)) → o a b S = .bad) : OpB g (rI0 fun i j => .bl (f i j)) o := fun Wx σ ρ S H a b x y Q sm ra rb h => by
  by_cases e : ∃ i j, a = .int i ∧ b = .int j
  · obtain ⟨i, j, rfl, rfl⟩ := e
    cases ra
    cases rb
    rw [ho] at h
    exact ⟨i, j, rfl, rfl, h.fin sm rfl⟩
  · rw [hn a b S fun i j z => e ⟨i, j, z⟩] at h
    exact h.elim
theorem ob_lt : OpB g (rI0 fun i j => .bl (decide (i < j))) cLt := ob_int (fun _ _ _ => rfl) (fun a b S n => by cases a <;> cases b <;> first | rfl | exact absurd ⟨rfl, rfl⟩ (n _ _))
theorem ob_le : OpB g (rI0 fun i j => .bl (decide (i ≤ j))) cLe := ob_int (fun _ _ _ => rfl) (fun a b S n => by cases a <;> cases b <;> first | rfl | exact absurd ⟨rfl, rfl⟩ (n _ _))
theorem ob_gt : OpB g (rI0 fun i j => .bl (decide (j < i))) cGt := ob_int (fun _ _ _ => rfl) (fun a b S n => by cases a <;> cases b <;> first | rfl | exact absurd ⟨rfl, rfl⟩ (n _ _))
theorem ob_ge : OpB g (rI0 fun i j => .bl (decide (j ≤ i))) cGe := ob_int (fun _ _ _ => rfl) (fun a b S n => by cases a <;> cases b <;> first | rfl | exact absurd ⟨rfl, rfl⟩ (n _ _))

/-! ### data as a whole -/
def allD (f : Va → Option PyData) : List Va → Option (List PyData)
  | [] => some []
  | w :: ws => match f w, allD f ws with
    | some d, some ds => some (d :: ds)
    | _, _ => none
def toD (S : Sto) : Nat → Va → Option PyData
  | 0, _ => none
  | n + 1, w => match w with
    | .non => some .none
    | .bl b => some (.bool b)
    | .int i => some (.int i)
    | .str x => some (.str x)
    | .tup ws => (allD (toD S n) ws).map .tuple
    | .loc l => match getL S l with
      | some ws => (allD (toD S n) ws).map .list
      | none => none
    | _ => none
theorem allD_ok {ρ : List Addr} {H : Hp} {f : Va → Option PyData} (hf : ∀ w v d, f w = some d → Rel g ρ H w v → Dp g.K H v d) : ∀ {ws : List Va} {vs : List V} {ds : List PyData}, allD f ws = some ds → RelL g ρ H ws vs → DpAll g.K H vs ds
  | [], _, ds, h, r => by
    cases r
    cases h
    exact .nil
  | w :: ws, _, ds, h, r => by
    cases r with
    | cons a b =>
      unfold allD at h
      cases e1 : f w with
      | none => rw [e1] at h; cases h
      | some d =>
        cases e2 : allD f ws with
        | none => rw [e1, e2] at h; cases h
        | some ds =>
          rw [e1, e2] at h
          cases h
          exact .cons (hf _ _ _ e1 a) (allD_ok hf e2 b)
theorem toD_ok {ρ : List Addr} {S : Sto} {H : Hp} (sm : Sim g ρ S H) : ∀ (n : Nat) (w : Va) (v : V) (d : PyData), toD S n w = some d → Rel g ρ H w v → Dp g.K H v d
  | 0, _, _, _, h, _ => by cases h
  | n + 1, w, v, d, h, r => by
    cases r with
    | non => cases h; exact .non
    | bl b => cases h; exact .bl b
    | int b => cases h; exact .int b
    | str b => cases h; exact .str b
    | ty b => cases h
    | cl b => cases h
    | @tup ws vs a s rl =>
      have h' : (allD (toD S n) ws).map PyData.tuple = some d := h
      cases e : allD (toD S n) ws with
      | none => rw [e] at h'; cases h'
      | some ds =>
        rw [e] at h'
        cases h'
        exact .tup s (allD_ok (fun w v d => toD_ok sm n w v d) e rl)
    | @loc l a hp =>
      have h' : (match getL S l with | some ws => (allD (toD S n) ws).map PyData.list | none => none) = some d := h
      cases q : getL S l with
      | none => rw [q] at h'; cases h'
      | some ws =>
        rw [q] at h'
        obtain ⟨vs, s, rl⟩ := getL_at sm q hp
        have h'' : (allD (toD S n) ws).map PyData.list = some d := h'
        cases e : allD (toD S n) ws with
        | none => rw [e] at h''; cases h''
        | some ds =>
          rw [e] at h''
          cases h''
          exact .lst s (allD_ok (fun w v d => toD_ok sm n w v d) e rl)
/-- a == b of scalars -/
def scE (a b : Va) : Option Bool := match a, b with
  | .str x, .str y => some (decide (x = y))
  | .int x, .int y => some (decide (x = y))
  | .bl x, .bl y => some (decide (x = y))
  | .non, .int _ => some false
  | .non, .bl _ => some false
  | .non, .str _ => some false
  | .int _, .non => some false
  | .bl _, .non => some false
  | .str _, .non => some false
  | .int _, .str _ => some false
  | .str _, .int _ => some false
  | .bl _, .str _ => some false
  | .str _, .bl _ => some false
  | _, _ => none
def deepE (a b : Va) (S : Sto) : Rs Bool := match toD S 64 a, toD S 64 b with
  | some d, some e => bif SeqAt.shaped d && SeqAt.shaped e then .ok (PyData.eqv d e) S else .bad
  | _, _ => .bad
/-- a == b of data -/
def cEq (a b : Va) (S : Sto) : Rs Bool := match scE a b with
  | some t => .ok t S
  | none => deepE a b S
@[simp] def cNe (a b : Va) (S : Sto) : Rs Bool := (cEq a b S).bind fun b S1 => .ok (!b) S1
theorem scE_ok {ρ : List Addr} {H : Hp} {a b : Va} {x y : V} {t : Bool} (ra : Rel g ρ H a x) (rb : Rel g ρ H b y) (h : scE a b = some t) : scal x y = true ∧ decide (x = y) = t := by
  cases ra <;> cases rb <;> first | (cases h; done) | (cases h; exact ⟨rfl, by simp⟩) | (cases h; exact ⟨rfl, decide_eq_false (by intro z; cases z)⟩)
theorem deepE_ok {Wx : WX} {σ : L2.St} {ρ : List Addr} {S : Sto} {H : Hp} {a b : Va} {x y : V} {Q : Bool → Hp → Prop} (sm : Sim g ρ S H) (ra : Rel g ρ H a x) (rb : Rel g ρ H b y) (h : wpR g Wx σ relB ρ H (deepE a b S) Q) :
    ∃ d e, Dp g.K H x d ∧ Dp g.K H y e ∧ SeqAt.shaped d = true ∧ SeqAt.shaped e = true ∧ Q (PyData.eqv d e) H := by
  unfold deepE at h
  cases e1 : toD S 64 a with
  | none => rw [e1] at h; exact h.elim
  | some d =>
    cases e2 : toD S 64 b with
    | none => rw [e1, e2] at h; exact h.elim
    | some e =>
      rw [e1, e2] at h
      dsimp only at h
      by_cases z : (SeqAt.shaped d && SeqAt.shaped e) = true
      · rw [z] at h
        rw [Bool.and_eq_true] at z
        exact ⟨d, e, toD_ok sm 64 a x d e1 ra, toD_ok sm 64 b y e e2 rb, z.1, z.2, wpR.fin (a := PyData.eqv d e) h sm rfl⟩
      · rw [Bool.not_eq_true _ |>.mp z] at h
        exact h.elim
theorem ob_eq : OpB g (rOr rEq (rEqD g.K)) cEq := fun Wx σ ρ S H a b x y Q sm ra rb h => by
  unfold cEq at h
  cases e1 : scE a b with
  | some t =>
    rw [e1] at h
    obtain ⟨q1, q2⟩ := scE_ok ra rb e1
    have hh : wpR g Wx σ relB ρ H (.ok t S) (fun b H' => Q (.bl b) H') := h
    exact .inl ⟨q1, by rw [q2]; exact hh.fin sm rfl⟩
  | none =>
    rw [e1] at h
    exact .inr (deepE_ok sm ra rb h)
theorem ob_ne : OpB g (rOr rNe (rNeD g.K)) cNe := fun Wx σ ρ S H a b x y Q sm ra rb h => by
  unfold cNe cEq at h
  cases e1 : scE a b with
  | some t =>
    rw [e1] at h
    obtain ⟨q1, q2⟩ := scE_ok ra rb e1
    have hh : wpR g Wx σ relB ρ H (.ok (!t) S) (fun b H' => Q (.bl b) H') := h
    exact .inl ⟨q1, by rw [q2]; exact hh.fin sm rfl⟩
  | none =>
    rw [e1] at h
    have h' : wpR g Wx σ relB ρ H (deepE a b S) fun t H' => Q (.bl (!t)) H' := by
      have h0 : wpR g Wx σ relB ρ H ((deepE a b S).bind fun b S1 => .ok (!b) S1) fun b H' => Q (.bl b) H' := h
      cases q : deepE a b S with
      | ok t S' => rw [q] at h0; exact fun ρ' H' t' e s r => by cases r; exact h0 ρ' H' (!t) e s rfl
      | ex c fs S' => rw [q] at h0; exact h0
      | bad => rw [q] at h0; exact h0
    exact .inr (deepE_ok sm ra rb h')
/-- is of bools and None -/
@[simp] def cIs (a b : Va) (S : Sto) : Rs Bool := match a, b with
  | .bl i, .bl j => .ok (decide (i = j)) S
  | _, _ => .bad
@[simp] def cIsn (a b : Va) (S : Sto) : Rs Bool := match a, b with
  | .bl i, .bl j => .ok (!decide (i = j)) S
  | _, _ => .bad
theorem ob_is : OpB g rIsB cIs := fun Wx σ ρ S H a b x y Q sm ra rb h => by
  cases ra with
  | bl i =>
    cases rb with
    | bl j => exact ⟨i, j, rfl, rfl, h.fin sm rfl⟩
    | _ => exact h.elim
  | _ => cases rb <;> exact h.elim
theorem ob_isn : OpB g rNotB cIsn := fun Wx σ ρ S H a b x y Q sm ra rb h => by
  cases ra with
  | bl i =>
    cases rb with
    | bl j => exact ⟨i, j, rfl, rfl, h.fin sm rfl⟩
    | _ => exact h.elim
  | _ => cases rb <;> exact h.elim
/-- x is None, x is not None, x anything but an object of one's own -/
@[simp] def xisN (x : XE) : XT := fun δ S => (x δ S).bind fun w S1 => match w with
  | .non => .ok true S1
  | _ => .ok false S1
theorem Rel.nonq {ρ : List Addr} {H : Hp} {w : Va} {v : V} (r : Rel g ρ H w v) : decide (v = .non) = (match w with | .non => true | _ => false) := by
  cases r <;> first | rfl | exact decide_eq_false (by intro z; cases z)
end
section
variable {X : Cx} {g : G} {Wx : WX} {k : Nat} {pos : Pos} {a b c : Expr} {es : List Expr} {x y z : XE} {r : XA}
theorem se_isN {j : Nat} {p' : Pos} (ha : SE X g Wx a x) : SE X g Wx (.Compare a [.Is] [.Constant .none j p'] pos) (xboo (xisN x)) :=
  pe_imp (pe_cmp (pc_isN ha)) fun σ H Q ⟨δ, S, ρ, sm, se, h⟩ => ⟨δ, S, ρ, sm, se, wpR.imp (wpR.bind (rel := Rel g) (wp_boo h)) fun v H1 ⟨ρ1, w, S1, e1, s1, r1, h1⟩ => by
    rw [r1.nonq]
    cases w <;> exact h1.fin s1 rfl⟩
theorem se_notN {j : Nat} {p' : Pos} (ha : SE X g Wx a x) : SE X g Wx (.Compare a [.IsNot] [.Constant .none j p'] pos) (xboo (xnot (xisN x))) :=
  pe_imp (pe_cmp (pc_notN ha)) fun σ H Q ⟨δ, S, ρ, sm, se, h⟩ => by
    have h0 : wpR g Wx σ relB ρ H ((xisN x δ S).bind fun b S1 => .ok (!b) S1) fun b H' => Q (.bl b) H' := wp_boo h
    have h1 := wpR.bind (rel := relB) h0
    refine ⟨δ, S, ρ, sm, se, wpR.imp (wpR.bind (rel := Rel g) h1) fun v H1 ⟨ρ1, w, S1, e1, s1, r1, h1⟩ => ?_⟩
    rw [r1.nonq]
    cases w <;> (obtain ⟨ρ2, a2, S2, e2, s2, r2, h2⟩ := h1.fin s1 rfl; cases r2; exact h2.fin s2 rfl)

/-! ### items, slices -/
@[simp] def oIx (a b : Va) (S : Sto) : Rs Va := match a, b with
  | .tup ws, .int i => match atI ws i with
    | some w => .ok w S
    | none => .bad
  | .loc l, .int i => match getL S l with
    | some ws => match atI ws i with
      | some w => .ok w S
      | none => .bad
    | none => .bad
  | _, _ => .bad
theorem atI_rel {ρ : List Addr} {H : Hp} {ws : List Va} {vs : List V} {i : Int} {w : Va} (r : RelL g ρ H ws vs) (h : atI ws i = some w) : ∃ v, atI vs i = some v ∧ Rel g ρ H w v := by
  unfold atI at h ⊢
  rw [r.length] at h
  cases q : ixN vs.length i with
  | none => rw [q] at h; cases h
  | some j =>
    rw [q] at h
    exact r.get h
abbrev rIxAll (K : PySem.W.Frag) : R2 := rOr (rIxL K) (rIxT K)
theorem os_ix : OpS g (rIxAll g.K) oIx := fun Wx σ ρ S H a b x y Q sm ra rb h => by
  cases ra with
  | @tup ws vs p s rl =>
    cases rb with
    | int i =>
      have h' : wpR g Wx σ (Rel g) ρ H (match atI ws i with | some w => .ok w S | none => .bad) Q := h
      cases q : atI ws i with
      | none => rw [q] at h'; exact h'.elim
      | some w =>
        rw [q] at h'
        obtain ⟨v, h1, h2⟩ := atI_rel rl q
        exact .inr ⟨p, vs, i, v, rfl, rfl, s, h1, h'.fin sm h2⟩
    | _ => exact h.elim
  | @loc l p hp =>
    cases rb with
    | int i =>
      have h' : wpR g Wx σ (Rel g) ρ H (match getL S l with | some ws => (match atI ws i with | some w => .ok w S | none => .bad) | none => .bad) Q := h
      cases q0 : getL S l with
      | none => rw [q0] at h'; exact h'.elim
      | some ws =>
        rw [q0] at h'
        dsimp only at h'
        obtain ⟨vs, s, rl⟩ := getL_at sm q0 hp
        cases q : atI ws i with
        | none => rw [q] at h'; exact h'.elim
        | some w =>
          rw [q] at h'
          obtain ⟨v, h1, h2⟩ := atI_rel rl q
          exact .inl ⟨p, vs, i, v, rfl, rfl, s, h1, h'.fin sm h2⟩
    | _ => exact h.elim
  | _ => cases rb <;> exact h.elim
theorem se_ix (o : XO X g Wx k) (ha : SE X g Wx a x) (hb : SE X g Wx b y) (hs : PlainIx b := by intro _ _; rfl) : SE X g Wx (.Subscript a b pos) (xbin oIx x y) :=
  pe_imp (pe_ix (IxR.or ix_list ix_tup) ha hb hs) (by have e := o.K; have q := two_in (Wx := Wx) (x := x) (y := y) (os_ix (g := g)); rw [e] at q; exact q)
end
end Rz
namespace Rz
open PySem PySem.Spec PyProof.Rows L2

/-! ### built-ins -/
def CalS (g : G) (r : List V → Hp → VK → Prop) (f : List Va → Sto → Rs Va) : Prop :=
  ∀ (Wx : WX) (σ : L2.St) (ρ : List Addr) (S : Sto) (H : Hp) (ws : List Va) (vs : List V) (Q : VK), Sim g ρ S H → RelL g ρ H ws vs → wpR g Wx σ (Rel g) ρ H (f ws S) Q → r vs H Q
section
variable {X : Cx} {g : G} {Wx : WX} {k : Nat} {pos : Pos} {a b c : Expr} {es : List Expr} {x y z : XE} {r : XA}
theorem se_callB {q : List V → Hp → VK → Prop} {f : List Va → Sto → Rs Va} {nm : Str} {id : String} {p : Pos} (hc : CallR X (.builtin id) q) (hf : CalS g q f) (hm : X.mg nm = none) (ha : SA X g Wx (a :: es) r) (hg : Gl X nm := by rfl) (hv : bootBuiltins nm = some (.builtin id) := by decide +kernel)
    (hn : nm ≠ "__name__" := by decide) (hdb : (nm == ("__debug__" : Str)) = false := by decide) (he : starEach (a :: es) X.env = (false, eval a X.env) :: starEach es X.env := by rfl) (hpl : (backTo pos (starEach es X.env)).any (·.1) = false := by rfl) :
    SE X g Wx (.Call (.Name nm p) (a :: es) [] pos) (xcall f r) :=
  pe_imp (pe_callB hc hg hm hv ha hn hdb he hpl) fun σ H Q ⟨δ, S, ρ, sm, se, h⟩ => ⟨δ, S, ρ, sm, se, wpR.imp (wpR.bind (rel := RelL g) h) fun vs H1 ⟨ρ1, ws, S1, e1, s1, r1, h1⟩ => hf Wx σ ρ1 S1 H1 ws vs Q s1 r1 h1⟩
theorem se_callT {q : List V → Hp → VK → Prop} {f : List Va → Sto → Rs Va} {nm : Str} {id : String} {p : Pos} (hc : CallR X (.type id) q) (hf : CalS g q f) (hm : X.mg nm = none) (ha : SA X g Wx (a :: es) r) (hg : Gl X nm := by rfl) (hv : bootBuiltins nm = some (.type id) := by decide +kernel)
    (hn : nm ≠ "__name__" := by decide) (hdb : (nm == ("__debug__" : Str)) = false := by decide) (he : starEach (a :: es) X.env = (false, eval a X.env) :: starEach es X.env := by rfl) (hpl : (backTo pos (starEach es X.env)).any (·.1) = false := by rfl) :
    SE X g Wx (.Call (.Name nm p) (a :: es) [] pos) (xcall f r) :=
  pe_imp (pe_callTy hc hg hm hv ha hn hdb he hpl) fun σ H Q ⟨δ, S, ρ, sm, se, h⟩ => ⟨δ, S, ρ, sm, se, wpR.imp (wpR.bind (rel := RelL g) h) fun vs H1 ⟨ρ1, ws, S1, e1, s1, r1, h1⟩ => hf Wx σ ρ1 S1 H1 ws vs Q s1 r1 h1⟩
/-! repr -/
def rRepr (K : PySem.W.Frag) : List V → Hp → VK → Prop := fun xs H Q => ∃ x d, xs = [x] ∧ Dp K H x d ∧ d.showable = true ∧ d.hasDict = false ∧ d.depth ≤ 100 ∧ d.shown.length ≤ sizeLine ∧ Q (.str d.shown) H
theorem call_repr (o : XO X g Wx k) : CallR X (.builtin "repr") (rRepr X.K) := by
  intro pins s σ H xs us Q I rv h
  obtain ⟨x, d, rfl, dp, h1, h2, h3, h4, q⟩ := h
  obtain ⟨u, rfl, ru⟩ := vals1 rv
  obtain ⟨as, rd⟩ := Dp.reads I d x u dp ru
  have hu := o.room.un
  have viaRef : ∀ a : Addr, u = .ref a → wpAny (model X.prog X.w) X.A (PySem.call (.builtin "repr") [u]) (EP X pins σ Q) X.xe s := fun a e => by
    subst e
    exact repr_of_reads' rd h1 (PyData.noDict_hsm h2) o.grd (by omega) (fun _ _ e => e) (fun h' v tk hk => ⟨.str d.shown, H, I.kept (t' := tk) hk, ⟨_, rfl⟩, q⟩) h4
  cases dp with
  | non => cases ru; exact PySem.P.repr_of_none ⟨.str _, H, I.tok _, ⟨_, rfl⟩, q⟩
  | bl b => cases ru; exact PySem.P.repr_of_bool ⟨.str _, H, I.tok _, ⟨_, rfl⟩, by cases b <;> exact q⟩
  | int i => obtain ⟨t, rfl⟩ := ru; exact PySem.P.repr_of_int (by simpa [PyData.showable] using h1) ⟨.str _, H, I.tok _, ⟨_, rfl⟩, q⟩
  | str y => obtain ⟨t, rfl⟩ := ru; exact PySem.P.repr_of_str ⟨.str _, H, I.tok _, ⟨_, rfl⟩, q⟩ h4
  | lst _ _ => exact viaRef _ ru
  | tup _ _ => exact viaRef _ ru
def fRepr (ws : List Va) (S : Sto) : Rs Va := match ws with
  | [w] => match toD S 64 w with
    | some d => bif d.showable && !d.hasDict && decide (d.depth ≤ 100) && decide (d.shown.length ≤ sizeLine) then .ok (.str d.shown) S else .bad
    | none => .bad
  | _ => .bad
theorem cs_repr : CalS g (rRepr g.K) fRepr := fun Wx σ ρ S H ws vs Q sm rl h => by
  unfold fRepr at h
  split at h
  · rename_i w
    cases rl with
    | cons ra rn =>
      cases rn
      cases e : toD S 64 w with
      | none => rw [e] at h; exact h.elim
      | some d =>
        rw [e] at h
        dsimp only at h
        by_cases z : (d.showable && !d.hasDict && decide (d.depth ≤ 100) && decide (d.shown.length ≤ sizeLine)) = true
        · rw [z] at h
          simp only [Bool.and_eq_true, decide_eq_true_eq, Bool.not_eq_true'] at z
          obtain ⟨⟨⟨z1, z2⟩, z3⟩, z4⟩ := z
          exact ⟨_, d, rfl, toD_ok sm 64 w _ d e ra, z1, z2, z3, z4, wpR.fin (a := Va.str d.shown) h sm (.str _)⟩
        · rw [Bool.not_eq_true _ |>.mp z] at h
          exact h.elim
  · exact h.elim
/-! int, len, list -/
@[simp] def fInt (ws : List Va) (S : Sto) : Rs Va := match ws with
  | [.int i] => .ok (.int i) S
  | [.bl b] => .ok (.int (if b then 1 else 0)) S
  | _ => .bad
theorem cs_int : CalS g (fun xs H Q => (∃ i, xs = [.int i] ∧ Q (.int i) H) ∨ ∃ k, xs = [.bl k] ∧ Q (.int (if k then 1 else 0)) H) fInt := fun Wx σ ρ S H ws vs Q sm rl h => by
  unfold fInt at h
  split at h
  · cases rl with
    | cons ra rn => cases rn; cases ra; exact .inl ⟨_, rfl, h.fin sm (.int _)⟩
  · cases rl with
    | cons ra rn => cases rn; cases ra; exact .inr ⟨_, rfl, h.fin sm (.int _)⟩
  · exact h.elim
/-- the items of a list or a tuple -/
@[simp] def itm (w : Va) (S : Sto) : Option (List Va) := match w with
  | .tup ws => some ws
  | .loc l => getL S l
  | _ => none
theorem itm_ok {ρ : List Addr} {S : Sto} {H : Hp} {w : Va} {v : V} {ws : List Va} (sm : Sim g ρ S H) (r : Rel g ρ H w v) (h : itm w S = some ws) : ∃ p vs, v = .ref p ∧ (SqL g.K H p vs ∨ SqT g.K H p vs) ∧ RelL g ρ H ws vs := by
  cases r with
  | @tup us vs p s rl => cases h; exact ⟨p, vs, rfl, .inr s, rl⟩
  | @loc l p hp =>
    obtain ⟨vs, s, rl⟩ := getL_at sm h hp
    exact ⟨p, vs, rfl, .inl s, rl⟩
  | _ => cases h
@[simp] def fLen (ws : List Va) (S : Sto) : Rs Va := match ws with
  | [w] => match itm w S with
    | some us => .ok (.int us.length) S
    | none => .bad
  | _ => .bad
theorem cs_len : CalS g (fun xs H Q => ∃ p ys, xs = [.ref p] ∧ (SqL g.K H p ys ∨ SqT g.K H p ys) ∧ Q (.int ys.length) H) fLen := fun Wx σ ρ S H ws vs Q sm rl h => by
  unfold fLen at h
  split at h
  · rename_i w
    cases rl with
    | cons ra rn =>
      cases rn
      cases e : itm w S with
      | none => rw [e] at h; exact h.elim
      | some us =>
        rw [e] at h
        obtain ⟨p, ts, rfl, s, rl⟩ := itm_ok sm ra e
        have h' : wpR g Wx σ (Rel g) ρ H (.ok (.int us.length) S) Q := h
        rw [rl.length] at h'
        exact ⟨p, ts, rfl, s, h'.fin sm (.int _)⟩
  · exact h.elim
@[simp] def fList (ws : List Va) (S : Sto) : Rs Va := match ws with
  | [w] => match itm w S with
    | some us => llst us S
    | none => .bad
  | _ => .bad
theorem cs_list : CalS g (fun xs H Q => ∃ p ys, xs = [.ref p] ∧ (SqL g.K H p ys ∨ SqT g.K H p ys) ∧ ∀ l, H l = none → Q (.ref l) (upd H l (.lst ys))) fList := fun Wx σ ρ S H ws vs Q sm rl h => by
  unfold fList at h
  split at h
  · rename_i w
    cases rl with
    | cons ra rn =>
      cases rn
      cases e : itm w S with
      | none => rw [e] at h; exact h.elim
      | some us =>
        rw [e] at h
        obtain ⟨p, ts, rfl, s, rl⟩ := itm_ok sm ra e
        exact ⟨p, ts, rfl, s, (new_lst sm rl h).2⟩
  · exact h.elim
/-! isinstance of built-in classes -/
@[simp] def kind (w : Va) (S : Sto) : Option Nat := match w with
  | .non => some 0
  | .bl _ => some 1
  | .int _ => some 2
  | .str _ => some 3
  | .tup _ => some 4
  | .loc l => match S[l]? with
    | some (.lst _) => some 5
    | some (.frl _) => some 5
    | some (.dci _) => some 6
    | some (.dcs _) => some 6
    | _ => none
  | _ => none
theorem kind_ok {ρ : List Addr} {S : Sto} {H : Hp} {w : Va} {v : V} {n : Nat} (sm : Sim g ρ S H) (r : Rel g ρ H w v) (h : kind w S = some n) : TyX g.K H v (.type (tyName n)) := by
  cases r with
  | non => cases h; exact .base .non
  | bl b => cases h; exact .base (.bl b)
  | int i => cases h; exact .base (.int i)
  | str y => cases h; exact .base (.str y)
  | ty m => cases h
  | cl m => cases h
  | @tup us vs p s rl =>
    cases h
    rcases s with (s | ⟨o, s⟩) | ⟨o, its, n, e, c, _⟩
    · exact .base (.tup s)
    · exact .fTuple s
    · exact .kTuple e c
  | @loc l p hp =>
    have h' : (match S[l]? with | some (.lst _) => some 5 | some (.frl _) => some 5 | some (.dci _) => some 6 | some (.dcs _) => some 6 | _ => none) = some n := h
    split at h'
    · rename_i ws e
      cases h'
      obtain ⟨vs, q, z⟩ := sm.ats l _ p e hp
      exact .base (.lst q)
    · rename_i ws e
      cases h'
      rcases sm.ats l _ p e hp with ⟨o, vs, q, z⟩ | ⟨vs, q, z⟩
      · exact .base (.frz q)
      · rcases q (fun _ => none) with (q | ⟨o, q⟩) | ⟨o, its, n, e, c, _⟩
        · cases q
        · cases q
        · exact .kList e c
    · rename_i ks e
      cases h'
      obtain ⟨L, q, _⟩ := sm.ats l _ p e hp
      exact .base (.dK q)
    · rename_i ks e
      cases h'
      obtain ⟨L, q, _⟩ := sm.ats l _ p e hp
      exact .base (.dK q)
    · cases h'
@[simp] def isK (a b : Nat) : Bool := a == b || (a == 1 && b == 2)
theorem kit_all : ∀ a, a < 7 → ∀ b, b < 7 → kitB (tyName a) (tyName b) = some (isK a b) := by decide +kernel
theorem kind_lt {w : Va} {S : Sto} {n : Nat} (h : kind w S = some n) : n < 7 := by
  unfold kind at h
  split at h
  · cases h; decide
  · cases h; decide
  · cases h; decide
  · cases h; decide
  · cases h; decide
  · split at h
    · cases h; decide
    · cases h; decide
    · cases h; decide
    · cases h; decide
    · cases h
  · cases h
@[simp] def fIsi (ws : List Va) (S : Sto) : Rs Va := match ws with
  | [w, .ty n] => match kind w S with
    | some m => if n < 7 then .ok (.bl (isK m n)) S else .bad
    | none => .bad
  | _ => .bad
theorem cs_isi : CalS g (rIsi g.K) fIsi := fun Wx σ ρ S H ws vs Q sm rl h => by
  unfold fIsi at h
  split at h
  · rename_i w n
    cases rl with
    | cons ra rn =>
      cases rn with
      | cons rb rn =>
        cases rn
        cases rb
        cases e : kind w S with
        | none => rw [e] at h; exact h.elim
        | some m =>
          rw [e] at h
          dsimp only at h
          by_cases hn : n < 7
          · rw [if_pos hn] at h
            exact ⟨_, _, _, _, isK m n, rfl, .ty _, kind_ok sm ra e, kit_ty (kit_all m (kind_lt e) n hn), h.fin sm (.bl _)⟩
          · rw [if_neg hn] at h
            exact h.elim
  · exact h.elim
theorem se_repr (o : XO X g Wx k) {p : Pos} (hm : X.mg "repr" = none) (ha : SA X g Wx [a] r) (hg : Gl X "repr" := by rfl) (he : starEach [a] X.env = (false, eval a X.env) :: starEach [] X.env := by rfl) : SE X g Wx (.Call (.Name "repr" p) [a] [] pos) (xcall fRepr r) :=
  se_callB (call_repr o) (o.K ▸ cs_repr) hm ha hg (he := he)
theorem se_int_ {p : Pos} (hm : X.mg "int" = none) (ha : SA X g Wx [a] r) (hg : Gl X "int" := by rfl) (he : starEach [a] X.env = (false, eval a X.env) :: starEach [] X.env := by rfl) : SE X g Wx (.Call (.Name "int" p) [a] [] pos) (xcall fInt r) :=
  se_callT call_int1 cs_int hm ha hg (he := he)
theorem se_len (o : XO X g Wx k) {p : Pos} (hm : X.mg "len" = none) (ha : SA X g Wx [a] r) (hg : Gl X "len" := by rfl) (he : starEach [a] X.env = (false, eval a X.env) :: starEach [] X.env := by rfl) : SE X g Wx (.Call (.Name "len" p) [a] [] pos) (xcall fLen r) :=
  se_callB call_len_seq (o.K ▸ cs_len) hm ha hg (he := he)
theorem se_list (o : XO X g Wx k) {p : Pos} (hm : X.mg "list" = none) (ha : SA X g Wx [a] r) (hg : Gl X "list" := by rfl) (he : starEach [a] X.env = (false, eval a X.env) :: starEach [] X.env := by rfl) : SE X g Wx (.Call (.Name "list" p) [a] [] pos) (xcall fList r) :=
  se_callT call_list_of (o.K ▸ cs_list) hm ha hg (he := he)
theorem se_isi (o : XO X g Wx k) {p : Pos} (hm : X.mg "isinstance" = none) (ha : SA X g Wx [a, b] r) (hg : Gl X "isinstance" := by rfl) (he : starEach [a, b] X.env = (false, eval a X.env) :: starEach [b] X.env := by rfl) (hpl : (backTo pos (starEach [b] X.env)).any (·.1) = false := by rfl) :
    SE X g Wx (.Call (.Name "isinstance" p) [a, b] [] pos) (xcall fIsi r) :=
  se_callB call_isi (o.K ▸ cs_isi) hm ha hg (he := he) (hpl := hpl)
/-! methods of lists -/
def MetS (g : G) (q : V → List V → Hp → VK → Prop) (f : Va → List Va → Sto → Rs Va) : Prop :=
  ∀ (Wx : WX) (σ : L2.St) (ρ : List Addr) (S : Sto) (H : Hp) (w : Va) (v : V) (ws : List Va) (vs : List V) (Q : VK), Sim g ρ S H → Rel g ρ H w v → RelL g ρ H ws vs → wpR g Wx σ (Rel g) ρ H (f w ws S) Q → q v vs H Q
@[simp] def isL (w : Va) (S : Sto) : Bool := match w with
  | .loc l => (getL S l).isSome
  | _ => false
theorem isL_ok {ρ : List Addr} {S : Sto} {H : Hp} {w : Va} {v : V} (sm : Sim g ρ S H) (r : Rel g ρ H w v) (h : isL w S = true) : tyV g.K "list" v H := by
  cases r with
  | @loc l p hp =>
    obtain ⟨ws, e⟩ := Option.isSome_iff_exists.mp (show (getL S l).isSome = true from h)
    obtain ⟨vs, s, rl⟩ := getL_at sm e hp
    exact .inl ⟨rfl, vs, s⟩
  | _ => cases h
@[simp] def xmetL (f : Va → List Va → Sto → Rs Va) (x : XE) (r : XA) : XE := fun δ S => (x δ S).bind fun w S1 => if isL w S1 then (r δ S1).bind fun ws S2 => f w ws S2 else .bad
theorem metL_in {q : V → List V → Hp → VK → Prop} {f : Va → List Va → Sto → Rs Va} (hf : MetS g q f) (σ : L2.St) (H : Hp) (Q : VK) (h0 : tE g Wx (xmetL f x r) σ H Q) : tE g Wx x σ H fun v H1 => tyV g.K "list" v H1 ∧ tA g Wx r σ H1 fun vs H2 => q v vs H2 Q := by
  obtain ⟨δ, S, ρ, sm, se, h⟩ := h0
  refine ⟨δ, S, ρ, sm, se, wpR.imp (wpR.bind (rel := Rel g) h) fun v H1 ⟨ρ1, w, S1, e1, s1, r1, h1⟩ => ?_⟩
  by_cases hl : isL w S1 = true
  · rw [if_pos hl] at h1
    refine ⟨isL_ok s1 r1 hl, δ, S1, ρ1, s1, se.mono e1, wpR.imp (wpR.bind (rel := RelL g) h1) fun vs H2 ⟨ρ2, ws, S2, e2, s2, r2, h2⟩ => ?_⟩
    exact hf Wx σ ρ2 S2 H2 w v ws vs Q s2 (r1.mono e2) r2 h2
  · rw [if_neg hl] at h1
    exact h1.elim
def oApp (w : Va) (ws : List Va) (S : Sto) : Rs Va := match w, ws with
  | .loc l, [y] => match S[l]? with
    | some (.lst xs) => bif fits (xs.length + 1) then .ok .non (S.set l (.lst (xs ++ [y]))) else .bad
    | _ => .bad
  | _, _ => .bad
theorem ms_app : MetS g rAppend oApp := fun Wx σ ρ S H w v ws vs Q sm r rl h => by
  unfold oApp at h
  split at h
  · rename_i l y
    split at h
    · rename_i xs e
      by_cases hz : fits (xs.length + 1) = true
      · rw [hz] at h
        cases r with
        | @loc i p hp =>
          cases rl with
          | @cons w1 ws1 v1 vs1 ra rn =>
            cases rn
            obtain ⟨ts, q, z⟩ := sm.ats l _ p e hp
            obtain ⟨s1, e1⟩ := sm.put (o' := .lst (xs ++ [y])) (u := .lst (ts ++ [v1])) e hp rfl rfl fun H' e' q' => ⟨_, q', (z.mono e').app (.cons (ra.mono e') .nil)⟩
            exact ⟨p, ts, v1, rfl, rfl, q, by rw [← z.length]; exact fits_iff.mp hz, wpR.fin_at (a := Va.non) h e1 s1 .non⟩
      · rw [Bool.not_eq_true _ |>.mp hz] at h
        exact h.elim
    · exact h.elim
  · exact h.elim
theorem se_append (o : XO X g Wx k) {ap : Pos} (ha : SE X g Wx a x) (hr : SA X g Wx [b] r) (hbase : attributeBase a "append" X.env (eval a X.env) = eval a X.env := by rfl)
    (hfew : ((backTo pos (starEach [b] X.env)).all (fun x => !x.1) && (backToKw pos (keywordEach [] X.env)).all (fun x => x.1.isSome) && decide ([b].length + ([] : List Keyword).length + (if ([] : List Keyword).isEmpty then 0 else 1) < 30)) = true := by rfl)
    (hline : (ap.endLine == pos.line) = true := by rfl) (hs : starEach [b] X.env = (false, eval b X.env) :: starEach [] X.env := by rfl) :
    SE X g Wx (.Call (.Attribute a "append" ap) [b] [] pos) (xmetL oApp x r) :=
  pe_imp (pe_bm PySem.F.plainAttrs_list PySem.F.slot_list_append PySem.F.type_list_append mt_append ha hr hbase hfew hline hs) (by have e := o.K; have q := metL_in (Wx := Wx) (x := x) (r := r) (ms_app (g := g)); rw [e] at q; exact q)
/-! xs[::-1] -/
@[simp] def oRev (w : Va) (S : Sto) : Rs Va := match w with
  | .loc l => match getL S l with
    | some ws => llst ws.reverse S
    | none => .bad
  | _ => .bad
theorem se_rev (o : XO X g Wx k) {j : Nat} {p1 p2 p3 : Pos} (ha : SE X g Wx a x) : SE X g Wx (.Subscript a (.Slice none none (some (.UnaryOp .USub (.Constant (.int 1) j p1) p2)) p3) pos) (xun oRev x) :=
  pe_imp (pe_revL ha) fun σ H Q ⟨δ, S, ρ, sm, se, h⟩ => ⟨δ, S, ρ, sm, se, wpR.imp (wpR.bind (rel := Rel g) h) fun v H1 ⟨ρ1, w, S1, e1, s1, r1, h1⟩ => by
    cases r1 with
    | @loc l p hp =>
      have h1' : wpR g Wx σ (Rel g) ρ1 H1 (match getL S1 l with | some ws => llst ws.reverse S1 | none => .bad) Q := h1
      cases q : getL S1 l with
      | none => rw [q] at h1'; exact h1'.elim
      | some ws =>
        rw [q] at h1'
        obtain ⟨vs, s, rl⟩ := getL_at s1 q hp
        exact ⟨p, vs, rfl, o.K ▸ s, (new_lst s1 rl.rev h1').2⟩
    | _ => exact h1.elim⟩
end
end Rz
namespace Rz
open PySem PySem.Spec PyProof.Rows L2

/-! ### comprehensions -/
abbrev WF : WX := fun _ _ _ _ => False
@[simp] def wipeE (δ : Env) : List Nat → Env
  | [] => δ
  | v :: vs => (wipeE δ vs).set v none
def compG (nth : Nth) (put : XP) (cond : XT) (elt : XE) (D : Nat) (δ : Env) : Nat → Nat → Sto → Rs Va
  | 0, _, _ => .bad
  | n + 1, i, S => match nth S i with
    | none => .bad
    | some none => .ok (.loc D) S
    | some (some w) => match put w δ with
      | none => .bad
      | some δ1 => match cond δ1 S with
        | .ok false S1 => compG nth put cond elt D δ n (i + 1) S1
        | .ok true S1 => match elt δ1 S1 with
          | .ok y S2 => match S2[D]? with
            | some (.lst acc) => bif fits (acc.length + 1) then compG nth put cond elt D δ n (i + 1) (S2.set D (.lst (acc ++ [y]))) else .bad
            | _ => .bad
          | _ => .bad
        | _ => .bad
@[simp] def xcomp (vs : List Nat) (x : XI) (put : XP) (cond : XT) (elt : XE) : XE := fun δ S => (x δ S).bind fun a S1 => compG a.2 put cond elt S1.length (wipeE δ vs) a.1 0 (S1 ++ [.lst []])
@[simp] def xyes : XT := fun _ S => .ok true S
theorem wipe_get (σ : L2.St) : ∀ (vs : List Nat) (j : Nat), (wipe σ vs)[j]? = if j ∈ vs ∧ j < σ.length then some none else σ[j]?
  | [], j => by simp [wipe]
  | v :: vs, j => by
    have ih := wipe_get σ vs j
    unfold wipe
    by_cases h : j = v
    · subst h
      by_cases hl : j < σ.length
      · rw [List.getElem?_set_self (by rw [wipe_length]; exact hl), if_pos ⟨List.mem_cons_self, hl⟩]
      · rw [if_neg fun z => hl z.2, List.getElem?_eq_none (by rw [List.length_set, wipe_length]; omega), List.getElem?_eq_none (by omega)]
    · rw [List.getElem?_set_ne (Ne.symm h), ih]
      by_cases h2 : j ∈ vs ∧ j < σ.length
      · rw [if_pos h2, if_pos ⟨List.mem_cons_of_mem _ h2.1, h2.2⟩]
      · rw [if_neg h2, if_neg fun z => h2 ⟨(List.mem_cons.mp z.1).resolve_left h, z.2⟩]
theorem wipe_same {σ τ : L2.St} {vs sl : List Nat} (hl : τ.length = σ.length) (h : ∀ j, j ∉ sl → τ[j]? = (wipe σ vs)[j]?) (hs : ∀ j ∈ sl, j ∈ vs) : wipe τ vs = wipe σ vs := by
  apply List.ext_getElem?
  intro j
  rw [wipe_get τ, wipe_get σ, hl]
  by_cases h1 : j ∈ vs ∧ j < σ.length
  · rw [if_pos h1, if_pos h1]
  · rw [if_neg h1, if_neg h1]
    by_cases h2 : j ∈ vs
    · have h3 : ¬ j < σ.length := fun z => h1 ⟨h2, z⟩
      rw [List.getElem?_eq_none (by omega), List.getElem?_eq_none (by omega)]
    · rw [h j fun z => h2 (hs j z), wipe_get σ, if_neg h1]
section
variable {g : G} {ρ : List Addr} {H : Hp}
theorem SimE.wipe {δ : Env} {σ : L2.St} (h : SimE g ρ H δ σ) : ∀ vs : List Nat, SimE g ρ H (wipeE δ vs) (L2.wipe σ vs)
  | [] => h
  | v :: vs => (SimE.wipe h vs).drop
end
section
variable {X : Cx} {g : G} {Wx : WX} {k : Nat} {pos : Pos} {a b c : Expr} {es : List Expr} {x y z : XE} {r : XA}
theorem comp_in {xi : XI} {put : XP} {sl : List Nat} {cond : XT} {elt : XE} {vs : List Nat} (hsl : ∀ j ∈ sl, j ∈ vs) (σ : L2.St) (H : Hp) (Q : VK) (h0 : tE g Wx (xcomp vs xi put cond elt) σ H Q) : tLc (tI g Wx xi) (tP g put sl) (tQ g WF cond) (tE g WF elt) vs σ H Q := by
  obtain ⟨δ, S, ρ, sm, se, h⟩ := h0
  refine ⟨δ, S, ρ, sm, se, ?_⟩
  unfold xcomp at h
  cases q : xi δ S with
  | bad => rw [q] at h; exact h
  | ex c fs S' => rw [q] at h; exact h
  | ok a0 S0 =>
    rw [q] at h
    have h' : wpR g Wx σ (Rel g) ρ H (compG a0.2 put cond elt S0.length (wipeE δ vs) a0.1 0 (S0 ++ [.lst []])) Q := h
    intro ρ0 H0 J e0 s0 ok D hD
    obtain ⟨s1, e1⟩ := s0.laid (o := .lst []) (u := .lst []) hD (fun ρ' H' e q => ⟨[], q, .nil⟩) rfl
    have hDl : (ρ0 ++ [D])[S0.length]? = some D := by rw [s0.len]; simp
    refine ⟨fun i m H2 => ∃ S ρ, Ext g (ρ0 ++ [D]) (upd H0 D (.lst [])) ρ H2 ∧ Sim g ρ S H2 ∧ wpR g Wx σ (Rel g) ρ H2 (compG a0.2 put cond elt S0.length (wipeE δ vs) m i S) Q, ⟨a0.1, _, _, .refl, s1, wpR.ext (e0.trans e1) h'⟩, ?_⟩
    rintro i m H2 ⟨S2, ρ2, e2, s2, hw⟩
    cases m with
    | zero => exact hw.elim
    | succ m =>
      obtain ⟨k3, k4⟩ := ok i S2 ρ2 H2 (e1.trans e2) s2
      unfold compG at hw
      cases hn : a0.2 S2 i with
      | none => rw [hn] at hw; exact hw.elim
      | some ow =>
        rw [hn] at hw
        cases ow with
        | none => exact .inl ⟨k3 hn, hw.fin s2 (.loc (e2.at hDl))⟩
        | some w =>
          obtain ⟨g1, g2⟩ := k4 w hn
          refine .inr ⟨g1, fun H' => ∃ S ρ, Ext g (ρ0 ++ [D]) (upd H0 D (.lst [])) ρ H' ∧ Sim g ρ S H' ∧ wpR g Wx σ (Rel g) ρ H' (compG a0.2 put cond elt S0.length (wipeE δ vs) m (i + 1) S) Q, fun H' hh => ⟨m, Nat.lt_succ_self m, hh⟩, fun x H' y => ?_⟩
          obtain ⟨ey, sy, rx⟩ := g2 x H' y
          dsimp only at hw
          cases hp : put w (wipeE δ vs) with
          | none => rw [hp] at hw; exact hw.elim
          | some δ3 =>
            rw [hp] at hw
            dsimp only at hw
            have ew : Ext g ρ H ρ2 H' := ((e0.trans e1).trans e2).trans ey
            replace e2 := e2.trans ey
            replace hw := wpR.ext ey hw
            replace s2 := sy
            refine ⟨wipeE δ vs, w, ρ2, δ3, rx, (se.mono ew).wipe vs, hp, fun σ3 se3 hl3 hs3 => ⟨wipe_same (by rw [hl3, wipe_length]) hs3 hsl, δ3, S2, ρ2, s2, se3, ?_⟩⟩
            · cases hc : cond δ3 S2 with
              | bad => rw [hc] at hw; exact hw.elim
              | ex c fs S' => rw [hc] at hw; exact hw.elim
              | ok t S3 =>
                rw [hc] at hw
                intro ρ3 H3 t' e3 s3 rt
                cases rt
                cases t with
                | false => exact ⟨S3, ρ3, e2.trans e3, s3, wpR.ext e3 hw⟩
                | true =>
                  dsimp only at hw
                  refine ⟨δ3, S3, ρ3, s3, se3.mono e3, ?_⟩
                  cases he : elt δ3 S3 with
                  | bad => rw [he] at hw; exact hw.elim
                  | ex c fs S' => rw [he] at hw; exact hw.elim
                  | ok y S4 =>
                    rw [he] at hw
                    dsimp only at hw
                    intro ρ4 H4 v e4 s4 rv
                    split at hw
                    · rename_i acc hacc
                      by_cases hz : fits (acc.length + 1) = true
                      · rw [hz] at hw
                        have hD4 := (e2.trans (e3.trans e4)).at hDl
                        obtain ⟨ts, q1, q2⟩ := s4.ats _ _ _ hacc hD4
                        obtain ⟨s5, e5⟩ := s4.put (o' := .lst (acc ++ [y])) (u := .lst (ts ++ [v])) hacc hD4 rfl rfl fun H' e' q' => ⟨_, q', (q2.mono e').app (.cons (rv.mono e') .nil)⟩
                        exact ⟨ts, q1, by rw [← q2.length]; exact fits_iff.mp hz, _, ρ4, e2.trans (e3.trans (e4.trans e5)), s5, wpR.ext (e3.trans (e4.trans e5)) hw⟩
                      · rw [Bool.not_eq_true _ |>.mp hz] at hw
                        exact hw.elim
                    · exact hw.elim

theorem XO.blk (o : XO X g Wx k) (s : Shared) (H : Hp) (scope : Scope) (cenv : PySem.Env) (fp : List Addr) : XO (X.blk s H scope cenv fp) g WF k := ⟨o.K, o.nd, o.calm, o.room, o.grd, takes0, PassesOwn.never, o.gP, o.gw⟩
/-- [elt for tg in it] -/
theorem se_comp (o : XO X g Wx k) (own : List (Str × Nat)) {tg it elt : Expr} {ifs : List Expr} {scope : Scope} {xi : XI} {put : XP} {sl : List Nat} {cond : XT} {xe : XE} (hi : SI X g Wx tg it xi) (ok : BlkOk X.N X.env.scope scope own)
    (hg : ∀ (s : Shared) (H : Hp) (C : Addr) (cl : List (Str × Addr)) (fp : List Addr), XO (X.blk s H scope (compEnvC scope cl C X.env) fp) g WF k → SG (X.blk s H scope (compEnvC scope cl C X.env) fp) g tg put sl)
    (ht : ∀ (s : Shared) (H : Hp) (C : Addr) (cl : List (Str × Addr)) (fp : List Addr), XO (X.blk s H scope (compEnvC scope cl C X.env) fp) g WF k → PTs (X.blk s H scope (compEnvC scope cl C X.env) fp) ifs (tQ g WF cond))
    (he : ∀ (s : Shared) (H : Hp) (C : Addr) (cl : List (Str × Addr)) (fp : List Addr), XO (X.blk s H scope (compEnvC scope cl C X.env) fp) g WF k → SE (X.blk s H scope (compEnvC scope cl C X.env) fp) g WF elt xe)
    (hsl : ∀ j ∈ sl, j ∈ own.map (·.2) := by decide) (hs : ∀ x, foldedSetIterable it X.env x = pure x := by intro _; rfl) : SE X g Wx (.ListComp elt [⟨tg, it, ifs, 0⟩] scope pos) (xcomp (own.map (·.2)) xi put cond xe) :=
  pe_imp (pe_lc o.calm o.nd hi ok (fun s H C cl fp => hg s H C cl fp (o.blk ..)) (fun s H C cl fp => ht s H C cl fp (o.blk ..)) (fun s H C cl fp => he s H C cl fp (o.blk ..)) hs) (comp_in hsl)
theorem ss_comp (o : XO X g Wx k) (i : Nat) (own : List (Str × Nat)) {n : Str} {py spos : Pos} {tg it elt : Expr} {ifs : List Expr} {scope : Scope} {xi : XI} {put : XP} {sl : List Nat} {cond : XT} {xe : XE} (hi : SI X g Wx tg it xi) (ok : BlkOk X.N X.env.scope scope own)
    (hg : ∀ (s : Shared) (H : Hp) (C : Addr) (cl : List (Str × Addr)) (fp : List Addr), XO (X.blk s H scope (compEnvC scope cl C X.env) fp) g WF k → SG (X.blk s H scope (compEnvC scope cl C X.env) fp) g tg put sl)
    (ht : ∀ (s : Shared) (H : Hp) (C : Addr) (cl : List (Str × Addr)) (fp : List Addr), XO (X.blk s H scope (compEnvC scope cl C X.env) fp) g WF k → PTs (X.blk s H scope (compEnvC scope cl C X.env) fp) ifs (tQ g WF cond))
    (he : ∀ (s : Shared) (H : Hp) (C : Addr) (cl : List (Str × Addr)) (fp : List Addr), XO (X.blk s H scope (compEnvC scope cl C X.env) fp) g WF k → SE (X.blk s H scope (compEnvC scope cl C X.env) fp) g WF elt xe)
    (hy : X.N[i]? = some n := by rfl) (hyl : X.env.scope.names.lookup n = some .local := by rfl) (hsw : swapsWith (.ListComp elt [⟨tg, it, ifs, 0⟩] scope pos) (some (.Name n py)) spos.line X.env = pure true := by exact sw_true rfl rfl rfl (by decide +kernel))
    (hsl : ∀ j ∈ sl, j ∈ own.map (·.2) := by decide) (hs : ∀ x, foldedSetIterable it X.env x = pure x := by intro _; rfl) : SS X g Wx (.Assign [.Name n py] (.ListComp elt [⟨tg, it, ifs, 0⟩] scope pos) spos) (sset i (xcomp (own.map (·.2)) xi put cond xe)) :=
  ps_imp (ps_setLc (i := i) o.calm o.nd hy hyl hsw hi ok (fun s H C cl fp => hg s H C cl fp (o.blk ..)) (fun s H C cl fp => ht s H C cl fp (o.blk ..)) (fun s H C cl fp => he s H C cl fp (o.blk ..)) hs) fun D σ H ⟨δ, S, ρ, sm, se, h⟩ =>
    comp_in hsl σ H _ ⟨δ, S, ρ, sm, se, wpR.imp (wpR.out (rel := Rel g) se h) fun v H1 ⟨ρ1, w, S1, e1, s1, r1, h1⟩ => h1 ρ1 H1 _ .refl s1 ((se.mono e1).put r1)⟩
theorem st_nil : PTs X [] (tQ g WF xyes) := ⟨fun pins s σ H Q I ⟨δ, S, ρ, sm, se, h⟩ => pts_nil.run pins s σ H Q I (h.fin sm rfl)⟩
theorem st_one {p : XT} (h : SQ X g WF c p) : PTs X [c] (tQ g WF p) := pts_one h

/-! ### list(range(a, b, c)) -/
def rgL (a c : Int) (n : Nat) : List Va := (List.range n).map fun i => Va.int (a + (i : Nat) * c)
def lrngOk (a b c : Int) : Bool := decide (c ≠ 0) && Builtin.Range.small a b c && decide (0 ≤ Builtin.Range.rangeSize a b c) && decide (Builtin.Range.rangeSize a b c ≤ 16777216) && decide (c.natAbs < 1073741824)
def lrng (a b c : Int) (S : Sto) : Rs Va := bif lrngOk a b c then llst (rgL a c (Builtin.Range.rangeSize a b c).toNat) S else .bad
@[simp] def fLR3 (ws : List Va) (S : Sto) : Rs Va := match ws with
  | [.int a, .int b, .int c] => lrng a b c S
  | _ => .bad
@[simp] def fLR2 (ws : List Va) (S : Sto) : Rs Va := match ws with
  | [.int a, .int b] => lrng a b 1 S
  | _ => .bad
@[simp] def fLR1 (ws : List Va) (S : Sto) : Rs Va := match ws with
  | [.int b] => lrng 0 b 1 S
  | _ => .bad
theorem rgL_rel {ρ : List Addr} {H : Hp} {a c : Int} {n : Nat} {acc : Array Value} (h : ItemsOf (fun i v => ∃ t, v = .int (a + i * c) t) acc n) : ∃ vs, RelL g ρ H (rgL a c n) vs ∧ Vals vs acc.toList := by
  refine ⟨(List.range n).map fun i => V.int (a + (i : Nat) * c), ?_, ?_⟩
  · unfold rgL
    generalize List.range n = l
    induction l with
    | nil => exact .nil
    | cons x l ih => exact .cons (.int _) ih
  · have e : acc.toList.length = n := by rw [Array.length_toList]; exact h.1
    rw [← e]
    refine vals_of_get acc.toList _ fun j u hj => ?_
    obtain ⟨t, rfl⟩ := h.2 j u (by rw [← hj, Array.getElem?_toList])
    exact ⟨t, rfl⟩
end
end Rz
namespace Rz
open PySem PySem.Spec PyProof.Rows L2
section
variable {X : Cx} {g : G} {Wx : WX} {k : Nat} {pos : Pos} {a b c : Expr} {es : List Expr} {x y z : XE} {r : XA}
theorem lrng_run (o : XO X g Wx k) {pins : List (Addr × Obj)} {σ : L2.St} {ρ : List Addr} {S : Sto} {H : Hp} {s : Shared} {Q : VK} {p : Addr} {lo hi st : Int} {t u v : Tok} (I : Inv X pins σ H s) (sm : Sim g ρ S H) (hr : IsRange s.heap p lo hi st t u v)
    (h : wpR g Wx σ (Rel g) ρ H (lrng lo hi st S) Q) : wpAny (model X.prog X.w) X.A (PySem.call (.type "list") [.ref p]) (EP X pins σ Q) X.xe s := by
  unfold lrng at h
  by_cases z : lrngOk lo hi st = true
  · rw [z] at h
    unfold lrngOk at z
    simp only [Bool.and_eq_true, decide_eq_true_eq] at z
    obtain ⟨⟨⟨⟨z1, z2⟩, z3⟩, z4⟩, z5⟩ := z
    have hn : Builtin.Range.rangeSize lo hi st = ((Builtin.Range.rangeSize lo hi st).toNat : Int) := (Int.toNat_of_nonneg z3).symm
    refine call_list_range (I.ok.hd o.calm) hr z2 hn (by omega) fun h' tk acc c' hk e' hi' => ?_
    obtain ⟨ts, r1, r2⟩ := rgL_rel (g := g) (ρ := ρ) (H := H) hi'
    obtain ⟨n1, n2⟩ := new_lst sm r1 h
    refine ⟨.ref s.heap.objs.size, upd H s.heap.objs.size (.lst ts), I.laid hk (Nat.le_refl _) (show ObjOk X.prog X.w _ _ _ (.lst ts) from ⟨n1, acc.toList, c', r2, ?_⟩), rfl, n2 _ (I.hok.fresh (Nat.le_refl _))⟩
    rw [Array.toArray_toList]
    exact e'
  · rw [Bool.not_eq_true _ |>.mp z] at h
    exact h.elim
theorem lrng_ok {lo hi st : Int} {σ : L2.St} {ρ : List Addr} {S : Sto} {H : Hp} {Q : VK} (h : wpR g Wx σ (Rel g) ρ H (lrng lo hi st S) Q) : st ≠ 0 ∧ st.natAbs < 1073741824 := by
  unfold lrng at h
  by_cases z : lrngOk lo hi st = true
  · rw [z] at h
    unfold lrngOk at z
    simp only [Bool.and_eq_true, decide_eq_true_eq] at z
    exact ⟨z.1.1.1.1, z.2⟩
  · rw [Bool.not_eq_true _ |>.mp z] at h
    exact h.elim
theorem se_lrng3 (o : XO X g Wx k) {p p2 pos2 : Pos} (hm : X.mg "list" = none) (hm2 : X.mg "range" = none) (ha : SA X g Wx [a, b, c] r) (hg : Gl X "list" := by rfl) (hg2 : Gl X "range" := by rfl)
    (na : starEach [Expr.Call (.Name "range" p2) [a, b, c] [] pos2] X.env = (false, eval (.Call (.Name "range" p2) [a, b, c] [] pos2) X.env) :: starEach [] X.env := by rfl)
    (na2 : starEach [a, b, c] X.env = (false, eval a X.env) :: starEach [b, c] X.env := by rfl) (np : (backTo pos2 (starEach [b, c] X.env)).any (·.1) = false := by rfl) :
    SE X g Wx (.Call (.Name "list" p) [.Call (.Name "range" p2) [a, b, c] [] pos2] [] pos) (xcall fLR3 r) := by
  refine ⟨fun pins s σ H Q I ⟨δ, S, ρ, sm, se, h⟩ => ?_⟩
  refine Call_ (ld_blt I hg hm boot_list (PyProof.Rows.callWith_type1 (args_cons (Call_ (ld_blt I hg2 hm2 boot_range (PyProof.Rows.callWith_type1 (thn (ha.run pos2 pins s σ H _ I ⟨δ, S, ρ, sm, se, wpR.bind (rel := RelL g) h⟩) fun us s1 hh => ?_) na2 np))) na) na))
  obtain ⟨vs, H1, I1, rv, ρ1, ws, S1, e1, s1', r1, h1⟩ := hh
  unfold fLR3 at h1
  split at h1
  · rename_i lo hi st
    cases r1 with
    | cons ra r1 => cases r1 with
      | cons rb r1 => cases r1 with
        | cons rc r1 =>
          cases r1; cases ra; cases rb; cases rc
          cases rv with
          | cons q1 rv => cases rv with
            | cons q2 rv => cases rv with
              | cons q3 rv =>
                cases rv
                obtain ⟨t1, rfl⟩ := q1
                obtain ⟨t2, rfl⟩ := q2
                obtain ⟨t3, rfl⟩ := q3
                obtain ⟨z1, z2⟩ := lrng_ok h1
                refine call_range_3 z1 (args_nil ?_) (.inl (PyProof.noPylong_small z2))
                exact lrng_run o (I1.kept fun b u e => Heap.get?_push_of_some _ e) s1' (IsRange.new _ _ _ _ _ _ _) h1
  · exact h1.elim
theorem se_lrng2 (o : XO X g Wx k) {p p2 pos2 : Pos} (hm : X.mg "list" = none) (hm2 : X.mg "range" = none) (ha : SA X g Wx [a, b] r) (hg : Gl X "list" := by rfl) (hg2 : Gl X "range" := by rfl)
    (na : starEach [Expr.Call (.Name "range" p2) [a, b] [] pos2] X.env = (false, eval (.Call (.Name "range" p2) [a, b] [] pos2) X.env) :: starEach [] X.env := by rfl)
    (na2 : starEach [a, b] X.env = (false, eval a X.env) :: starEach [b] X.env := by rfl) (np : (backTo pos2 (starEach [b] X.env)).any (·.1) = false := by rfl) :
    SE X g Wx (.Call (.Name "list" p) [.Call (.Name "range" p2) [a, b] [] pos2] [] pos) (xcall fLR2 r) := by
  refine ⟨fun pins s σ H Q I ⟨δ, S, ρ, sm, se, h⟩ => ?_⟩
  refine Call_ (ld_blt I hg hm boot_list (PyProof.Rows.callWith_type1 (args_cons (Call_ (ld_blt I hg2 hm2 boot_range (PyProof.Rows.callWith_type1 (thn (ha.run pos2 pins s σ H _ I ⟨δ, S, ρ, sm, se, wpR.bind (rel := RelL g) h⟩) fun us s1 hh => ?_) na2 np))) na) na))
  obtain ⟨vs, H1, I1, rv, ρ1, ws, S1, e1, s1', r1, h1⟩ := hh
  unfold fLR2 at h1
  split at h1
  · rename_i lo hi
    cases r1 with
    | cons ra r1 => cases r1 with
      | cons rb r1 =>
        cases r1; cases ra; cases rb
        cases rv with
        | cons q1 rv => cases rv with
          | cons q2 rv =>
            cases rv
            obtain ⟨t1, rfl⟩ := q1
            obtain ⟨t2, rfl⟩ := q2
            refine call_range_2 (args_nil ?_)
            exact lrng_run o (I1.kept fun b u e => Heap.get?_push_of_some _ e) s1' (IsRange.new _ _ _ _ _ _ _) h1
  · exact h1.elim
theorem se_lrng1 (o : XO X g Wx k) {p p2 pos2 : Pos} (hm : X.mg "list" = none) (hm2 : X.mg "range" = none) (ha : SA X g Wx [a] r) (hg : Gl X "list" := by rfl) (hg2 : Gl X "range" := by rfl)
    (na : starEach [Expr.Call (.Name "range" p2) [a] [] pos2] X.env = (false, eval (.Call (.Name "range" p2) [a] [] pos2) X.env) :: starEach [] X.env := by rfl)
    (na2 : starEach [a] X.env = (false, eval a X.env) :: starEach [] X.env := by rfl) :
    SE X g Wx (.Call (.Name "list" p) [.Call (.Name "range" p2) [a] [] pos2] [] pos) (xcall fLR1 r) := by
  refine ⟨fun pins s σ H Q I ⟨δ, S, ρ, sm, se, h⟩ => ?_⟩
  refine Call_ (ld_blt I hg hm boot_list (PyProof.Rows.callWith_type1 (args_cons (Call_ (ld_blt I hg2 hm2 boot_range (PyProof.Rows.callWith_type1 (thn (ha.run pos2 pins s σ H _ I ⟨δ, S, ρ, sm, se, wpR.bind (rel := RelL g) h⟩) fun us s1 hh => ?_) na2))) na) na))
  obtain ⟨vs, H1, I1, rv, ρ1, ws, S1, e1, s1', r1, h1⟩ := hh
  unfold fLR1 at h1
  split at h1
  · rename_i hi
    cases r1 with
    | cons ra r1 =>
      cases r1; cases ra
      cases rv with
      | cons q1 rv =>
        cases rv
        obtain ⟨t1, rfl⟩ := q1
        refine call_range_1 (args_nil ?_)
        exact lrng_run o (I1.kept fun b u e => Heap.get?_push_of_some _ e) s1' (IsRange.new _ _ _ _ _ _ _) h1
  · exact h1.elim
/-! ### two, three names at once -/
@[simp] def spar (is : List Nat) (r : XA) : XS := fun δ S => (r δ S).out δ fun ws S1 => if ws.length = is.length then .nx ((is.zip ws).foldl (fun d p => d.set p.1 (some p.2)) δ) S1 else .bad
theorem ss_par2 (o : XO X g Wx k) (i j : Nat) {n m : Str} {px py pt : Pos} {kt k2 pt2} (ha : SA X g Wx [a, b] r) (hij : i ≠ j := by decide) (hi : X.N[i]? = some n := by rfl) (hj : X.N[j]? = some m := by rfl)
    (hx : X.env.scope.names.lookup n = some .local := by rfl) (hy : X.env.scope.names.lookup m = some .local := by rfl)
    (hw : swappedStores [.Tuple [.Name n px, .Name m py] kt pt] (.Tuple [a, b] k2 pt2) X.env = pure (some [n, m]) := by rfl)
    (hs : swapsWithSole [.Tuple [.Name n px, .Name m py] kt pt] (.Tuple [a, b] k2 pt2) pos.line X.env = pure false := by rfl) :
    SS X g Wx (.Assign [.Tuple [.Name n px, .Name m py] kt pt] (.Tuple [a, b] k2 pt2) pos) (spar [i, j] r) :=
  ps_imp (ps_par o.calm o.nd hi hj hij hx hy ha hw hs) fun D σ H ⟨δ, S, ρ, sm, se, h⟩ => ⟨δ, S, ρ, sm, se, wpR.imp (wpR.out (rel := RelL g) se h) fun vs H1 ⟨ρ1, ws, S1, e1, s1, r1, h1⟩ => by
    by_cases hl : ws.length = [i, j].length
    · rw [if_pos hl] at h1
      cases r1 with
      | nil => cases hl
      | cons ra r1 => cases r1 with
        | nil => cases hl
        | cons rb r1 => cases r1 with
          | nil => exact ⟨_, _, rfl, h1 ρ1 H1 _ .refl s1 (((se.mono e1).put ra).put rb)⟩
          | cons rc r1 => cases hl
    · rw [if_neg hl] at h1
      exact h1.elim⟩
theorem ss_par3 (o : XO X g Wx k) (i j l : Nat) {n m q : Str} {px py pz pt : Pos} {kt k2 pt2} (ha : SA X g Wx [a, b, c] r) (hij : i ≠ j := by decide) (hil : i ≠ l := by decide) (hjl : j ≠ l := by decide) (hi : X.N[i]? = some n := by rfl) (hj : X.N[j]? = some m := by rfl) (hl : X.N[l]? = some q := by rfl)
    (hx : X.env.scope.names.lookup n = some .local := by rfl) (hy : X.env.scope.names.lookup m = some .local := by rfl) (hz : X.env.scope.names.lookup q = some .local := by rfl)
    (hw : swappedStores [.Tuple [.Name n px, .Name m py, .Name q pz] kt pt] (.Tuple [a, b, c] k2 pt2) X.env = pure (some [n, m, q]) := by rfl)
    (hs : swapsWithSole [.Tuple [.Name n px, .Name m py, .Name q pz] kt pt] (.Tuple [a, b, c] k2 pt2) pos.line X.env = pure false := by rfl) :
    SS X g Wx (.Assign [.Tuple [.Name n px, .Name m py, .Name q pz] kt pt] (.Tuple [a, b, c] k2 pt2) pos) (spar [i, j, l] r) :=
  ps_imp (ps_par3 o.calm o.nd hi hj hl hij hil hjl hx hy hz ha hw hs) fun D σ H ⟨δ, S, ρ, sm, se, h⟩ => ⟨δ, S, ρ, sm, se, wpR.imp (wpR.out (rel := RelL g) se h) fun vs H1 ⟨ρ1, ws, S1, e1, s1, r1, h1⟩ => by
    by_cases hl : ws.length = [i, j, l].length
    · rw [if_pos hl] at h1
      cases r1 with
      | nil => cases hl
      | cons ra r1 => cases r1 with
        | nil => cases hl
        | cons rb r1 => cases r1 with
          | nil => cases hl
          | cons rc r1 => cases r1 with
            | nil => exact ⟨_, _, _, rfl, h1 ρ1 H1 _ .refl s1 ((((se.mono e1).put ra).put rb).put rc)⟩
            | cons rd r1 => cases hl
    · rw [if_neg hl] at h1
      exact h1.elim⟩
end

/-! ### the end -/
/-- what a law's meaning must be: True at every script -/
def LawOk (m : List Va → Sto → Rs Va) : Prop := ∀ ns : List Int, ns.length ≤ 63 → ∃ S, m [.loc 0] [.frl (ns.map .int)] = .ok (.bl true) S
section
variable {P : Program} {w : World} {K : PySem.W.Frag} {mg mb : Str → Option Value} {k : Nat} {fa a : Addr} {fd : FuncData} {x : Str} {g : G} {m : List Va → Sto → Rs Va} {s₁ : Shared} {vs : List Value} {ns : List Int}
/-- the store with the script alone -/
theorem sim_script {H : Hp} (hg : g.K = K) (h : (∃ o, H a = some (.frz o (.lst (ns.map V.int)))) ∨ ∀ H', SqL K H' a (ns.map V.int)) (tb : LamX.Tabs g.T H) : Sim g [a] [.frl (ns.map .int)] H := by
  refine ⟨rfl, fun i j b o u h1 h2 h3 h4 h5 h6 => ?_, fun i o b h1 h2 => ?_, tb⟩
  · cases i with
    | zero => cases h3; cases h5
    | succ i => simp at h3
  · cases i with
    | zero =>
      cases h1
      cases h2
      rcases h with ⟨o, h⟩ | h
      · exact .inl ⟨o, _, h, RelL.ints ns⟩
      · exact .inr ⟨_, by rw [hg]; exact h, RelL.ints ns⟩
    | succ i => simp at h1
theorem law_core (hg : g.K = K) (h0 : g.T = []) (hL : LawOk m) (hlen : ns.length ≤ 63) (hb0 : s₁.heap.Ns builtinsNs mb) (hbb : ∀ x : Str, x ≠ "__name__" → mb x = bootBuiltins x) (hlim : s₁.heap.NoLimit) (hgen : s₁.gens = #[]) (KX : K.In s₁.heap) (hns : s₁.heap.Ns mainGlobals mg)
    (ha : s₁.heap.get? a = some { cls := .type "list", data := .seq vs.toArray }) (hr : Room k callerA) (hM : ∃ mm, s₁.heap.Ns sysModules mm) (F : ∀ base : Heap, K.In base → base.Ns mainGlobals mg → (∃ mm, base.Ns sysModules mm) → FnG P w K mg base k fa fd [x] (spM g 1 m)) (hbind : ∀ (s : Shared) (u : Value), BindsTo s fd ⟨[u], []⟩ [(x, u)])
    (H : Hp) (hO : Only H) (hS : (∃ o, H a = some (.frz o (.lst (ns.map V.int)))) ∨ ∀ H', SqL K H' a (ns.map V.int)) (hok : HOk P w H s₁.heap) (hA : ∀ b, H b ≠ none → b = a) (hK : H a ≠ none → K.lookup a = none) :
    codeAny (model P w) callerA (.call (.ref fa) ⟨[.ref a], []⟩) (fun r s' => r = .ok (.ret (.bool true)) ∧ OldK s₁.heap s'.heap ∧ s'.os = s₁.os ∧ AllBare s'.gens) s₁ := by
  have free : ∀ {b : Addr} {o : Obj}, s₁.heap.get? b = some o → (b = a → False) → (hidT s₁.heap H).get? b = some o := fun {b o} e n => hidT_get e (by
    cases q : H b with
    | none => rfl
    | some u => exact (n (hA b (by rw [q]; simp))).elim)
  have dictA : ∀ {b : Addr} {q : Str → Option Value}, s₁.heap.Ns b q → (hidT s₁.heap H).Ns b q := fun {b q} z => by
    obtain ⟨o, es, ep, e, d, r⟩ := z
    refine ⟨o, es, ep, free e fun z => ?_, d, r⟩
    subst z
    rw [ha] at e
    cases e
    have d' : Data.seq vs.toArray _ = Data.dict es ep := d
    cases d'
  have kin : K.In (hidT s₁.heap H) := fun b o e => by
    refine hidT_get (KX b o e) ?_
    cases q : H b with
    | none => rfl
    | some u =>
      obtain rfl := hA b (by rw [q]; simp)
      rw [hK (by rw [q]; simp)] at e
      cases e
  obtain ⟨mc, l1, l2⟩ := hlim
  have env : Env0 P w K mg (hidT s₁.heap H) callerA [] s₁ H :=
    { frames := rfl, mod := ⟨kin, dictA hns, ⟨mb, dictA hb0, hbb⟩, ⟨mc, dictA l1, l2⟩⟩, bs := fun b o e => of_hidT e, bsz := Nat.le_of_eq (hidT_size _ _), funs := trivial, frf := fun b hb => absurd (show b ∈ ([] : List Addr) from hb) (by simp), hok := hok, bare := .of_eq hgen }
  obtain ⟨T, hT⟩ := hL ns hlen
  have prom : spM g 1 m [.ref a] H (fun v _ => v = .bl true) (fun _ _ _ => False) := by
    refine ⟨rfl, [.loc 0], _, [a], sim_script hg hS (by rw [h0]; exact fun p hp => nomatch hp), .cons (.loc rfl) .nil, ?_⟩
    rw [hT]
    intro ρ' H' v e s r
    cases r
    rfl
  refine codeAny_mono ((F _ kin (dictA hns) (let ⟨mm, z⟩ := hM; ⟨mm, dictA z⟩)).run callerA [] s₁ H ⟨[.ref a], []⟩ [.ref a] [.ref a] _ _ hr rfl env (hbind s₁ (.ref a)) (.cons rfl .nil) prom) fun r s' h => ?_
  cases r with
  | error e =>
    obtain ⟨_, _, _, _, _, _, _, _, _, _, _, _, z⟩ := h
    exact z.elim
  | ok fl =>
    cases fl with
    | ret u =>
      obtain ⟨v, H', os, bare, un, hok', r', q⟩ := h
      obtain rfl : v = .bl true := q
      obtain rfl : u = Value.bool true := r'
      refine ⟨rfl, OldK.of_keep fun b o e => ?_, os, bare⟩
      cases q : H b with
      | none => exact un.keep b o e q (fun z => absurd (show b ∈ ([] : List Addr) from z) (by simp)) (by simp)
      | some u =>
        rcases hO b with z | ⟨ob, xs, z⟩
        · rw [q] at z
          cases z
        · have e1 := (hok b _ z).1
          have e2 := (hok' b _ (un.frzs b ob _ z)).1
          rw [e] at e1
          cases e1
          exact e2
    | _ => exact h.elim
theorem law_g (hg : g.K = K) (h0 : g.T = []) (hL : LawOk m) (hlen : ns.length ≤ 63) (hb0 : s₁.heap.Ns builtinsNs mb) (hbb : ∀ x : Str, x ≠ "__name__" → mb x = bootBuiltins x) (hlim : s₁.heap.NoLimit) (hgen : s₁.gens = #[]) (KX : K.In s₁.heap) (hns : s₁.heap.Ns mainGlobals mg)
    (ha : s₁.heap.get? a = some { cls := .type "list", data := .seq vs.toArray }) (hi : PyProof.Rows.IntsAre vs ns) (hr : Room k callerA) (hM : ∃ mm, s₁.heap.Ns sysModules mm) (F : ∀ base : Heap, K.In base → base.Ns mainGlobals mg → (∃ mm, base.Ns sysModules mm) → FnG P w K mg base k fa fd [x] (spM g 1 m)) (hbind : ∀ (s : Shared) (u : Value), BindsTo s fd ⟨[u], []⟩ [(x, u)]) :
    codeAny (model P w) callerA (.call (.ref fa) ⟨[.ref a], []⟩) (fun r s' => r = .ok (.ret (.bool true)) ∧ OldK s₁.heap s'.heap ∧ s'.os = s₁.os ∧ AllBare s'.gens) s₁ := by
  have rv := vals_ints hi
  have hz : ns.length ≤ sizeLine := Nat.le_trans hlen (by decide)
  cases hk : K.lookup a with
  | some o =>
    have e := KX a o hk
    rw [ha] at e
    cases e
    refine law_core hg h0 hL hlen hb0 hbb hlim hgen KX hns ha hr hM F hbind (fun _ => none) (fun _ => .inl rfl) (.inr fun H' => .inr ⟨_, vs.toArray, _, hk, rfl, rfl, rfl, ?_, by simpa using rv⟩) (fun b u z => absurd (show (none : Option HO) = some u from z) (by simp)) (fun b z => absurd rfl z) (fun z => absurd rfl z)
    rw [List.size_toArray, hi.length]
    exact hz
  | none =>
    refine law_core hg h0 hL hlen hb0 hbb hlim hgen KX hns ha hr hM F hbind (fun b => if b = a then some (.frz { cls := .type "list", data := .seq vs.toArray } (.lst (ns.map V.int))) else none) (fun b => ?_) (.inl ⟨_, if_pos rfl⟩) (fun b u z => ?_) (fun b z => ?_) (fun _ => hk)
    all_goals by_cases hb : b = a
    · exact .inr ⟨_, _, if_pos hb⟩
    · exact .inl (if_neg hb)
    · subst hb
      have q := (if_pos rfl).symm.trans z
      cases q
      exact ⟨ha, by rw [List.length_map]; exact hz, vs, _, rv, ha⟩
    · have q := (if_neg hb).symm.trans z
      cases q
    · exact hb
    · exact absurd (if_neg hb) z
end
/-- the goal that the head leaves -/
theorem walk_g {l : PySem.W.OpenLaw} {k : Nat} {q : Program} {loose : List Str} {XP : (Str → Option Value) → Heap → Prop} {YP : World → Heap → Prop} {d : DefRec} {K : Params → PySem.W.Frag} {x : Str} {m : List Va → Sto → Rs Va} (hL : LawOk m) (hn : l.most = some 63) (hdf : d.params.defaults = []) (hr : Room k callerA)
    (hY : ∀ (w : World) (h : Heap), YP w h → (K w.params).In h) (hq : PyProof.Rows.importsNone q = true)
    (F : ∀ (w : World) (mg : Str → Option Value) (fa : Addr) (h : Heap), (K w.params).In h → h.Ns mainGlobals mg → mg d.name = some (.ref fa) → ∃ (g : G) (fd : FuncData), g.K = K w.params ∧ g.T = [] ∧ (∀ (s : Shared) (u : Value), BindsTo s fd ⟨[u], []⟩ [(x, u)]) ∧
        ∀ base : Heap, (K w.params).In base → base.Ns mainGlobals mg → (∃ mm, base.Ns sysModules mm) → FnG l.prog w (K w.params) mg base k fa fd [x] (spM g 1 m)) : PySem.W.WalkO q loose XP YP l.row.toRowW d [] (fun f vs => PySem.call f vs) :=
  Att.attach_call hn hdf fun w s₀ s₁ mg mb fa o pm cd doc a vs ns Gr Y ho hd hcd hmg hobj hints hlen hg => by
    have KX := hY w _ Y
    obtain ⟨g, fd, hgK, h0, hb, hF⟩ := F w mg fa _ KX Gr.T.g hmg
    exact law_g hgK h0 hL hlen Gr.T.b Gr.T.builtins Gr.T.nolimit hg KX Gr.T.g hobj hints hr (let ⟨mm, z, _⟩ := (Gr.T.seer hq).mods; ⟨mm, z⟩) hF hb
end Rz
namespace Rz
open PySem PySem.Spec PyProof.Rows L2
/-- a def of the text as the top has left it -/
structure FnT (K : PySem.W.Frag) (mg : Str → Option Value) (nm qual : Str) (st : Stmt) (ps : List Str) (f : Addr) (fd : FuncData) : Prop where
  F : Fun K nm qual st f fd
  m : mg nm = some (.ref f)
  b : Binds K fd ps []
/-- a def that may be called by its name: its meaning is m -/
structure Cal (P : Program) (w : World) (K : PySem.W.Frag) (mg : Str → Option Value) (base : Heap) (g : G) (nm : Str) (k n : Nat) (m : List Va → Sto → Rs Va) : Prop where
  ex : ∃ f fd ps, FnG P w K mg base k f fd ps (spM g n m) ∧ mg nm = some (.ref f) ∧ PySem.W.keepIn K (.ref f) = true ∧ Binds K fd ps []
theorem FnT.cal {P : Program} {w : World} {K : PySem.W.Frag} {mg : Str → Option Value} {base : Heap} {g : G} {nm qual : Str} {st : Stmt} {ps : List Str} {f : Addr} {fd : FuncData} {k n : Nat} {m : List Va → Sto → Rs Va} (T : FnT K mg nm qual st ps f fd)
    (F : FnG P w K mg base k f fd ps (spM g n m)) : Cal P w K mg base g nm k n m := ⟨f, fd, ps, F, T.m, T.F.kp, T.b⟩
/-- an exception class of the text, without an __init__ of its own -/
structure ExT (K : PySem.W.Frag) (mg : Str → Option Value) (nm : Str) (C : Addr) : Prop where
  m : mg nm = some (.ref C)
  x : PySem.W.excIn K C [.type "ValueError", .type "Exception", .type "BaseException", .type "object"] "ValueError.__new__" = true
  kp : PySem.W.keepIn K (.ref C) = true
  b : PySem.W.subIn K (.ref C) (.type "BaseException") = some true
  t : PySem.W.typeIn K (.ref C) = some (.type "type")
section
variable {X : Cx} {g : G} {Wx : WX} {k : Nat} {pos : Pos} {a b c : Expr} {es : List Expr} {x y z : XE} {r : XA}
theorem se_calld (o : XO X g Wx k) {j n : Nat} {nm : Str} {p : Pos} {m : List Va → Sto → Rs Va} (C : Cal X.prog X.w X.K X.mg X.base g nm j n m) (hj : j ≤ k) (ha : SA X g Wx (a :: es) r) (hg : Gl X nm := by rfl) (hdb : (nm == ("__debug__" : Str)) = false := by decide)
    (he : starEach (a :: es) X.env = (false, eval a X.env) :: starEach es X.env := by rfl) (hpl : (backTo pos (starEach es X.env)).any (·.1) = false := by rfl) : SE X g Wx (.Call (.Name nm p) (a :: es) [] pos) (ycall n m r) := by
  obtain ⟨f, fd, ps, F, hm, hk, hb⟩ := C.ex
  exact se_call o F hj hm hk hb ha hg hdb he hpl
theorem se_calld0 (o : XO X g Wx k) {j n : Nat} {nm : Str} {p : Pos} {m : List Va → Sto → Rs Va} (C : Cal X.prog X.w X.K X.mg X.base g nm j n m) (hj : j ≤ k) (hg : Gl X nm := by rfl) (hdb : (nm == ("__debug__" : Str)) = false := by decide) :
    SE X g Wx (.Call (.Name nm p) [] [] pos) (ycall n m anil) := by
  obtain ⟨f, fd, ps, F, hm, hk, hb⟩ := C.ex
  exact se_call0 o F hj hm hk hb hg hdb
theorem ss_raised (o : XO X g Wx k) (c : Nat) {n m : Str} {j : Nat} {p2 pos' pos2 : Pos} (E : ExT X.K X.mg n (g.cls c)) (hg : Gl X n := by rfl) (hdb : (n == ("__debug__" : Str)) = false := by decide) :
    SS X g Wx (.Raise (some (.Call (.Name n p2) [.Constant (.str m) j pos2] [] pos')) none pos) (sraise c) := ss_raise o PySem.F.excBase_ValueError E.x E.m E.kp (raises_own E.b E.t) hg hdb
theorem se_add (o : XO X g Wx k) (ha : SE X g Wx a x) (hb : SE X g Wx b y) : SE X g Wx (.BinOp a .Add b pos) (xbin oAdd x y) := se_bin or_add (o.K ▸ os_add) ha hb
theorem se_sub (ha : SE X g Wx a x) (hb : SE X g Wx b y) : SE X g Wx (.BinOp a .Sub b pos) (xbin oSub x y) := se_bin op_sub os_sub ha hb
theorem se_mul (ha : SE X g Wx a x) (hb : SE X g Wx b y) : SE X g Wx (.BinOp a .Mult b pos) (xbin oMul x y) := se_bin or_mul os_mul ha hb
theorem se_div (ha : SE X g Wx a x) (hb : SE X g Wx b y) : SE X g Wx (.BinOp a .FloorDiv b pos) (xbin oDiv x y) := se_bin op_fdiv os_div ha hb
theorem se_mod (ha : SE X g Wx a x) (hb : SE X g Wx b y) : SE X g Wx (.BinOp a .Mod b pos) (xbin oMod x y) := se_bin op_mod os_mod ha hb
theorem se_pow (ha : SE X g Wx a x) (hb : SE X g Wx b y) : SE X g Wx (.BinOp a .Pow b pos) (xbin oPow x y) := se_bin op_pow os_pow ha hb
theorem se_shl (ha : SE X g Wx a x) (hb : SE X g Wx b y) : SE X g Wx (.BinOp a .LShift b pos) (xbin oShl x y) := se_bin op_shl os_shl ha hb
theorem hu64 (o : XO X g Wx k) : X.A.units + 64 < cLine := o.room.units
theorem or_eq (o : XO X g Wx k) : OpR X (compareOp .Eq) (rOr rEq (rEqD g.K)) := o.K ▸ OpR.or op_eq (op_eqD (hu64 o))
theorem or_ne (o : XO X g Wx k) : OpR X (compareOp .NotEq) (rOr rNe (rNeD g.K)) := o.K ▸ OpR.or op_ne (op_neD (hu64 o))
theorem sq_isN {j : Nat} {p' : Pos} (ha : SE X g Wx a x) : SQ X g Wx (.Compare a [.Is] [.Constant .none j p'] pos) (xisN x) :=
  pt_imp (pt_cmp (pc_isN ha)) fun σ H Q ⟨δ, S, ρ, sm, se, h⟩ => ⟨δ, S, ρ, sm, se, wpR.imp (wpR.bind (rel := Rel g) h) fun v H1 ⟨ρ1, w, S1, e1, s1, r1, h1⟩ => by
    rw [r1.nonq]
    cases w <;> exact ⟨_, rfl, h1.fin s1 rfl⟩⟩
theorem sq_notN {j : Nat} {p' : Pos} (ha : SE X g Wx a x) : SQ X g Wx (.Compare a [.IsNot] [.Constant .none j p'] pos) (xnot (xisN x)) :=
  pt_imp (pt_cmp (pc_notN ha)) fun σ H Q ⟨δ, S, ρ, sm, se, h⟩ => ⟨δ, S, ρ, sm, se, wpR.imp (wpR.bind (rel := Rel g) (wpR.bind (rel := relB) h)) fun v H1 ⟨ρ1, w, S1, e1, s1, r1, h1⟩ => by
    rw [r1.nonq]
    cases w <;> (obtain ⟨ρ2, a2, S2, e2, s2, r2, h2⟩ := h1.fin s1 rfl; cases r2; exact ⟨_, rfl, h2.fin s2 rfl⟩)⟩
/-- a, b = e -/
@[simp] def sasg (p : XP) (x : XE) : XS := fun δ S => (x δ S).out δ fun w S1 => match p w δ with
  | some δ' => .nx δ' S1
  | none => .bad
theorem ss_asg (o : XO X g Wx k) {tg e : Expr} {p : XP} {sl : List Nat} (he : SE X g Wx e x) (hp : SG X g tg p sl) (hs : swapsWithSole [tg] e pos.line X.env = pure false := by rfl) (hw : swappedStores [tg] e X.env = pure none := by rfl)
    (h1 : (assignEach [tg] X.env).map (·.2) = [assign tg X.env] := by rfl) : SS X g Wx (.Assign [tg] e pos) (sasg p x) :=
  ps_imp (ps_asg he hp hs hw h1) fun D σ H ⟨δ, S, ρ, sm, se, h⟩ => ⟨δ, S, ρ, sm, se, wpR.imp (wpR.out (rel := Rel g) se h) fun v H1 ⟨ρ1, w, S1, e1, s1, r1, h1⟩ => by
    cases hp : p w δ with
    | none => rw [hp] at h1; exact h1.elim
    | some δ' =>
      rw [hp] at h1
      exact ⟨δ, w, ρ1, δ', r1, se.mono e1, hp, fun σ' se' _ _ => h1 ρ1 H1 σ' .refl s1 se'⟩⟩
/-- -x -/
@[simp] def oNeg (a : Va) (S : Sto) : Rs Va := match a with
  | .int i => .ok (.int (-i)) S
  | _ => .bad
theorem se_neg (ha : SE X g Wx a x) : SE X g Wx (.UnaryOp .USub a pos) (xun oNeg x) :=
  pe_imp (pe_un un_neg ha) fun σ H Q ⟨δ, S, ρ, sm, se, h⟩ => ⟨δ, S, ρ, sm, se, wpR.imp (wpR.bind (rel := Rel g) h) fun v H1 ⟨ρ1, w, S1, e1, s1, r1, h1⟩ => by
    cases r1 with
    | int i => exact ⟨i, rfl, h1.fin s1 (.int _)⟩
    | _ => exact h1.elim⟩
end
end Rz
namespace Rz
open PySem L2
/-! ### reckoning with meanings -/
@[simp] theorem bind_ok {α β : Type} (a : α) (S : Sto) (f : α → Sto → Rs β) : (Rs.ok a S).bind f = f a S := rfl
@[simp] theorem bind_ex {α β : Type} (c : Nat) (fs : List Va) (S : Sto) (f : α → Sto → Rs β) : (Rs.ex c fs S : Rs α).bind f = .ex c fs S := rfl
@[simp] theorem out_ok {α : Type} (a : α) (S : Sto) (δ : Env) (f : α → Sto → Out) : (Rs.ok a S).out δ f = f a S := rfl
@[simp] theorem out_ex {α : Type} (c : Nat) (fs : List Va) (S : Sto) (δ : Env) (f : α → Sto → Out) : (Rs.ex c fs S : Rs α).out δ f = .ex c fs δ S := rfl
@[simp] theorem bad_bind {α β : Type} (f : α → Sto → Rs β) : (Rs.bad : Rs α).bind f = .bad := rfl
@[simp] theorem bad_out {α : Type} (δ : Env) (f : α → Sto → Out) : (Rs.bad : Rs α).out δ f = .bad := rfl
@[simp] theorem bad_next (f : XS) : Out.bad.next f = .bad := rfl
@[simp] theorem bad_fin : Out.bad.fin = .bad := rfl
@[simp] theorem next_nx (δ : Env) (S : Sto) (f : XS) : (Out.nx δ S).next f = f δ S := rfl
@[simp] theorem next_rt (w : Va) (S : Sto) (f : XS) : (Out.rt w S).next f = .rt w S := rfl
@[simp] theorem next_ex (c : Nat) (fs : List Va) (δ : Env) (S : Sto) (f : XS) : (Out.ex c fs δ S).next f = .ex c fs δ S := rfl
@[simp] theorem fin_rt (w : Va) (S : Sto) : (Out.rt w S).fin = .ok w S := rfl
@[simp] theorem fin_nx (δ : Env) (S : Sto) : (Out.nx δ S).fin = .ok .non S := rfl
@[simp] theorem fin_ex (c : Nat) (fs : List Va) (δ : Env) (S : Sto) : (Out.ex c fs δ S).fin = .ex c fs S := rfl
section
variable {α β : Type} {p : Prop} [Decidable p]
@[simp] theorem ite_bind (a b : Rs α) (f : α → Sto → Rs β) : (if p then a else b).bind f = if p then a.bind f else b.bind f := by split <;> rfl
@[simp] theorem ite_out (a b : Rs α) (δ : Env) (f : α → Sto → Out) : (if p then a else b).out δ f = if p then a.out δ f else b.out δ f := by split <;> rfl
@[simp] theorem ite_next (a b : Out) (f : XS) : (if p then a else b).next f = if p then a.next f else b.next f := by split <;> rfl
@[simp] theorem ite_fin (a b : Out) : (if p then a else b).fin = if p then a.fin else b.fin := by split <;> rfl
@[simp] theorem ite_ok (a b : α) (S : Sto) : (if p then Rs.ok a S else Rs.ok b S) = Rs.ok (if p then a else b) S := by split <;> rfl
@[simp] theorem ite_rt (a b : Va) (S : Sto) : (if p then Out.rt a S else Out.rt b S) = Out.rt (if p then a else b) S := by split <;> rfl
end
/-- what stood in the store stands -/
def Keep (S S' : Sto) : Prop := ∀ (j : Nat) (o : Ob), S[j]? = some o → S'[j]? = some o
theorem Keep.refl (S : Sto) : Keep S S := fun _ _ h => h
theorem Keep.trans {S S1 S2 : Sto} (a : Keep S S1) (b : Keep S1 S2) : Keep S S2 := fun j o h => b j o (a j o h)
theorem Keep.app (S r : Sto) : Keep S (S ++ r) := fun j o h => by
  have := (List.getElem?_eq_some_iff.mp h).1
  rw [List.getElem?_append_left this]
  exact h
theorem Keep.len {S S' : Sto} (k : Keep S S') : S.length ≤ S'.length := by
  rcases Nat.lt_or_ge S'.length S.length with h | h
  · have e : S[S'.length]? = some S[S'.length] := List.getElem?_eq_getElem h
    have := (List.getElem?_eq_some_iff.mp (k _ _ e)).1
    omega
  · exact h
theorem Keep.set {S S' : Sto} {D : Nat} {o : Ob} (k : Keep S S') (h : S.length ≤ D) : Keep S (S'.set D o) := fun j u e => by
  have := (List.getElem?_eq_some_iff.mp e).1
  rw [List.getElem?_set_ne (by omega)]
  exact k j u e
theorem Keep.getL {S S' : Sto} (k : Keep S S') {l : Nat} {ws : List Va} (h : getL S l = some ws) : Rz.getL S' l = some ws := by
  unfold Rz.getL at h ⊢
  cases e : S[l]? with
  | none => rw [e] at h; cases h
  | some o => rw [k l o e]; rw [e] at h; exact h
theorem get_new (S : Sto) (o : Ob) (r : Sto) : (S ++ o :: r)[S.length]? = some o := by simp
theorem getL_new (S : Sto) (ws : List Va) : getL (S ++ [.lst ws]) S.length = some ws := by
  unfold getL
  rw [get_new]
/-- a for: P holds between the turns -/
theorem forG_inv {nth : Nth} {put : XP} {body : XS} {n : Nat} (P : Nat → Env → Sto → Prop) : ∀ (m i : Nat) (δ : Env) (S : Sto), i + m = n → P i δ S → (∀ i δ S, i < n → P i δ S → ∃ w δ1, nth S i = some (some w) ∧ put w δ = some δ1 ∧ ∃ δ2 S2, (body δ1 S = .nx δ2 S2 ∨ body δ1 S = .ct δ2 S2) ∧ P (i + 1) δ2 S2) → (∀ δ S, P n δ S → nth S n = some none) →
    ∃ δ' S', forG nth put body (m + 1) i δ S = .nx δ' S' ∧ P n δ' S'
  | 0, i, δ, S, e, p, hs, hd => by
    have e' : i = n := by omega
    subst e'
    refine ⟨δ, S, ?_, p⟩
    unfold forG
    rw [hd δ S p]
  | m + 1, i, δ, S, e, p, hs, hd => by
    obtain ⟨w, δ1, h1, h2, δ2, S2, h3, h4⟩ := hs i δ S (by omega) p
    obtain ⟨δ', S', h5, h6⟩ := forG_inv (nth := nth) (put := put) (body := body) P m (i + 1) δ2 S2 (by omega) h4 hs hd
    refine ⟨δ', S', ?_, h6⟩
    unfold forG
    rw [h1]
    dsimp only
    rw [h2]
    dsimp only
    rcases h3 with h3 | h3
    · rw [h3]
      exact h5
    · rw [h3]
      exact h5
theorem for_rng {put : XP} {body : XS} {lo : Int} {n : Nat} {δ : Env} {S : Sto} (P : Nat → Env → Sto → Prop) (h0 : P 0 δ S) (hs : ∀ i δ S, i < n → P i δ S → ∃ δ1, put (.int (lo + (i : Nat))) δ = some δ1 ∧ ∃ δ2 S2, (body δ1 S = .nx δ2 S2 ∨ body δ1 S = .ct δ2 S2) ∧ P (i + 1) δ2 S2) :
    ∃ δ' S', forG (nrng lo n) put body (n + 1) 0 δ S = .nx δ' S' ∧ P n δ' S' := by
  refine forG_inv P n 0 δ S (by omega) h0 (fun i δ S hi p => ?_) fun δ S p => ?_
  · obtain ⟨δ1, h1, h2⟩ := hs i δ S hi p
    exact ⟨_, δ1, by unfold nrng; rw [if_pos hi], h1, h2⟩
  · unfold nrng
    rw [if_neg (by omega)]
theorem for_seq {put : XP} {body : XS} {ws : List Va} {δ : Env} {S : Sto} (P : Nat → Env → Sto → Prop) (h0 : P 0 δ S) (hs : ∀ i w δ S, ws[i]? = some w → P i δ S → ∃ δ1, put w δ = some δ1 ∧ ∃ δ2 S2, (body δ1 S = .nx δ2 S2 ∨ body δ1 S = .ct δ2 S2) ∧ P (i + 1) δ2 S2) :
    ∃ δ' S', forG (nseq ws) put body (ws.length + 1) 0 δ S = .nx δ' S' ∧ P ws.length δ' S' := by
  refine forG_inv P ws.length 0 δ S (by omega) h0 (fun i δ S hi p => ?_) fun δ S p => ?_
  · obtain ⟨δ1, h1, h2⟩ := hs i ws[i] δ S (List.getElem?_eq_getElem hi) p
    exact ⟨_, δ1, by unfold nseq; rw [List.getElem?_eq_getElem hi], h1, h2⟩
  · unfold nseq
    rw [List.getElem?_eq_none (Nat.le_refl _)]
theorem for_loc {put : XP} {body : XS} {l : Nat} {ws : List Va} {δ : Env} {S : Sto} (P : Nat → Env → Sto → Prop) (h0 : P 0 δ S) (hl : ∀ i δ S, P i δ S → getL S l = some ws) (hs : ∀ i w δ S, ws[i]? = some w → P i δ S → ∃ δ1, put w δ = some δ1 ∧ ∃ δ2 S2, (body δ1 S = .nx δ2 S2 ∨ body δ1 S = .ct δ2 S2) ∧ P (i + 1) δ2 S2) :
    ∃ δ' S', forG (nloc l) put body (ws.length + 1) 0 δ S = .nx δ' S' ∧ P ws.length δ' S' := by
  refine forG_inv P ws.length 0 δ S (by omega) h0 (fun i δ S hi p => ?_) fun δ S p => ?_
  · obtain ⟨δ1, h1, h2⟩ := hs i ws[i] δ S (List.getElem?_eq_getElem hi) p
    exact ⟨_, δ1, by unfold nloc; rw [hl i δ S p, Option.map_some, List.getElem?_eq_getElem hi], h1, h2⟩
  · unfold nloc
    rw [hl _ δ S p, Option.map_some, List.getElem?_eq_none (Nat.le_refl _)]
/-- a comprehension: P of what is made so far -/
theorem compG_inv {nth : Nth} {put : XP} {cond : XT} {elt : XE} {D : Nat} {δ : Env} {n : Nat} (P : Nat → List Va → Sto → Prop) : ∀ (m i : Nat) (acc : List Va) (S : Sto), i + m = n → S[D]? = some (.lst acc) → P i acc S →
    (∀ i acc S, i < n → S[D]? = some (.lst acc) → P i acc S → ∃ w δ1 b S1, nth S i = some (some w) ∧ put w δ = some δ1 ∧ cond δ1 S = .ok b S1 ∧ if b = true then ∃ y S2, elt δ1 S1 = .ok y S2 ∧ S2[D]? = some (.lst acc) ∧ acc.length < sizeLine ∧ P (i + 1) (acc ++ [y]) (S2.set D (.lst (acc ++ [y]))) else S1[D]? = some (.lst acc) ∧ P (i + 1) acc S1) →
    (∀ acc S, P n acc S → nth S n = some none) → ∃ acc' S', compG nth put cond elt D δ (m + 1) i S = .ok (.loc D) S' ∧ S'[D]? = some (.lst acc') ∧ P n acc' S'
  | 0, i, acc, S, e, hD, p, hs, hd => by
    have e' : i = n := by omega
    subst e'
    refine ⟨acc, S, ?_, hD, p⟩
    unfold compG
    rw [hd acc S p]
  | m + 1, i, acc, S, e, hD, p, hs, hd => by
    obtain ⟨w, δ1, b, S1, h1, h2, h3, h4⟩ := hs i acc S (by omega) hD p
    cases b with
    | false =>
      have h4' : S1[D]? = some (.lst acc) ∧ P (i + 1) acc S1 := by simpa using h4
      obtain ⟨acc', S', h5, h6, h7⟩ := compG_inv (nth := nth) (put := put) (cond := cond) (elt := elt) (D := D) (δ := δ) P m (i + 1) acc S1 (by omega) h4'.1 h4'.2 hs hd
      refine ⟨acc', S', ?_, h6, h7⟩
      unfold compG
      rw [h1]
      dsimp only
      rw [h2]
      dsimp only
      rw [h3]
      exact h5
    | true =>
      have h4' : ∃ y S2, elt δ1 S1 = .ok y S2 ∧ S2[D]? = some (.lst acc) ∧ acc.length < sizeLine ∧ P (i + 1) (acc ++ [y]) (S2.set D (.lst (acc ++ [y]))) := by simpa using h4
      obtain ⟨y, S2, k1, k2, k3, k4⟩ := h4'
      have hlt := (List.getElem?_eq_some_iff.mp k2).1
      obtain ⟨acc', S', h5, h6, h7⟩ := compG_inv (nth := nth) (put := put) (cond := cond) (elt := elt) (D := D) (δ := δ) P m (i + 1) (acc ++ [y]) (S2.set D (.lst (acc ++ [y]))) (by omega) (List.getElem?_set_self hlt) k4 hs hd
      refine ⟨acc', S', ?_, h6, h7⟩
      unfold compG
      rw [h1]
      dsimp only
      rw [h2]
      dsimp only
      rw [h3]
      dsimp only
      rw [k1]
      dsimp only
      rw [k2]
      dsimp only
      rw [fits_iff.mpr k3]
      exact h5
/-- a pure comprehension: nothing but the new list changes -/
theorem compG_pure {nth : Nth} {put : XP} {cond : XT} {elt : XE} {δ : Env} {ws : List Va} (f : Va → Option Va) (S : Sto) (hz : ws.length ≤ 16777216) (hn : ∀ S' i, Keep S S' → nth S' i = some ws[i]?)
    (hs : ∀ w, w ∈ ws → ∃ δ1, put w δ = some δ1 ∧ ∀ S', Keep S S' → (∃ y, f w = some y ∧ cond δ1 S' = .ok true S' ∧ elt δ1 S' = .ok y S') ∨ (f w = none ∧ cond δ1 S' = .ok false S')) :
    compG nth put cond elt S.length δ (ws.length + 1) 0 (S ++ [.lst []]) = .ok (.loc S.length) (S ++ [.lst (ws.filterMap f)]) := by
  obtain ⟨acc, S', h1, h2, h3, h4⟩ := compG_inv (nth := nth) (put := put) (cond := cond) (elt := elt) (D := S.length) (δ := δ) (n := ws.length) (fun i acc S' => acc = (ws.take i).filterMap f ∧ S' = S ++ [.lst acc]) ws.length 0 [] (S ++ [.lst []]) (by omega) (get_new _ _ _) ⟨rfl, rfl⟩ (fun i acc S1 hi hD ⟨ea, eS⟩ => by
    subst eS
    have kp : Keep S (S ++ [.lst acc]) := Keep.app _ _
    obtain ⟨δ1, k1, k2⟩ := hs ws[i] (List.getElem_mem hi)
    have hw : ws[i]? = some ws[i] := List.getElem?_eq_getElem hi
    have tk : ws.take (i + 1) = ws.take i ++ [ws[i]] := by rw [List.take_succ, hw]; rfl
    rcases k2 _ kp with ⟨y, q1, q2, q3⟩ | ⟨q1, q2⟩
    · refine ⟨ws[i], δ1, true, _, by rw [hn _ _ kp, hw], k1, q2, ?_⟩
      rw [if_pos rfl]
      refine ⟨y, _, q3, hD, ?_, ?_, ?_⟩
      · have : acc.length ≤ (ws.take i).length := by rw [ea]; exact List.length_filterMap_le _ _
        rw [List.length_take] at this
        have hs' : sizeLine = 16777216 := sizeLine_eq
        omega
      · rw [tk, List.filterMap_append, ← ea, List.filterMap_cons, q1]
        rfl
      · simp
    · refine ⟨ws[i], δ1, false, _, by rw [hn _ _ kp, hw], k1, q2, ?_⟩
      rw [if_neg (by decide)]
      refine ⟨hD, ?_, rfl⟩
      rw [tk, List.filterMap_append, ← ea, List.filterMap_cons, q1]
      simp) (fun acc S' ⟨_, e⟩ => by rw [hn _ _ (by rw [e]; exact Keep.app _ _), List.getElem?_eq_none (Nat.le_refl _)])
  rw [h1, h4, h3, List.take_length]
theorem xcomp_at {vs : List Nat} {xi : XI} {put : XP} {cond : XT} {elt : XE} {δ : Env} {S S1 : Sto} {n : Nat} {nth : Nth} (h : xi δ S = .ok (n, nth) S1) : xcomp vs xi put cond elt δ S = compG nth put cond elt S1.length (wipeE δ vs) n 0 (S1 ++ [.lst []]) := by
  unfold xcomp
  rw [h]
  rfl
theorem irg1_at {x : XE} {δ : Env} {S S1 : Sto} {j : Int} {n : Nat} (h : x δ S = .ok (.int j) S1) (hb : big j = true) (hn : j.toNat = n) : irg1 x δ S = .ok (n + 1, nrng 0 n) S1 := by
  unfold irg1
  rw [h, bind_ok]
  dsimp only
  rw [hb, hn]
  rfl
theorem irg2_at {x y : XE} {δ : Env} {S S1 S2 : Sto} {i j : Int} {n : Nat} (h : x δ S = .ok (.int i) S1) (h2 : y δ S1 = .ok (.int j) S2) (hb : (big i && big j) = true) (hn : (j - i).toNat = n) : irg2 x y δ S = .ok (n + 1, nrng i n) S2 := by
  unfold irg2
  rw [h, bind_ok, h2, bind_ok]
  dsimp only
  rw [hb, hn]
  rfl
theorem sfor_at {x : XI} {put : XP} {body : XS} {δ : Env} {S S1 : Sto} {n : Nat} {nth : Nth} (h : x δ S = .ok (n, nth) S1) : sfor x put body δ S = forG nth put body n 0 δ S1 := by
  unfold sfor
  rw [h]
  rfl
theorem llst_eq {ws : List Va} (S : Sto) (h : ws.length ≤ 16777216) : llst ws S = .ok (.loc S.length) (S ++ [.lst ws]) := by
  unfold llst
  rw [fits_of h]
  rfl
theorem ltup_eq {ws : List Va} (S : Sto) (h : ws.length ≤ 16777216) : ltup ws S = .ok (.tup ws) S := by
  unfold ltup
  rw [fits_of h]
  rfl
theorem oApp_eq {S : Sto} {l : Nat} {xs : List Va} {y : Va} (h : S[l]? = some (.lst xs)) (hz : xs.length < 16777216) : oApp (.loc l) [y] S = .ok .non (S.set l (.lst (xs ++ [y]))) := by
  unfold oApp
  dsimp only
  rw [h]
  dsimp only
  rw [fits_of (Nat.succ_le_of_lt hz)]
  rfl
theorem isL_of {S : Sto} {l : Nat} {xs : List Va} (h : S[l]? = some (.lst xs)) : isL (.loc l) S = true := by
  unfold isL getL
  dsimp only
  rw [h]
  rfl
theorem oMul_r {i j : Int} (S : Sto) (h1 : -(2 ^ 64) < j) (h2 : j < 2 ^ 64) : oMul (.int i) (.int j) S = .ok (.int (i * j)) S := by
  have e : mulOk i j = true := by
    unfold mulOk
    rw [Bool.or_eq_true, Bool.and_eq_true, Bool.and_eq_true]
    exact .inr ⟨decide_eq_true h1, decide_eq_true h2⟩
  show cond (mulOk i j) _ _ = _
  rw [e]
  rfl
theorem oMul_l {i j : Int} (S : Sto) (h1 : -(2 ^ 64) < i) (h2 : i < 2 ^ 64) : oMul (.int i) (.int j) S = .ok (.int (i * j)) S := by
  have e : mulOk i j = true := by
    unfold mulOk
    rw [Bool.or_eq_true, Bool.and_eq_true, Bool.and_eq_true]
    exact .inl ⟨decide_eq_true h1, decide_eq_true h2⟩
  show cond (mulOk i j) _ _ = _
  rw [e]
  rfl
end Rz
namespace Rz
open PySem L2
/-! ### how long a repr is -/
mutual
def szD : PyData → Nat
  | .none => 4
  | .bool _ => 5
  | .int _ => 250
  | .str x => 10 * x.length + 2
  | .list xs => szL xs + 3
  | .tuple xs => szL xs + 3
  | .dict _ => 0
def szL : List PyData → Nat
  | [] => 0
  | x :: xs => szD x + 2 + szL xs
end
mutual
def okD : PyData → Bool
  | .none => true
  | .bool _ => true
  | .int i => decide (i.natAbs.log2 < 200)
  | .str x => x.cps.toList.all fun c => decide (c < 16 ^ 8)
  | .list xs => okL xs
  | .tuple xs => okL xs
  | .dict _ => false
def okL : List PyData → Bool
  | [] => true
  | x :: xs => okD x && okL xs
end
theorem textFrom_le : ∀ (ts : List Str) (k : Nat) (acc : Str), (textFrom k acc ts).length ≤ acc.length + piled ts
  | [], k, acc => by show acc.length ≤ acc.length + 0; omega
  | t :: r, k, acc => by
    have ih := textFrom_le r (k + 1) (acc ++ (if k > 0 then ", " else "" : String) ++ t)
    have e : (acc ++ (if k > 0 then ", " else "" : String) ++ t).length ≤ acc.length + 2 + t.length := by
      rw [Str.length_append, Str.length_append]
      have : (Str.ofString (if k > 0 then ", " else "")).length ≤ 2 := by split <;> decide
      have h2 : ((if k > 0 then ", " else "" : String) : Str).length ≤ 2 := this
      omega
    have p : piled (t :: r) = t.length + 2 + piled r := by simp [piled]
    show (textFrom (k + 1) (acc ++ (if k > 0 then ", " else "" : String) ++ t) r).length ≤ _
    omega
theorem listText_le (ts : List Str) : (listText ts).length ≤ piled ts + 2 := by
  unfold listText
  rw [Str.length_append]
  have h := textFrom_le ts 0 "["
  have e1 : (Str.ofString "[").length = 1 := by decide
  have e2 : (Str.ofString "]").length = 1 := by decide
  have e1' : ("[" : Str).length = 1 := e1
  have e2' : ("]" : Str).length = 1 := e2
  omega
theorem tupleText_le (ts : List Str) : (tupleText ts).length ≤ piled ts + 3 := by
  unfold tupleText
  rw [Str.length_append, Str.length_append]
  have e1 : ("(" : Str).length = 1 := by decide
  have e2 : ((if ts.length == 1 then ",)" else ")" : String) : Str).length ≤ 2 := by split <;> decide
  by_cases h : ts = []
  · subst h
    have e3 : (Str.join ", " ([] : List Str)).length = 0 := by decide
    simp only [piled] at *
    omega
  · have := join_length_add ts h
    omega
mutual
theorem shown_le : ∀ d : PyData, okD d = true → d.shown.length ≤ szD d ∧ d.showable = true ∧ d.hasDict = false
  | .none, _ => ⟨by decide, by simp [PyData.showable], by simp [PyData.hasDict]⟩
  | .bool b, _ => ⟨by cases b <;> decide, by simp [PyData.showable], by simp [PyData.hasDict]⟩
  | .int i, h => by
    have h' : i.natAbs.log2 < 200 := by simpa [okD] using h
    refine ⟨?_, by simp [PyData.showable]; omega, by simp [PyData.hasDict]⟩
    have := PySem.int_text_length_le (a := i) (by decide : 0 < 200) h'
    simp only [PyData.shown, szD]
    have e : (Str.ofString (toString i)).length ≤ 201 := by rw [PySem.ofString_length]; exact this
    show (Str.ofString (toString i)).length ≤ 250
    omega
  | .str x, h => by
    have h' : ∀ c ∈ x.cps.toList, c < 16 ^ 8 := fun c hc => by
      have q : (x.cps.toList.all fun c => decide (c < 16 ^ 8)) = true := by simpa only [okD] using h
      exact of_decide_eq_true (List.all_eq_true.mp q c hc)
    refine ⟨?_, by simp [PyData.showable], by simp [PyData.hasDict]⟩
    have := StrLaws.reprText_len x h'
    simp only [PyData.shown, szD]
    omega
  | .list xs, h => by
    have h' : okL xs = true := by simpa [okD] using h
    obtain ⟨h1, h2, h3⟩ := shownL_le xs h'
    refine ⟨?_, by simpa [PyData.showable] using h2, by simpa [PyData.hasDict] using h3⟩
    have := listText_le (PyData.shownAll xs)
    simp only [PyData.shown, szD]
    omega
  | .tuple xs, h => by
    have h' : okL xs = true := by simpa [okD] using h
    obtain ⟨h1, h2, h3⟩ := shownL_le xs h'
    refine ⟨?_, by simpa [PyData.showable] using h2, by simpa [PyData.hasDict] using h3⟩
    have := tupleText_le (PyData.shownAll xs)
    simp only [PyData.shown, szD]
    omega
  | .dict _, h => by simp [okD] at h
theorem shownL_le : ∀ ds : List PyData, okL ds = true → piled (PyData.shownAll ds) ≤ szL ds ∧ PyData.showableAll ds = true ∧ PyData.hasDictAll ds = false
  | [], _ => ⟨by simp [PyData.shownAll, piled, szL], by simp [PyData.showableAll], by simp [PyData.hasDictAll]⟩
  | d :: ds, h => by
    have h' : okD d = true ∧ okL ds = true := by simpa [okL] using h
    obtain ⟨a1, a2, a3⟩ := shown_le d h'.1
    obtain ⟨b1, b2, b3⟩ := shownL_le ds h'.2
    refine ⟨?_, by simp [PyData.showableAll, a2, b2], by simp [PyData.hasDictAll, a3, b3]⟩
    have p : piled (PyData.shownAll (d :: ds)) = d.shown.length + 2 + piled (PyData.shownAll ds) := by simp [PyData.shownAll, piled]
    simp only [szL]
    omega
end
/-- repr of plain data -/
theorem fRepr_eq {w : Va} {S : Sto} {d : PyData} (h : toD S 64 w = some d) (h1 : okD d = true) (h2 : szD d ≤ 16777216) (h3 : d.depth ≤ 100) : fRepr [w] S = .ok (.str d.shown) S := by
  obtain ⟨a1, a2, a3⟩ := shown_le d h1
  have hz : sizeLine = 16777216 := sizeLine_eq
  unfold fRepr
  dsimp only
  rw [h]
  dsimp only
  rw [a2, a3]
  have e : (true && !false && decide (d.depth ≤ 100) && decide (d.shown.length ≤ sizeLine)) = true := by simp; omega
  rw [e]
  rfl
/-- the ints of a list -/
theorem allD_ints (S : Sto) (n : Nat) : ∀ ns : List Int, allD (toD S (n + 1)) (ns.map .int) = some (ns.map .int)
  | [] => rfl
  | i :: r => by
    have ih := allD_ints S n r
    show (match toD S (n + 1) (.int i), allD (toD S (n + 1)) (r.map .int) with | some d, some ds => some (d :: ds) | _, _ => none) = _
    rw [ih]
    rfl
theorem toD_list {S : Sto} {l : Nat} {ws : List Va} {ds : List PyData} {n : Nat} (h : getL S l = some ws) (h2 : allD (toD S n) ws = some ds) : toD S (n + 1) (.loc l) = some (.list ds) := by
  show (match getL S l with | some ws => (allD (toD S n) ws).map PyData.list | none => none) = _
  rw [h]
  dsimp only
  rw [h2]
  rfl
theorem okL_ints : ∀ ns : List Int, (∀ i ∈ ns, i.natAbs.log2 < 200) → okL (ns.map .int) = true
  | [], _ => by simp [okL]
  | i :: r, h => by
    have := okL_ints r fun j hj => h j (List.mem_cons_of_mem _ hj)
    simp [okL, okD, this, h i List.mem_cons_self]
theorem szL_ints : ∀ ns : List Int, szL (ns.map .int) = 252 * ns.length
  | [] => rfl
  | i :: r => by
    have := szL_ints r
    simp only [List.map_cons, szL, szD, this, List.length_cons]
    omega
theorem depth_ints : ∀ ns : List Int, PyData.depthAll (ns.map .int) = 0
  | [] => rfl
  | i :: r => by
    have := depth_ints r
    simp [PyData.depthAll, PyData.depth, this]
theorem lay_ints : ∀ ns : List Int, PyData.canLayAll0 (ns.map .int) = true
  | [] => by simp [PyData.canLayAll0]
  | i :: r => by
    have := lay_ints r
    simp [PyData.canLayAll0, PyData.canLay0, this]
theorem log2_small {i : Int} (h : i.natAbs < 2 ^ 64) : i.natAbs.log2 < 200 := by
  by_cases e : i.natAbs = 0
  · rw [e]; decide
  · have := (Nat.log2_lt e (k := 64)).mpr h
    omega
theorem fRepr_ints {S : Sto} {l : Nat} {ns : List Int} (h : getL S l = some (ns.map .int)) (h1 : ∀ i ∈ ns, i.natAbs < 2 ^ 64) (h2 : ns.length ≤ 60000) : fRepr [.loc l] S = .ok (.str (PyData.shown (.list (ns.map .int)))) S :=
  fRepr_eq (toD_list h (allD_ints S 62 ns)) (by simp only [okD]; exact okL_ints ns fun i hi => log2_small (h1 i hi)) (by simp only [szD]; rw [szL_ints]; omega) (by simp only [PyData.depth]; rw [depth_ints]; omega)
theorem fRepr_int {S : Sto} {i : Int} (h : i.natAbs < 2 ^ 64) : fRepr [.int i] S = .ok (.str (toString i)) S :=
  fRepr_eq (d := .int i) rfl (by simp only [okD]; exact decide_eq_true (log2_small h)) (by simp only [szD]; omega) (by simp only [PyData.depth]; omega)
theorem cEq_str (x y : Str) (S : Sto) : cEq (.str x) (.str y) S = .ok (decide (x = y)) S := rfl
theorem cEq_int (x y : Int) (S : Sto) : cEq (.int x) (.int y) S = .ok (decide (x = y)) S := rfl
/-- two lists of the same ints -/
theorem cEq_ints {S : Sto} {l m : Nat} {ns : List Int} (h : getL S l = some (ns.map .int)) (h' : getL S m = some (ns.map .int)) : cEq (.loc l) (.loc m) S = .ok true S := by
  unfold cEq
  show deepE (.loc l) (.loc m) S = _
  unfold deepE
  rw [toD_list h (allD_ints S 62 ns), toD_list h' (allD_ints S 62 ns)]
  dsimp only
  have e : SeqAt.shaped (.list (ns.map .int)) = true := by
    unfold SeqAt.shaped
    rw [Bool.and_eq_true]
    refine ⟨by simp only [PyData.canLay0]; exact lay_ints ns, decide_eq_true ?_⟩
    simp only [PyData.depth]
    rw [depth_ints]
    omega
  rw [e]
  show (bif true && true then Rs.ok (PyData.eqv _ _) S else .bad) = _
  show Rs.ok (PyData.eqv _ _) S = _
  have q : ∀ ms : List Int, PyData.eqvAll (ms.map .int) (ms.map .int) = true := by
    intro ms
    induction ms with
    | nil => simp [PyData.eqvAll]
    | cons a r ih => simp [PyData.eqvAll, PyData.eqv, ih]
  simp only [PyData.eqv]
  rw [q]
end Rz
namespace Rz
open PySem PySem.Spec PyProof.Rows L2
/-! ### a part of a list, a store into a list -/
abbrev XPt := Env → Sto → Rs (Option Int)
def relO (_ : List Addr) (_ : Hp) (a b : Option Int) : Prop := a = b
def tO (g : G) (Wx : WX) (x : XPt) : TO := fun σ H Q => ∃ δ S ρ, Sim g ρ S H ∧ SimE g ρ H δ σ ∧ wpR g Wx σ relO ρ H (x δ S) Q
abbrev SO (X : Cx) (g : G) (Wx : WX) (e : Option Expr) (x : XPt) : Prop := PO X e (tO g Wx x)
theorem po_imp {X : Cx} {e : Option Expr} {t t' : TO} (h : PO X e t) (k : ∀ σ H Q, t' σ H Q → t σ H Q) : PO X e t' := ⟨fun pins s σ H Q I q => h.run pins s σ H Q I (k _ _ _ q)⟩
@[simp] def xnop : XPt := fun _ S => .ok none S
@[simp] def xpart (x : XE) : XPt := fun δ S => (x δ S).bind fun w S1 => match w with
  | .int i => .ok (some i) S1
  | _ => .bad
def cutA (xs : List Va) (lo hi : Option Int) : List Va := (xs.drop (HT.sIx xs.length 0 lo)).take (HT.sIx xs.length xs.length hi - HT.sIx xs.length 0 lo)
def oCut (w : Va) (lo hi : Option Int) (S : Sto) : Rs Va := match w with
  | .loc l => match getL S l with
    | some ws => llst (cutA ws lo hi) S
    | none => .bad
  | _ => .bad
@[simp] def xslice (x : XE) (p q : XPt) : XE := fun δ S => (x δ S).bind fun w S1 => (p δ S1).bind fun lo S2 => (q δ S2).bind fun hi S3 => oCut w lo hi S3
def oPut (u j w : Va) (δ : Env) (S : Sto) : Out := match u, j with
  | .loc l, .int n => match S[l]? with
    | some (.lst xs) => match ixN xs.length n with
      | some m => .nx δ (S.set l (.lst (xs.set m w)))
      | none => .bad
    | _ => .bad
  | _, _ => .bad
@[simp] def ssub (c i a : XE) : XS := fun δ S => (a δ S).out δ fun w S1 => (c δ S1).out δ fun u S2 => (i δ S2).out δ fun j S3 => oPut u j w δ S3
section
variable {X : Cx} {g : G} {Wx : WX} {k : Nat} {pos : Pos} {a b c e : Expr} {x y z : XE} {ρ : List Addr} {H : Hp}
theorem so_none : SO X g Wx none xnop := po_imp po_none fun σ H Q ⟨δ, S, ρ, sm, se, h⟩ => wpR.fin (a := (none : Option Int)) h sm rfl
theorem so_some (he : SE X g Wx e x) : SO X g Wx (some e) (xpart x) := po_imp (po_some he) fun σ H Q ⟨δ, S, ρ, sm, se, h⟩ => ⟨δ, S, ρ, sm, se, wpR.imp (wpR.bind (rel := Rel g) h) fun v H1 ⟨ρ1, w, S1, e1, s1, r1, h1⟩ => by
  cases r1 with
  | int i => exact ⟨i, rfl, wpR.fin (a := some i) h1 s1 rfl⟩
  | _ => exact h1.elim⟩
theorem se_slice (o : XO X g Wx k) {lo hi : Option Expr} {p q : XPt} {p2 : Pos} (he : SE X g Wx a x) (hl : SO X g Wx lo p) (hu : SO X g Wx hi q) : SE X g Wx (.Subscript a (.Slice lo hi none p2) pos) (xslice x p q) :=
  pe_imp (pe_slice sl_list he hl hu) fun σ H Q ⟨δ, S, ρ, sm, se, h⟩ => ⟨δ, S, ρ, sm, se, wpR.imp (wpR.bind (rel := Rel g) h) fun v H1 ⟨ρ1, w, S1, e1, s1, r1, h1⟩ =>
    ⟨δ, S1, ρ1, s1, se.mono e1, wpR.imp (wpR.bind (rel := relO) h1) fun lo H2 ⟨ρ2, lo', S2, e2, s2, r2, h2⟩ =>
    ⟨δ, S2, ρ2, s2, se.mono (e1.trans e2), wpR.imp (wpR.bind (rel := relO) h2) fun hi H3 ⟨ρ3, hi', S3, e3, s3, r3, h3⟩ => by
      cases r2
      cases r3
      have r4 := r1.mono (e2.trans e3)
      cases r4 with
      | @loc l p hp =>
        have h4 : wpR g Wx σ (Rel g) ρ3 H3 (match getL S3 l with | some ws => llst (cutA ws lo hi) S3 | none => .bad) Q := h3
        cases q : getL S3 l with
        | none => rw [q] at h4; exact h4.elim
        | some ws =>
          rw [q] at h4
          obtain ⟨vs, s, rl⟩ := getL_at s3 q hp
          refine ⟨p, vs, rfl, o.K ▸ s, ?_⟩
          have hlen := rl.length
          have e : RelL g ρ3 H3 (cutA ws lo hi) (cutV vs lo hi) := by
            unfold cutA cutV
            rw [← hlen]
            exact RelL.take _ (RelL.drop _ rl)
          exact (new_lst s3 e h4).2
      | _ => exact h3.elim⟩⟩⟩
theorem ss_sub (o : XO X g Wx k) {p' : Pos} (he : SE X g Wx e z) (ha : SE X g Wx a x) (hb : SE X g Wx b y) (hs : swapsWithSole [.Subscript a b p'] e pos.line X.env = pure false := by rfl) (hw : swappedStores [.Subscript a b p'] e X.env = pure none := by rfl)
    (h1 : (assignEach [.Subscript a b p'] X.env).map (·.2) = [assign (.Subscript a b p') X.env] := by rfl)
    (h2 : ∀ v, assign (.Subscript a b p') X.env v = (do
      let ov ← holding [v] (eval a X.env)
      let iv ← holding [v, ov] (eval b X.env)
      standAt p'
      holding [v, ov, iv] (setItem ov iv v)
      release [v, ov, iv] []) := by intro _; rfl) : SS X g Wx (.Assign [.Subscript a b p'] e pos) (ssub x y z) :=
  ps_imp (ps_asg he (pg_sub ha hb set_list h2) hs hw h1) fun D σ H ⟨δ, S, ρ, sm, se, h⟩ => ⟨δ, S, ρ, sm, se, wpR.imp (wpR.out (rel := Rel g) se h) fun v H1 ⟨ρ1, w, S1, e1, s1, r1, h1⟩ =>
    ⟨δ, S1, ρ1, s1, se.mono e1, wpR.imp (wpR.out (rel := Rel g) (se.mono e1) h1) fun ov H2 ⟨ρ2, u, S2, e2, s2, r2, h2⟩ =>
    ⟨δ, S2, ρ2, s2, se.mono (e1.trans e2), wpR.imp (wpR.out (rel := Rel g) (se.mono (e1.trans e2)) h2) fun iv H3 ⟨ρ3, j, S3, e3, s3, r3, h3⟩ => by
      have ru := r2.mono e3
      have rv := r1.mono (e2.trans e3)
      have se3 := se.mono ((e1.trans e2).trans e3)
      cases ru with
      | @loc l p hp =>
        cases r3 with
        | int n =>
          have h4 : wpS g Wx ρ3 H3 D (match S3[l]? with | some (.lst xs) => (match ixN xs.length n with | some m => .nx δ (S3.set l (.lst (xs.set m w))) | none => .bad) | _ => .bad) := h3
          cases q : S3[l]? with
          | none => rw [q] at h4; exact h4.elim
          | some ob =>
            rw [q] at h4
            cases ob with
            | lst xs =>
              dsimp only at h4
              cases q2 : ixN xs.length n with
              | none => rw [q2] at h4; exact h4.elim
              | some m =>
                rw [q2] at h4
                obtain ⟨ts, q3, rl⟩ := s3.ats l _ p q hp
                obtain ⟨s4, e4⟩ := s3.put (o' := .lst (xs.set m w)) (u := .lst (ts.set m v)) q hp rfl rfl fun H' e' q' => ⟨_, q', RelL.put (rv.mono e') m (rl.mono e')⟩
                exact ⟨p, ts, n, m, rfl, rfl, q3, by rw [← rl.length]; exact q2, h4 _ _ σ e4 s4 (se3.mono e4)⟩
            | _ => exact h4.elim
        | _ => exact h3.elim
      | _ => cases r3 <;> exact h3.elim⟩⟩⟩
end
end Rz
namespace Rz
open PySem PySem.Spec PyProof.Rows L2
/-! ### [elt for tg in it if .. for tg1 in it1 if ..] -/
/-- the inner walk; behind it kont -/
def compH (nth : Nth) (put : XP) (cond : XT) (elt : XE) (D : Nat) (δ : Env) (kont : Sto → Rs Va) : Nat → Nat → Sto → Rs Va
  | 0, _, _ => .bad
  | n + 1, i, S => match nth S i with
    | none => .bad
    | some none => kont S
    | some (some w) => match put w δ with
      | none => .bad
      | some δ1 => match cond δ1 S with
        | .ok false S1 => compH nth put cond elt D δ kont n (i + 1) S1
        | .ok true S1 => match elt δ1 S1 with
          | .ok y S2 => match S2[D]? with
            | some (.lst acc) => bif fits (acc.length + 1) then compH nth put cond elt D δ kont n (i + 1) (S2.set D (.lst (acc ++ [y]))) else .bad
            | _ => .bad
          | _ => .bad
        | _ => .bad
def comp2G (nth : Nth) (put : XP) (cond : XT) (xi1 : XI) (put1 : XP) (cond1 : XT) (elt : XE) (vs1 : List Nat) (D : Nat) (δ : Env) : Nat → Nat → Sto → Rs Va
  | 0, _, _ => .bad
  | n + 1, i, S => match nth S i with
    | none => .bad
    | some none => .ok (.loc D) S
    | some (some w) => match put w δ with
      | none => .bad
      | some δ1 => match cond δ1 S with
        | .ok false S1 => comp2G nth put cond xi1 put1 cond1 elt vs1 D δ n (i + 1) S1
        | .ok true S1 => match xi1 δ1 S1 with
          | .ok a S2 => compH a.2 put1 cond1 elt D (wipeE δ1 vs1) (fun S3 => comp2G nth put cond xi1 put1 cond1 elt vs1 D δ n (i + 1) S3) a.1 0 S2
          | _ => .bad
        | _ => .bad
@[simp] def xcomp2 (vs vs1 : List Nat) (x : XI) (put : XP) (cond : XT) (xi1 : XI) (put1 : XP) (cond1 : XT) (elt : XE) : XE := fun δ S => (x δ S).bind fun a S1 => comp2G a.2 put cond xi1 put1 cond1 elt vs1 S1.length (wipeE δ vs) a.1 0 (S1 ++ [.lst []])
section
variable {X : Cx} {g : G} {Wx : WX} {k : Nat} {pos : Pos} {a b c : Expr} {es : List Expr} {x y z : XE} {r : XA}
theorem comp2_in {xi xi1 : XI} {put put1 : XP} {sl sl1 : List Nat} {cond cond1 : XT} {elt : XE} {vs vs1 : List Nat} (hsl : ∀ j ∈ sl, j ∈ vs) (hsl1 : ∀ j ∈ sl1, j ∈ vs1) (σ : L2.St) (H : Hp) (Q : VK) (h0 : tE g Wx (xcomp2 vs vs1 xi put cond xi1 put1 cond1 elt) σ H Q) :
    tLc2 (tI g Wx xi) (tP g put sl) (tQ g WF cond) (tI g WF xi1) (tP g put1 sl1) (tQ g WF cond1) (tE g WF elt) vs vs1 σ H Q := by
  obtain ⟨δ, S, ρ, sm, se, h⟩ := h0
  refine ⟨δ, S, ρ, sm, se, ?_⟩
  unfold xcomp2 at h
  cases q : xi δ S with
  | bad => rw [q] at h; exact h
  | ex c fs S' => rw [q] at h; exact h
  | ok a0 S0 =>
    rw [q] at h
    have h' : wpR g Wx σ (Rel g) ρ H (comp2G a0.2 put cond xi1 put1 cond1 elt vs1 S0.length (wipeE δ vs) a0.1 0 (S0 ++ [.lst []])) Q := h
    intro ρ0 H0 J e0 s0 ok D hD
    obtain ⟨s1, e1⟩ := s0.laid (o := .lst []) (u := .lst []) hD (fun ρ' H' e q => ⟨[], q, .nil⟩) rfl
    have hDl : (ρ0 ++ [D])[S0.length]? = some D := by rw [s0.len]; simp
    refine ⟨fun i m H2 => ∃ S ρ, Ext g (ρ0 ++ [D]) (upd H0 D (.lst [])) ρ H2 ∧ Sim g ρ S H2 ∧ wpR g Wx σ (Rel g) ρ H2 (comp2G a0.2 put cond xi1 put1 cond1 elt vs1 S0.length (wipeE δ vs) m i S) Q, ⟨a0.1, _, _, .refl, s1, wpR.ext (e0.trans e1) h'⟩, ?_⟩
    rintro i m H2 ⟨S2, ρ2, e2, s2, hw⟩
    cases m with
    | zero => exact hw.elim
    | succ m =>
      obtain ⟨k3, k4⟩ := ok i S2 ρ2 H2 (e1.trans e2) s2
      unfold comp2G at hw
      cases hn : a0.2 S2 i with
      | none => rw [hn] at hw; exact hw.elim
      | some ow =>
        rw [hn] at hw
        cases ow with
        | none => exact .inl ⟨k3 hn, hw.fin s2 (.loc (e2.at hDl))⟩
        | some w =>
          obtain ⟨g1, g2⟩ := k4 w hn
          refine .inr ⟨g1, fun H' => ∃ S ρ, Ext g (ρ0 ++ [D]) (upd H0 D (.lst [])) ρ H' ∧ Sim g ρ S H' ∧ wpR g Wx σ (Rel g) ρ H' (comp2G a0.2 put cond xi1 put1 cond1 elt vs1 S0.length (wipeE δ vs) m (i + 1) S) Q, fun H' hh => ⟨m, Nat.lt_succ_self m, hh⟩, fun x H' y => ?_⟩
          obtain ⟨ey, sy, rx⟩ := g2 x H' y
          dsimp only at hw
          cases hp : put w (wipeE δ vs) with
          | none => rw [hp] at hw; exact hw.elim
          | some δ3 =>
            rw [hp] at hw
            dsimp only at hw
            have ew : Ext g ρ H ρ2 H' := ((e0.trans e1).trans e2).trans ey
            replace e2 := e2.trans ey
            replace hw := wpR.ext ey hw
            replace s2 := sy
            refine ⟨wipeE δ vs, w, ρ2, δ3, rx, (se.mono ew).wipe vs, hp, fun σ3 se3 hl3 hs3 => ⟨wipe_same (by rw [hl3, wipe_length]) hs3 hsl, δ3, S2, ρ2, s2, se3, ?_⟩⟩
            cases hc : cond δ3 S2 with
            | bad => rw [hc] at hw; exact hw.elim
            | ex c fs S' => rw [hc] at hw; exact hw.elim
            | ok t S3 =>
              rw [hc] at hw
              intro ρ3 H3 t' e3 s3 rt
              cases rt
              cases t with
              | false => exact ⟨S3, ρ3, e2.trans e3, s3, wpR.ext e3 hw⟩
              | true =>
                dsimp only at hw
                refine ⟨δ3, S3, ρ3, s3, se3.mono e3, ?_⟩
                cases hi1 : xi1 δ3 S3 with
                | bad => rw [hi1] at hw; exact hw.elim
                | ex c fs S' => rw [hi1] at hw; exact hw.elim
                | ok a1 S4 =>
                  rw [hi1] at hw
                  dsimp only at hw
                  intro ρ4 H4 J1 e4 s4 ok1
                  refine ⟨fun j k H5 => ∃ S ρ, Ext g ρ4 H4 ρ H5 ∧ Sim g ρ S H5 ∧ wpR g Wx σ (Rel g) ρ H5 (compH a1.2 put1 cond1 elt S0.length (wipeE δ3 vs1) (fun S3 => comp2G a0.2 put cond xi1 put1 cond1 elt vs1 S0.length (wipeE δ vs) m (i + 1) S3) k j S) Q, ⟨a1.1, _, _, .refl, s4, wpR.ext (e3.trans e4) hw⟩, ?_⟩
                  rintro j k H5 ⟨S5, ρ5, e5, s5, hv⟩
                  cases k with
                  | zero => exact hv.elim
                  | succ k =>
                    obtain ⟨k5, k6⟩ := ok1 j S5 ρ5 H5 e5 s5
                    unfold compH at hv
                    cases hn1 : a1.2 S5 j with
                    | none => rw [hn1] at hv; exact hv.elim
                    | some ow1 =>
                      rw [hn1] at hv
                      cases ow1 with
                      | none => exact .inl ⟨k5 hn1, S5, ρ5, (e2.trans (e3.trans e4)).trans e5, s5, hv⟩
                      | some w1 =>
                        obtain ⟨g3, g4⟩ := k6 w1 hn1
                        refine .inr ⟨g3, fun H' => ∃ S ρ, Ext g ρ4 H4 ρ H' ∧ Sim g ρ S H' ∧ wpR g Wx σ (Rel g) ρ H' (compH a1.2 put1 cond1 elt S0.length (wipeE δ3 vs1) (fun S3 => comp2G a0.2 put cond xi1 put1 cond1 elt vs1 S0.length (wipeE δ vs) m (i + 1) S3) k (j + 1) S) Q, fun H' hh => ⟨k, Nat.lt_succ_self k, hh⟩, fun x1 H' y1 => ?_⟩
                        obtain ⟨ey1, sy1, rx1⟩ := g4 x1 H' y1
                        dsimp only at hv
                        cases hp1 : put1 w1 (wipeE δ3 vs1) with
                        | none => rw [hp1] at hv; exact hv.elim
                        | some δ5 =>
                          rw [hp1] at hv
                          dsimp only at hv
                          replace e5 := e5.trans ey1
                          replace hv := wpR.ext ey1 hv
                          replace s5 := sy1
                          refine ⟨wipeE δ3 vs1, w1, ρ5, δ5, rx1, (se3.mono ((e3.trans e4).trans e5)).wipe vs1, hp1, fun σ5 se5 hl5 hs5 => ⟨wipe_same (by rw [hl5, wipe_length]) hs5 hsl1, δ5, S5, ρ5, s5, se5, ?_⟩⟩
                          cases hc1 : cond1 δ5 S5 with
                          | bad => rw [hc1] at hv; exact hv.elim
                          | ex c fs S' => rw [hc1] at hv; exact hv.elim
                          | ok t1 S6 =>
                            rw [hc1] at hv
                            intro ρ6 H6 t' e6 s6 rt
                            cases rt
                            cases t1 with
                            | false => exact ⟨S6, ρ6, e5.trans e6, s6, wpR.ext e6 hv⟩
                            | true =>
                              dsimp only at hv
                              refine ⟨δ5, S6, ρ6, s6, se5.mono e6, ?_⟩
                              cases he : elt δ5 S6 with
                              | bad => rw [he] at hv; exact hv.elim
                              | ex c fs S' => rw [he] at hv; exact hv.elim
                              | ok y S7 =>
                                rw [he] at hv
                                dsimp only at hv
                                intro ρ7 H7 v e7 s7 rv
                                split at hv
                                · rename_i acc hacc
                                  by_cases hz : fits (acc.length + 1) = true
                                  · rw [hz] at hv
                                    have hD7 := (((e2.trans (e3.trans e4)).trans e5).trans (e6.trans e7)).at hDl
                                    obtain ⟨ts, q1, q2⟩ := s7.ats _ _ _ hacc hD7
                                    obtain ⟨s8, e8⟩ := s7.put (o' := .lst (acc ++ [y])) (u := .lst (ts ++ [v])) hacc hD7 rfl rfl fun H' e' q' => ⟨_, q', (q2.mono e').app (.cons (rv.mono e') .nil)⟩
                                    exact ⟨ts, q1, by rw [← q2.length]; exact fits_iff.mp hz, _, ρ7, e5.trans (e6.trans (e7.trans e8)), s8, wpR.ext (e6.trans (e7.trans e8)) hv⟩
                                  · rw [Bool.not_eq_true _ |>.mp hz] at hv
                                    exact hv.elim
                                · exact hv.elim
/-- [elt for tg in it if .. for tg1 in it1 if ..] -/
theorem se_comp2 (o : XO X g Wx k) (own : List (Str × Nat)) (vs1 : List Nat) {tg it tg1 it1 elt : Expr} {ifs ifs1 : List Expr} {scope : Scope} {xi xi1 : XI} {put put1 : XP} {sl sl1 : List Nat} {cond cond1 : XT} {xe : XE} (hi : SI X g Wx tg it xi) (ok : BlkOk X.N X.env.scope scope own)
    (hg : ∀ (s : Shared) (H : Hp) (C : Addr) (cl : List (Str × Addr)) (fp : List Addr), XO (X.blk s H scope (compEnvC scope cl C X.env) fp) g WF k → SG (X.blk s H scope (compEnvC scope cl C X.env) fp) g tg put sl)
    (ht : ∀ (s : Shared) (H : Hp) (C : Addr) (cl : List (Str × Addr)) (fp : List Addr), XO (X.blk s H scope (compEnvC scope cl C X.env) fp) g WF k → PTs (X.blk s H scope (compEnvC scope cl C X.env) fp) ifs (tQ g WF cond))
    (hi1 : ∀ (s : Shared) (H : Hp) (C : Addr) (cl : List (Str × Addr)) (fp : List Addr), XO (X.blk s H scope (compEnvC scope cl C X.env) fp) g WF k → SI (X.blk s H scope (compEnvC scope cl C X.env) fp) g WF tg1 it1 xi1)
    (hg1 : ∀ (s : Shared) (H : Hp) (C : Addr) (cl : List (Str × Addr)) (fp : List Addr), XO (X.blk s H scope (compEnvC scope cl C X.env) fp) g WF k → SG (X.blk s H scope (compEnvC scope cl C X.env) fp) g tg1 put1 sl1)
    (ht1 : ∀ (s : Shared) (H : Hp) (C : Addr) (cl : List (Str × Addr)) (fp : List Addr), XO (X.blk s H scope (compEnvC scope cl C X.env) fp) g WF k → PTs (X.blk s H scope (compEnvC scope cl C X.env) fp) ifs1 (tQ g WF cond1))
    (he : ∀ (s : Shared) (H : Hp) (C : Addr) (cl : List (Str × Addr)) (fp : List Addr), XO (X.blk s H scope (compEnvC scope cl C X.env) fp) g WF k → SE (X.blk s H scope (compEnvC scope cl C X.env) fp) g WF elt xe)
    (hv : ∀ i ∈ vs1, i ∈ own.map (·.2) := by decide) (hsl : ∀ j ∈ sl, j ∈ own.map (·.2) := by decide) (hsl1 : ∀ j ∈ sl1, j ∈ vs1 := by decide) (hs : ∀ x, foldedSetIterable it X.env x = pure x := by intro _; rfl) (hs1 : ∀ env x, foldedSetIterable it1 env x = pure x := by intro _ _; rfl) :
    SE X g Wx (.ListComp elt [⟨tg, it, ifs, 0⟩, ⟨tg1, it1, ifs1, 0⟩] scope pos) (xcomp2 (own.map (·.2)) vs1 xi put cond xi1 put1 cond1 xe) :=
  pe_imp (pe_lc2 o.calm o.nd hi ok hv (fun s H C cl fp => hg s H C cl fp (o.blk ..)) (fun s H C cl fp => ht s H C cl fp (o.blk ..)) (fun s H C cl fp => hi1 s H C cl fp (o.blk ..)) (fun s H C cl fp => hg1 s H C cl fp (o.blk ..)) (fun s H C cl fp => ht1 s H C cl fp (o.blk ..)) (fun s H C cl fp => he s H C cl fp (o.blk ..)) hs hs1) (comp2_in hsl hsl1)
end
end Rz
namespace Rz
open PySem PySem.Spec PyProof.Rows L2
/-! ### all, any of a list of truth values -/
def bools : List Va → Option (List Bool)
  | [] => some []
  | .bl b :: us => match bools us with
    | some bs => some (b :: bs)
    | none => none
  | _ => none
@[simp] def fAll (ws : List Va) (S : Sto) : Rs Va := match ws with
  | [.loc l] => match getL S l with
    | some us => match bools us with
      | some bs => .ok (.bl (bs.all id)) S
      | none => .bad
    | none => .bad
  | _ => .bad
@[simp] def fAny (ws : List Va) (S : Sto) : Rs Va := match ws with
  | [.loc l] => match getL S l with
    | some us => match bools us with
      | some bs => .ok (.bl (bs.any id)) S
      | none => .bad
    | none => .bad
  | _ => .bad
theorem bools_map (bs : List Bool) : bools (bs.map .bl) = some bs := by
  induction bs with
  | nil => rfl
  | cons b bs ih =>
    show (match bools (bs.map .bl) with | some bs => some (b :: bs) | none => none) = _
    rw [ih]
section
variable {X : Cx} {g : G} {Wx : WX} {k : Nat} {pos : Pos} {a b c : Expr} {es : List Expr} {x y z : XE} {r : XA}
theorem bools_rel {ρ : List Addr} {H : Hp} : ∀ {us : List Va} {vs : List V} {bs : List Bool}, RelL g ρ H us vs → bools us = some bs → vs = bs.map V.bl
  | _, _, _, .nil, h => by cases h; rfl
  | _, _, _, .cons (w := w) ra rn, h => by
    cases ra with
    | bl b =>
      rename_i us vs
      have h' : (match bools us with | some bs => some (b :: bs) | none => none) = some _ := h
      cases q : bools us with
      | none => rw [q] at h'; cases h'
      | some bs' =>
        rw [q] at h'
        cases h'
        rw [bools_rel rn q]
        rfl
    | _ => cases h
theorem vals_bools : ∀ {bs : List Bool} {us : List Value}, Vals (bs.map V.bl) us → us = bs.map Value.bool
  | [], us, r => by cases r; rfl
  | b :: bs, us, r => by
    cases r with
    | cons r1 r2 =>
      cases r1
      rw [vals_bools r2]
      rfl
theorem all_range (bs : List Bool) (d : Bool) : ((List.range bs.length).all fun i => (bs[i]?).getD d) = bs.all id := by
  have e : (List.range bs.length).map (fun i => (bs[i]?).getD d) = bs := by
    refine List.ext_getElem (by simp) fun i h1 h2 => ?_
    simp [h2]
  conv => rhs; rw [← e]
  rw [List.all_map]
  rfl
theorem any_range (bs : List Bool) (d : Bool) : ((List.range bs.length).any fun i => (bs[i]?).getD d) = bs.any id := by
  have e : (List.range bs.length).map (fun i => (bs[i]?).getD d) = bs := by
    refine List.ext_getElem (by simp) fun i h1 h2 => ?_
    simp [h2]
  conv => rhs; rw [← e]
  rw [List.any_map]
  rfl
def rQuant (K : PySem.W.Frag) (f : List Bool → Bool) : List V → Hp → VK → Prop := fun xs H Q => ∃ p bs, xs = [.ref p] ∧ SqL K H p (bs.map V.bl) ∧ Q (.bl (f bs)) H
theorem call_allB (o : XO X g Wx k) : CallR X (.builtin "all") (rQuant X.K fun bs => bs.all id) := by
  intro pins s σ H xs us Q I rv h
  obtain ⟨p, bs, rfl, hp, q⟩ := h
  obtain ⟨u, rfl, ru⟩ := vals1 rv
  cases ru
  obtain ⟨its, r1, p1, _⟩ := I.list hp
  cases vals_bools r1
  have hl := p1.isList
  have hlt : p < s.heap.objs.size := by obtain ⟨_, e, _⟩ := hl; exact Heap.lt_size e
  refine call_all_walk (wpAny_pyIter_list hl ?_)
  refine ⟨s.heap.objs.size, [s.heap.objs.size, p], [s.heap.objs.size], (bs.map Value.bool).toArray.size, _, _, fun i => (bs[i]?).getD true, rfl, Walks.list (A := X.A.in1) (I.ok.hd o.calm) _ p (Nat.ne_of_lt hlt) _,
    ⟨⟨_, Heap.get?_push_size _ rfl, rfl, rfl⟩, hl.push _⟩, fun i v s' Q' E' hP hQ => ?_, fun h' tk hk => ?_⟩
  · have hi : (bs.map Value.bool)[i]? = some v := by simpa using hP
    rw [List.getElem?_map] at hi
    cases e : bs[i]? with
    | none => rw [e] at hi; cases hi
    | some b =>
      rw [e] at hi
      cases hi
      simp only [e, Option.getD_some] at hQ
      exact wpAny_truthy_bool hQ
  · have e : ((List.range (bs.map Value.bool).toArray.size).all fun i => (bs[i]?).getD true) = bs.all id := by
      rw [List.size_toArray, List.length_map]
      exact all_range bs true
    rw [e]
    refine ⟨.bl (bs.all id), H, I.kept (t' := tk) fun b o e => hk b o (fun hm => by rw [List.mem_singleton.mp hm] at e; exact Nat.lt_irrefl _ (Heap.lt_size e)) (Heap.get?_push_of_some _ e), rfl, q⟩
theorem call_anyB (o : XO X g Wx k) : CallR X (.builtin "any") (rQuant X.K fun bs => bs.any id) := by
  intro pins s σ H xs us Q I rv h
  obtain ⟨p, bs, rfl, hp, q⟩ := h
  obtain ⟨u, rfl, ru⟩ := vals1 rv
  cases ru
  obtain ⟨its, r1, p1, _⟩ := I.list hp
  cases vals_bools r1
  have hl := p1.isList
  have hlt : p < s.heap.objs.size := by obtain ⟨_, e, _⟩ := hl; exact Heap.lt_size e
  refine call_any_walk (wpAny_pyIter_list hl ?_)
  refine ⟨s.heap.objs.size, [s.heap.objs.size, p], [s.heap.objs.size], (bs.map Value.bool).toArray.size, _, _, fun i => (bs[i]?).getD false, rfl, Walks.list (A := X.A.in1) (I.ok.hd o.calm) _ p (Nat.ne_of_lt hlt) _,
    ⟨⟨_, Heap.get?_push_size _ rfl, rfl, rfl⟩, hl.push _⟩, fun i v s' Q' E' hP hQ => ?_, fun h' tk hk => ?_⟩
  · have hi : (bs.map Value.bool)[i]? = some v := by simpa using hP
    rw [List.getElem?_map] at hi
    cases e : bs[i]? with
    | none => rw [e] at hi; cases hi
    | some b =>
      rw [e] at hi
      cases hi
      simp only [e, Option.getD_some] at hQ
      exact wpAny_truthy_bool hQ
  · have e : ((List.range (bs.map Value.bool).toArray.size).any fun i => (bs[i]?).getD false) = bs.any id := by
      rw [List.size_toArray, List.length_map]
      exact any_range bs false
    rw [e]
    refine ⟨.bl (bs.any id), H, I.kept (t' := tk) fun b o e => hk b o (fun hm => by rw [List.mem_singleton.mp hm] at e; exact Nat.lt_irrefl _ (Heap.lt_size e)) (Heap.get?_push_of_some _ e), rfl, q⟩
theorem cs_all : CalS g (rQuant g.K fun bs => bs.all id) fAll := fun Wx σ ρ S H ws vs Q sm rl h => by
  unfold fAll at h
  split at h
  · rename_i l
    cases rl with
    | cons ra rn =>
      cases rn
      cases ra with
      | @loc l p hp =>
        cases e : getL S l with
        | none => rw [e] at h; exact h.elim
        | some us =>
          rw [e] at h
          dsimp only at h
          cases e2 : bools us with
          | none => rw [e2] at h; exact h.elim
          | some bs =>
            rw [e2] at h
            obtain ⟨vs, s, rl⟩ := getL_at sm e hp
            have hv := bools_rel rl e2
            subst hv
            exact ⟨p, bs, rfl, s, h.fin sm (.bl _)⟩
  · exact h.elim
theorem cs_any : CalS g (rQuant g.K fun bs => bs.any id) fAny := fun Wx σ ρ S H ws vs Q sm rl h => by
  unfold fAny at h
  split at h
  · rename_i l
    cases rl with
    | cons ra rn =>
      cases rn
      cases ra with
      | @loc l p hp =>
        cases e : getL S l with
        | none => rw [e] at h; exact h.elim
        | some us =>
          rw [e] at h
          dsimp only at h
          cases e2 : bools us with
          | none => rw [e2] at h; exact h.elim
          | some bs =>
            rw [e2] at h
            obtain ⟨vs, s, rl⟩ := getL_at sm e hp
            have hv := bools_rel rl e2
            subst hv
            exact ⟨p, bs, rfl, s, h.fin sm (.bl _)⟩
  · exact h.elim
theorem se_all (o : XO X g Wx k) {p : Pos} (hm : X.mg "all" = none) (ha : SA X g Wx [a] r) (hg : Gl X "all" := by rfl) (he : starEach [a] X.env = (false, eval a X.env) :: starEach [] X.env := by rfl) : SE X g Wx (.Call (.Name "all" p) [a] [] pos) (xcall fAll r) :=
  se_callB (call_allB o) (o.K ▸ cs_all) hm ha hg (he := he)
theorem se_any (o : XO X g Wx k) {p : Pos} (hm : X.mg "any" = none) (ha : SA X g Wx [a] r) (hg : Gl X "any" := by rfl) (he : starEach [a] X.env = (false, eval a X.env) :: starEach [] X.env := by rfl) : SE X g Wx (.Call (.Name "any" p) [a] [] pos) (xcall fAny r) :=
  se_callB (call_anyB o) (o.K ▸ cs_any) hm ha hg (he := he)
end
end Rz
namespace Rz
open PySem PySem.Spec PyProof.Rows L2
/-! ### one step, given what its parts give -/
section
variable {δ δ1 : Env} {S S1 S2 S3 : Sto} {x y z : XE} {as : XA} {p q : XT} {s t : XS} {a b v w : Va} {ws us : List Va} {o : Out} {i l n m : Nat}
theorem var_at (h : δ[i]? = some (some v)) : xvar i δ S = .ok v S := by
  unfold xvar
  rw [h]
theorem lit_at : xlit v δ S = .ok v S := rfl
theorem bin_at {f : Va → Va → Sto → Rs Va} {r : Rs Va} (h : x δ S = .ok a S1) (h2 : y δ S1 = .ok b S2) (h3 : f a b S2 = r) : xbin f x y δ S = r := by
  unfold xbin
  rw [h, bind_ok, h2, bind_ok]
  exact h3
theorem cmp_at {f : Va → Va → Sto → Rs Bool} {r : Rs Bool} (h : x δ S = .ok a S1) (h2 : y δ S1 = .ok b S2) (h3 : f a b S2 = r) : xbinB f x y δ S = r := by
  unfold xbinB
  rw [h, bind_ok, h2, bind_ok]
  exact h3
theorem un_at {f : Va → Sto → Rs Va} {r : Rs Va} (h : x δ S = .ok a S1) (h3 : f a S1 = r) : xun f x δ S = r := by
  unfold xun
  rw [h, bind_ok]
  exact h3
theorem nil_at : anil δ S = .ok [] S := rfl
theorem cons_at (h : x δ S = .ok v S1) (h2 : as δ S1 = .ok us S2) : acons x as δ S = .ok (v :: us) S2 := by
  unfold acons
  rw [h, bind_ok, h2, bind_ok]
theorem one_at (h : x δ S = .ok v S1) : acons x anil δ S = .ok [v] S1 := cons_at h rfl
theorem call_at {f : List Va → Sto → Rs Va} {r : Rs Va} (h : as δ S = .ok us S1) (h2 : f us S1 = r) : xcall f as δ S = r := by
  unfold xcall
  rw [h, bind_ok]
  exact h2
theorem fn_at {f : List Va → Sto → Rs Va} {r : Rs Va} (h : as δ S = .ok us S1) (hn : us.length = n) (h2 : f us S1 = r) : ycall n f as δ S = r := by
  unfold ycall
  rw [h, bind_ok, if_pos hn]
  exact h2
theorem boo_at {b : Bool} (h : p δ S = .ok b S1) : xboo p δ S = .ok (.bl b) S1 := by
  unfold xboo
  rw [h, bind_ok]
theorem and_t {r : Rs Bool} (h : p δ S = .ok true S1) (h2 : q δ S1 = r) : xand p q δ S = r := by
  unfold xand
  rw [h, bind_ok]
  exact h2
theorem and_f (h : p δ S = .ok false S1) : xand p q δ S = .ok false S1 := by
  unfold xand
  rw [h, bind_ok]
  rfl
theorem or_t (h : p δ S = .ok true S1) : xor p q δ S = .ok true S1 := by
  unfold xor
  rw [h, bind_ok]
  rfl
theorem or_f {r : Rs Bool} (h : p δ S = .ok false S1) (h2 : q δ S1 = r) : xor p q δ S = r := by
  unfold xor
  rw [h, bind_ok]
  exact h2
theorem not_at {b : Bool} (h : p δ S = .ok b S1) : xnot p δ S = .ok (!b) S1 := by
  unfold xnot
  rw [h, bind_ok]
theorem tru_bl {b : Bool} (h : x δ S = .ok (.bl b) S1) : xtru x δ S = .ok b S1 := by
  unfold xtru
  rw [h, bind_ok]
  rfl
theorem set_at (h : x δ S = .ok v S1) : sset i x δ S = .nx (δ.set i (some v)) S1 := by
  unfold sset
  rw [h]
  rfl
theorem exp_at (h : x δ S = .ok v S1) : sexp x δ S = .nx δ S1 := by
  unfold sexp
  rw [h]
  rfl
theorem ret_at (h : x δ S = .ok v S1) : sret x δ S = .rt v S1 := by
  unfold sret
  rw [h]
  rfl
theorem seq_at (h : s δ S = .nx δ1 S1) (h2 : t δ1 S1 = o) : sseq s t δ S = o := by
  unfold sseq
  rw [h]
  exact h2
theorem seq_rt (h : s δ S = .rt v S1) : sseq s t δ S = .rt v S1 := by
  unfold sseq
  rw [h]
  rfl
theorem if_t (h : p δ S = .ok true S1) (h2 : s δ S1 = o) : sif p s t δ S = o := by
  unfold sif
  rw [h]
  exact h2
theorem if_f (h : p δ S = .ok false S1) (h2 : t δ S1 = o) : sif p s t δ S = o := by
  unfold sif
  rw [h]
  exact h2
theorem ix_at {j : Int} (h : getL S l = some ws) (h2 : atI ws j = some w) : oIx (.loc l) (.int j) S = .ok w S := by
  unfold oIx
  dsimp only
  rw [h]
  dsimp only
  rw [h2]
theorem ixT_at {j : Int} (h2 : atI ws j = some w) : oIx (.tup ws) (.int j) S = .ok w S := by
  unfold oIx
  dsimp only
  rw [h2]
theorem put_at {j : Int} (h : S[l]? = some (.lst ws)) (h2 : ixN ws.length j = some m) : oPut (.loc l) (.int j) w δ S = .nx δ (S.set l (.lst (ws.set m w))) := by
  unfold oPut
  dsimp only
  rw [h]
  dsimp only
  rw [h2]
theorem sub_at (h : z δ S = .ok w S1) (h1 : x δ S1 = .ok a S2) (h2 : y δ S2 = .ok b S3) (h3 : oPut a b w δ S3 = o) : ssub x y z δ S = o := by
  unfold ssub
  rw [h]
  show ((x δ S1).out δ fun u S2 => (y δ S2).out δ fun j S3 => oPut u j w δ S3) = o
  rw [h1]
  show ((y δ S2).out δ fun j S3 => oPut a j w δ S3) = o
  rw [h2]
  exact h3
theorem lst_at (h : as δ S = .ok us S1) (hz : us.length ≤ 16777216) : xlst as δ S = .ok (.loc S1.length) (S1 ++ [.lst us]) := by
  unfold xlst
  rw [h, bind_ok, llst_eq S1 hz]
theorem tup_at (h : as δ S = .ok us S1) (hz : us.length ≤ 16777216) : xtup as δ S = .ok (.tup us) S1 := by
  unfold xtup
  rw [h, bind_ok, ltup_eq S1 hz]
theorem getL_lst (h : S[l]? = some (.lst ws)) : getL S l = some ws := by
  unfold getL
  rw [h]
theorem mod_at {i j : Int} (h : 0 < j) : oMod (.int i) (.int j) S = .ok (.int (i % j)) S := by
  unfold oMod
  dsimp only
  rw [if_pos h]
theorem div_at {i j : Int} (h : 0 < j) (h2 : j < 1073741824) : oDiv (.int i) (.int j) S = .ok (.int (i / j)) S := by
  unfold oDiv
  dsimp only
  rw [if_pos ⟨h, h2⟩]
theorem add_at {i j : Int} : oAdd (.int i) (.int j) S = .ok (.int (i + j)) S := rfl
theorem len_at (h : getL S l = some ws) : fLen [.loc l] S = .ok (.int ws.length) S := by
  unfold fLen
  dsimp only
  unfold itm
  dsimp only
  rw [h]
theorem lenT_at : fLen [.tup ws] S = .ok (.int ws.length) S := rfl
/-- a store that keeps all but one object -/
def KeepB (d : Nat) (S S' : Sto) : Prop := ∀ (j : Nat) (o : Ob), j ≠ d → S[j]? = some o → S'[j]? = some o
theorem KeepB.refl (d : Nat) (S : Sto) : KeepB d S S := fun _ _ _ h => h
theorem KeepB.trans {d : Nat} (h : KeepB d S S1) (h2 : KeepB d S1 S2) : KeepB d S S2 := fun j o n e => h2 j o n (h j o n e)
theorem Keep.but {d : Nat} (h : Keep S S1) : KeepB d S S1 := fun j o _ e => h j o e
theorem KeepB.set (d : Nat) (S : Sto) (u : Ob) : KeepB d S (S.set d u) := fun j o n e => by
  rw [List.getElem?_set_ne (Ne.symm n)]
  exact e
/-- two lists of ints: some answer; yes where they are the same -/
theorem eqv_ints (xs ys : List Int) : xs = ys → PyData.eqvAll (xs.map .int) (ys.map .int) = true := by
  rintro rfl
  induction xs with
  | nil => simp [PyData.eqvAll]
  | cons a r ih => simp [PyData.eqvAll, PyData.eqv, ih]
theorem shaped_ints (ns : List Int) : SeqAt.shaped (.list (ns.map .int)) = true := by
  unfold SeqAt.shaped
  rw [Bool.and_eq_true]
  refine ⟨by simp only [PyData.canLay0]; exact lay_ints ns, decide_eq_true ?_⟩
  simp only [PyData.depth]
  rw [depth_ints]
  omega
theorem cEq_some {ns ms : List Int} (h : getL S l = some (ns.map .int)) (h' : getL S m = some (ms.map .int)) : ∃ b, cEq (.loc l) (.loc m) S = .ok b S ∧ (ns = ms → b = true) := by
  refine ⟨PyData.eqv (.list (ns.map .int)) (.list (ms.map .int)), ?_, fun e => by simp only [PyData.eqv]; exact eqv_ints ns ms e⟩
  unfold cEq
  show deepE (.loc l) (.loc m) S = _
  unfold deepE
  rw [toD_list h (allD_ints S 62 ns), toD_list h' (allD_ints S 62 ms)]
  dsimp only
  rw [shaped_ints, shaped_ints]
  rfl
theorem atI_ints {ns : List Int} {j : Int} (h : 0 ≤ j) (h2 : j < ns.length) : ∃ c, atI (ns.map Va.int) j = some (.int c) := by
  obtain ⟨k, rfl⟩ := Int.eq_ofNat_of_zero_le h
  have hk : k < ns.length := by omega
  exact ⟨ns[k], atI_nat (by simp [hk])⟩
end
end Rz
namespace Rz
open PySem PySem.Spec PyProof.Rows L2
/-! ### lists of tuples of ints -/
abbrev tps (rs : List (List Int)) : List Va := rs.map fun r => .tup (r.map .int)
abbrev tpd (rs : List (List Int)) : List PyData := rs.map fun r => .tuple (r.map .int)
theorem allD_tps (S : Sto) (n : Nat) : ∀ rs : List (List Int), allD (toD S (n + 2)) (tps rs) = some (tpd rs)
  | [] => rfl
  | r :: rs => by
    have ih := allD_tps S n rs
    show (match (allD (toD S (n + 1)) (r.map .int)).map PyData.tuple, allD (toD S (n + 2)) (tps rs) with | some d, some ds => some (d :: ds) | _, _ => none) = _
    rw [ih, allD_ints S n r]
    rfl
theorem okL_tps : ∀ rs : List (List Int), (∀ r ∈ rs, ∀ i ∈ r, i.natAbs < 2 ^ 64) → okL (tpd rs) = true
  | [], _ => by simp [okL]
  | r :: rs, h => by
    have ih := okL_tps rs fun q hq => h q (List.mem_cons_of_mem _ hq)
    have h1 := okL_ints r fun i hi => log2_small (h r List.mem_cons_self i hi)
    show (okD (.tuple (r.map .int)) && okL (tpd rs)) = true
    rw [ih]
    simp only [okD, h1, Bool.and_self]
theorem szL_tps : ∀ rs : List (List Int), (∀ r ∈ rs, r.length ≤ 2) → szL (tpd rs) ≤ 600 * rs.length
  | [], _ => by simp [szL]
  | r :: rs, h => by
    have ih := szL_tps rs fun q hq => h q (List.mem_cons_of_mem _ hq)
    have h1 := h r List.mem_cons_self
    show szD (.tuple (r.map .int)) + 2 + szL (tpd rs) ≤ _
    simp only [szD]
    rw [szL_ints, List.length_cons]
    omega
theorem depth_tps : ∀ rs : List (List Int), PyData.depthAll (tpd rs) ≤ 1
  | [] => by simp [PyData.depthAll]
  | r :: rs => by
    have ih := depth_tps rs
    have h := depth_ints r
    show PyData.depthAll (.tuple (r.map .int) :: tpd rs) ≤ 1
    generalize tpd rs = q at *
    simp only [PyData.depthAll, PyData.depth, h]
    omega
theorem fRepr_tps {S : Sto} {l : Nat} {rs : List (List Int)} (h : getL S l = some (tps rs)) (h1 : ∀ r ∈ rs, ∀ i ∈ r, i.natAbs < 2 ^ 64) (h3 : ∀ r ∈ rs, r.length ≤ 2) (h2 : rs.length ≤ 20000) : fRepr [.loc l] S = .ok (.str (PyData.shown (.list (tpd rs)))) S :=
  fRepr_eq (toD_list h (allD_tps S 61 rs)) (by simp only [okD]; exact okL_tps rs h1) (by have := szL_tps rs h3; simp only [szD]; omega) (by have := depth_tps rs; simp only [PyData.depth]; omega)
theorem fRepr_tp {S : Sto} {r : List Int} (h1 : ∀ i ∈ r, i.natAbs < 2 ^ 64) (h2 : r.length ≤ 20000) : fRepr [.tup (r.map .int)] S = .ok (.str (PyData.shown (.tuple (r.map .int)))) S :=
  fRepr_eq (d := .tuple (r.map .int)) (by show (allD (toD S 63) (r.map .int)).map PyData.tuple = _; rw [allD_ints S 62 r]; rfl) (by simp only [okD]; exact okL_ints r fun i hi => log2_small (h1 i hi)) (by simp only [szD]; rw [szL_ints]; omega) (by simp only [PyData.depth]; rw [depth_ints]; omega)
/-! ### [f i j for i in range(n) for j in range(q i)] -/
theorem set_same {S : Sto} {D : Nat} {o : Ob} (h : S[D]? = some o) : S.set D o = S := by
  have hl := (List.getElem?_eq_some_iff.mp h).1
  apply List.ext_getElem?
  intro j
  by_cases e : D = j
  · subst e
    rw [List.getElem?_set_self hl, h]
  · rw [List.getElem?_set_ne e]
theorem compH_rng {n : Nat} {put : XP} {elt : XE} {D : Nat} {δ : Env} {kont : Sto → Rs Va} {f : Nat → Va} : ∀ (m i : Nat) (acc : List Va) (S : Sto), i + m = n → S[D]? = some (.lst acc) → acc.length + m ≤ 16777216 →
    (∀ j, j < n → ∃ e, put (.int (0 + (j : Nat))) δ = some e ∧ ∀ S, elt e S = .ok (f j) S) →
    compH (nrng 0 n) put xyes elt D δ kont (m + 1) i S = kont (S.set D (.lst (acc ++ (List.range' i m).map f)))
  | 0, i, acc, S, e, hD, hz, hp => by
    have e' : i = n := by omega
    subst e'
    unfold compH nrng
    rw [if_neg (Nat.lt_irrefl _)]
    dsimp only
    rw [List.range'_zero, List.map_nil, List.append_nil, set_same hD]
  | m + 1, i, acc, S, e, hD, hz, hp => by
    have hi : i < n := by omega
    obtain ⟨δ1, h1, h2⟩ := hp i hi
    have hl := (List.getElem?_eq_some_iff.mp hD).1
    have ih := compH_rng (put := put) (elt := elt) (δ := δ) (kont := kont) (f := f) m (i + 1) (acc ++ [f i]) (S.set D (.lst (acc ++ [f i]))) (by omega) (List.getElem?_set_self hl) (by rw [List.length_append]; simp; omega) hp
    unfold compH
    have hn : nrng 0 n S i = some (some (.int (0 + (i : Nat)))) := by unfold nrng; rw [if_pos hi]
    rw [hn]
    dsimp only
    rw [h1]
    dsimp only
    show (match elt δ1 S with | .ok y S2 => (match S2[D]? with | some (.lst acc) => bif fits (acc.length + 1) then compH (nrng 0 n) put xyes elt D δ kont (m + 1) (i + 1) (S2.set D (.lst (acc ++ [y]))) else .bad | _ => .bad) | _ => .bad) = _
    rw [h2]
    dsimp only
    rw [hD]
    dsimp only
    rw [fits_of (by omega), cond_true, ih, List.set_set, List.range'_succ, List.map_cons, List.append_assoc]
    rfl
theorem comp2_rng {n : Nat} {put put1 : XP} {xi1 : XI} {elt : XE} {vs1 : List Nat} {D : Nat} {δ : Env} {q : Nat → Nat} {f : Nat → Nat → Va} : ∀ (m i : Nat) (acc : List Va) (S : Sto), i + m = n → S[D]? = some (.lst acc) → acc.length + 64 * m ≤ 16777216 →
    (∀ t, t < n → q t ≤ 64 ∧ ∃ e, put (.int (0 + (t : Nat))) δ = some e ∧ (∀ S, xi1 e S = .ok (q t + 1, nrng 0 (q t)) S) ∧ ∀ j, j < q t → ∃ e', put1 (.int (0 + (j : Nat))) (wipeE e vs1) = some e' ∧ ∀ S, elt e' S = .ok (f t j) S) →
    comp2G (nrng 0 n) put xyes xi1 put1 xyes elt vs1 D δ (m + 1) i S = .ok (.loc D) (S.set D (.lst (acc ++ (List.range' i m).flatMap fun t => (List.range (q t)).map (f t))))
  | 0, i, acc, S, e, hD, hz, hp => by
    have e' : i = n := by omega
    subst e'
    unfold comp2G nrng
    rw [if_neg (Nat.lt_irrefl _)]
    dsimp only
    rw [List.range'_zero, List.flatMap_nil, List.append_nil, set_same hD]
  | m + 1, i, acc, S, e, hD, hz, hp => by
    have hi : i < n := by omega
    obtain ⟨h0, δ1, h1, h2, h3⟩ := hp i hi
    have hl := (List.getElem?_eq_some_iff.mp hD).1
    have ih := comp2_rng (put := put) (put1 := put1) (xi1 := xi1) (elt := elt) (vs1 := vs1) (δ := δ) (q := q) (f := f) m (i + 1) (acc ++ (List.range' 0 (q i)).map (f i)) (S.set D (.lst (acc ++ (List.range' 0 (q i)).map (f i)))) (by omega) (List.getElem?_set_self hl) (by rw [List.length_append, List.length_map, List.length_range']; omega) hp
    unfold comp2G
    have hn : nrng 0 n S i = some (some (.int (0 + (i : Nat)))) := by unfold nrng; rw [if_pos hi]
    rw [hn]
    dsimp only
    rw [h1]
    dsimp only
    show (match xi1 δ1 S with | .ok a S2 => compH a.2 put1 xyes elt D (wipeE δ1 vs1) (fun S3 => comp2G (nrng 0 n) put xyes xi1 put1 xyes elt vs1 D δ (m + 1) (i + 1) S3) a.1 0 S2 | _ => .bad) = _
    rw [h2]
    dsimp only
    rw [compH_rng (f := f i) (q i) 0 acc S (by omega) hD (by omega) h3, ih, List.set_set, List.range'_succ, List.flatMap_cons, List.append_assoc, List.range_eq_range']
end Rz
/-! Sets whose members are keys of any HeapKind (nested tuples), by the tables' laws of HandS.TupSets. -/
namespace Rz.Sx
open PySem PySem.Spec PyProof.Rows L2
/-- a kind of keys, and what else the search in a set asks of them; ok: the keys that are carried by value -/
structure Mk (P : Program) (w : World) (κ : Type) [DecidableEq κ] where
  kd : HeapKind P w κ
  ok : κ → Prop
  stay : ∀ {h h' : Heap} {k : κ} {b : Addr}, kd.is h k b → (∀ c o vs n, h.get? c = some o → o.data = .seq vs n → h'.get? c = some o) → kd.is h' k b
  seq : ∀ {h : Heap} {k : κ} {b : Addr}, kd.is h k b → ∃ o vs n, h.get? b = some o ∧ o.data = .seq vs n
  cls : ∀ {A : Around} {E : Value → Shared → Prop} {s : Shared} {k : κ} {b : Addr} {Q : Bool → Shared → Prop}, kd.is s.heap k b → Q false s → wpAny (model P w) A (ofAClassStatement 8 (.ref b)) Q E s
  byv : ∀ {A : Around} {E : Value → Shared → Prop} {s : Shared} {k : κ} {b : Addr} {Q : Bool → Shared → Prop}, ok k → kd.is s.heap k b → Q true s → wpAny (model P w) A (hashByValue 8 (.ref b)) Q E s
section
variable {P : Program} {w : World} {κ : Type} [DecidableEq κ] (M : Mk P w κ)
abbrev hsh (r : Addr × κ) : Int := M.kd.hash r.2
abbrev cellOf (r : Addr × κ) : Int × Value := (hsh M r, .ref r.1)
/-- the set at a holds the rows L -/
structure At (h : Heap) (a : Addr) (L : List (Addr × κ)) (es : Array (Int × Value)) (ep : Nat) (t : SetTable) : Prop where
  obj : ∃ o, h.get? a = some o ∧ o.ExactSet ∧ o.data = .set es ep t
  cells : es.toList = L.map (cellOf M)
  tab : TabOk t (L.map (hsh M))
  nd : (L.map Prod.snd).Nodup
  keys : ∀ r ∈ L, M.kd.is h r.2 r.1
  plain : t.plain = true
  led : w.params.followText "set-order" = true ∨ t.led = true
  room : L.length * 5 < t.mask * 3
  few : L.length < 64
variable {M} {A : Around} {E : Value → Shared → Prop} {s : Shared} {a : Addr} {L : List (Addr × κ)} {es : Array (Int × Value)} {ep : Nat} {t : SetTable}
theorem cells_len {L : List (Addr × κ)} {es : Array (Int × Value)} (h : es.toList = L.map (cellOf M)) : es.size = L.length := by
  have := congrArg List.length h
  simpa using this
theorem cells_at {L : List (Addr × κ)} {es : Array (Int × Value)} (h : es.toList = L.map (cellOf M)) {i : Nat} {r : Addr × κ} (e : L[i]? = some r) : es[i]? = some (cellOf M r) := by
  rw [← Array.getElem?_toList, h, List.getElem?_map, e]
  rfl
theorem At.sz (R : At M s.heap a L es ep t) : t.place.size = L.length := by simpa using R.tab.sz
theorem At.fits (R : At M s.heap a L es ep t) : t.fits es.size = true := by
  have h1 := R.sz
  have h2 := cells_len R.cells
  have h3 := R.room
  unfold SetTable.fits SetTable.fill
  simp only [R.tab.dm, Bool.and_eq_true, beq_iff_eq, decide_eq_true_eq, Array.size_empty]
  omega
theorem nth_dummy {m : Nat} : ∀ (n : Nat) (p : SetTable.Probe), p.dummy = none → (nth m p n).dummy = none
  | 0, _, h => h
  | n + 1, p, h => nth_dummy n (adv m p) (by unfold adv; split <;> exact h)
theorem seen_no {x : Addr} {k : κ} (hx : M.kd.is s.heap k x) {Q : Bool → Shared → Prop} (q : Q false s) : ∀ {ys : List Value}, (∀ y ∈ ys, ∃ r : Addr × κ, y = .ref r.1 ∧ M.kd.is s.heap r.2 r.1) → wpAny (model P w) A (searchCouldBeSeen (.ref x) ys) Q E s := by
  intro ys hy
  unfold searchCouldBeSeen
  refine wpAny_bind (wpAny_forIn_list _ (fun rest st s' => s' = s ∧ st.1 = none ∧ ∀ y ∈ rest, ∃ r : Addr × κ, y = .ref r.1 ∧ M.kd.is s.heap r.2 r.1) _ ?turn ?last _ _ ⟨rfl, rfl, hy⟩)
  case turn =>
    rintro v rest st s' ⟨rfl, e, all⟩
    obtain ⟨⟨c, k'⟩, rfl, hc⟩ := all v List.mem_cons_self
    have tl : ∀ y ∈ rest, ∃ r : Addr × κ, y = .ref r.1 ∧ M.kd.is s'.heap r.2 r.1 := fun y m => all y (List.mem_cons_of_mem _ m)
    by_cases same : (x == c || (carriedByValue (.ref x) && carriedByValue (.ref c))) = true
    · exact wp_if_pos same (wpAny_pure ⟨rfl, rfl, tl⟩)
    · refine wp_if_neg same (wpAny_bind (M.kd.quiet hx ?_))
      simp only [Bool.not_true, Bool.false_eq_true, if_false]
      refine wpAny_bind (M.kd.quiet hc ?_)
      simp only [Bool.not_true, Bool.false_eq_true, if_false]
      refine wpAny_bind (M.cls hx ?_)
      simp only [Bool.false_eq_true, if_false]
      refine wpAny_bind (M.cls hc ?_)
      simp only [Bool.false_eq_true, if_false]
      exact wpAny_pure ⟨rfl, rfl, tl⟩
  case last =>
    rintro ⟨r1, r2⟩ s' ⟨rfl, e, _⟩
    simp only at e
    subst e
    exact wpAny_pure q
/-- the way of a hash in a table -/
abbrev wy (t : SetTable) (h : Int) : Nat → Nat := way t.mask h
abbrev stp (t : SetTable) (h : Int) (c : Nat) : SetTable.Probe := nth t.mask (runAt t.mask (SetTable.bits h % (t.mask + 1)) (SetTable.bits h)) c
theorem stp_add (t : SetTable) (h : Int) (c q : Nat) : nth t.mask (stp t h c) q = stp t h (c + q) := (nth_add t.mask c _ q).symm
/-- the search, from a step of the way on; adding or only looking; K the first empty slot on it -/
theorem look_from (R : At M s.heap a L es ep t) {x : Addr} {k : κ} (hx : M.kd.is s.heap k x) (hu : M.kd.room A) {K : Nat} (hKf : K < 10 * SetTable.turns t.mask) (hK : wy t (M.kd.hash k) K ∉ t.place.toList) (hb : ∀ c, c < K → wy t (M.kd.hash k) c ∈ t.place.toList)
    {ad : Bool} {Q : SetFound → Shared → Prop} (yes : k ∈ L.map Prod.snd → (ad = true → Q (.there none) s) ∧ (ad = false → ∀ i, Q (.there (some i)) s)) (no : k ∉ L.map Prod.snd → Q (.free (wy t (M.kd.hash k) K) false) s) :
    ∀ (f c : Nat) (st : Option SetTable.Probe), st.getD (t.probeStart (M.kd.hash k)) = stp t (M.kd.hash k) c → c ≤ K → K - c < f → (∀ (i : Nat) r, L[i]? = some r → r.2 = k → ∃ c', c ≤ c' ∧ c' < K ∧ t.place.toList[i]? = some (wy t (M.kd.hash k) c')) →
      wpAny (model P w) A (setSearchFrom a (.ref x) (M.kd.hash k) ad f st) Q E s := by
  intro f
  induction f with
  | zero => exact fun c st _ _ z _ => absurd z (Nat.not_lt_zero _)
  | succ f ih =>
    intro c st hst hc hf left
    generalize eh : M.kd.hash k = hk at *
    obtain ⟨o, ho, hex, hd⟩ := R.obj
    rw [setSearchFrom_succ]
    refine wpAny_bind (wpAny_setState_of ho hd R.fits ?_)
    dsimp only
    refine wp_if_neg (show ¬ t.gaveWay = true by unfold SetTable.gaveWay; rw [mask_odd R.tab.mok]; decide) ?_
    try refine wpAny_bind (wpAny_pure ?_)
    have way_ : ∀ q, (nth t.mask (stp t hk c) q).j = wy t hk (c + q) := fun q => congrArg SetTable.Probe.j (stp_add t hk c q)
    have hAt : ∀ (i : Nat) r, L[i]? = some r → (fun i => (es[i]?.map (·.1)).getD 0) i = hsh M r := fun i r e => by
      show (es[i]?.map (·.1)).getD 0 = _
      rw [cells_at R.cells e]
      rfl
    rcases go_spec t R.tab.ris R.tab.dm (fun i => (es[i]?.map (·.1)).getD 0) hk (10 * SetTable.turns t.mask) (K - c) (stp t hk c) (nth_dummy c _ rfl) (by omega) (fun q hq => by rw [way_]; exact hb _ (by omega)) (by rw [way_, Nat.add_sub_cancel' hc]; exact hK) with ⟨q, i, hq, hi, hh, ahead, pr⟩ | ⟨ahead, pr⟩
    · have pr' : t.probe (fun i => (es[i]?.map (·.1)).getD 0) hk (st.getD (t.probeStart hk)) = some (.candidate (wy t hk (c + q)) i (stp t hk (c + (q + 1)))) := by
        rw [hst, ← way_, ← stp_add]
        exact pr
      rw [pr']
      dsimp only
      rw [way_] at hi
      have il : i < L.length := by
        have z := (List.getElem?_eq_some_iff.mp hi).1
        have z2 := R.sz
        rw [Array.length_toList] at z
        omega
      obtain ⟨r, hr⟩ : ∃ r, L[i]? = some r := ⟨_, List.getElem?_eq_getElem il⟩
      have rm : r ∈ L := List.mem_of_getElem? hr
      have live : t.slot (wy t hk (c + q)) = .live i := slot_live R.tab.ris hi
      have tail : wpAny (model P w) A (searchRest a (.ref x) hk ad f es t (wy t hk (c + q)) i (stp t hk (c + (q + 1)))) Q E s := by
        unfold searchRest
        rw [cells_at R.cells hr]
        dsimp only
        refine wpAny_bind (wpAny_holding (M.kd.eqBool hu (R.keys r rm) hx ?_))
        refine wpAny_bind (wpAny_setState_of ho hd R.fits ?_)
        dsimp only
        have sm : t.sameMemory t.moves t.mask = some true := by unfold SetTable.sameMemory; rw [if_pos (beq_self_eq_true _)]
        by_cases e : r.2 = k
        · obtain ⟨y1, y2⟩ := yes (List.mem_map.mpr ⟨r, rm, e⟩)
          cases ad with
          | true => exact wp_if_pos (by simp [e]) (wpAny_pure (y1 rfl))
          | false =>
            refine wp_if_neg (by simp) ?_
            try refine wpAny_bind (wpAny_pure ?_)
            rw [sm]
            dsimp only
            simp only [if_true, live, cells_at R.cells hr]
            refine wpAny_bind (wpAny_isSame_ref_self (wpAny_bind (wpAny_pure ?_)))
            simp only [if_true]
            exact wp_if_pos (by simp [e]) (wpAny_pure (y2 rfl i))
        · refine wp_if_neg (by simp [e]) ?_
          try refine wpAny_bind (wpAny_pure ?_)
          rw [sm]
          dsimp only
          simp only [if_true, live, cells_at R.cells hr]
          refine wpAny_bind (wpAny_isSame_ref_self (wpAny_bind (wpAny_pure ?_)))
          simp only [if_true]
          refine wp_if_neg (by simp [e]) (ih (c + (q + 1)) _ rfl (by omega) (by omega) fun i0 r0 h0 k0 => ?_)
          obtain ⟨c', l1, l2, l3⟩ := left i0 r0 h0 k0
          refine ⟨c', ?_, l2, l3⟩
          have h0' : hsh M r0 = hk := by show M.kd.hash r0.2 = hk; rw [k0, eh]
          rcases Nat.lt_trichotomy c' (c + q) with z | z | z
          · exact absurd ((hAt i0 r0 h0).trans h0') (ahead (c' - c) i0 (by omega) (by rw [way_, Nat.add_sub_cancel' l1]; exact l3))
          · rw [z] at l3
            have s0 := slot_live R.tab.ris l3
            rw [live] at s0
            injection s0 with s0
            rw [← s0, hr] at h0
            cases h0
            exact absurd k0 e
          · omega
      by_cases hl : t.led = true
      · refine wp_if_neg (by simp [hl]) ?_
        try refine wpAny_bind (wpAny_pure ?_)
        exact tail
      · refine wp_if_pos (by simp [hl]) (wpAny_bind (seen_no hx ?_ fun y hy => ?_))
        · refine wp_if_neg (by decide) ?_
          try refine wpAny_bind (wpAny_pure ?_)
          exact tail
        · obtain ⟨e, he, rfl⟩ := List.mem_map.mp hy
          have he' : e ∈ es.toList := by
            have := (List.mem_filter.mp (by simpa using he : e ∈ es.toList.filter (·.1 == hk))).1
            exact this
          rw [R.cells] at he'
          obtain ⟨r, hr, rfl⟩ := List.mem_map.mp he'
          exact ⟨r, rfl, R.keys r hr⟩
    · have pr' : t.probe (fun i => (es[i]?.map (·.1)).getD 0) hk (st.getD (t.probeStart hk)) = some (.empty (wy t hk K) none) := by
        have z : wy t hk K = (nth t.mask (stp t hk c) (K - c)).j := by rw [way_, Nat.add_sub_cancel' hc]
        rw [hst, z]
        exact pr
      rw [pr']
      dsimp only
      refine wpAny_pure (no fun hm => ?_)
      obtain ⟨r0, m0, k0⟩ := List.mem_map.mp hm
      obtain ⟨i0, l0, e0⟩ := List.getElem_of_mem m0
      have h0 : L[i0]? = some r0 := by rw [List.getElem?_eq_getElem l0, e0]
      obtain ⟨c', l1, l2, l3⟩ := left i0 r0 h0 k0
      refine ahead (c' - c) i0 (by omega) (by rw [way_, Nat.add_sub_cancel' l1]; exact l3) ((hAt i0 r0 h0).trans ?_)
      show M.kd.hash r0.2 = hk
      rw [k0, eh]
end
end Rz.Sx
namespace Rz.Sx
open PySem PySem.Spec PyProof.Rows L2
section
variable {P : Program} {w : World} {κ : Type} [DecidableEq κ] {M : Mk P w κ} {A : Around} {E : Value → Shared → Prop} {s : Shared} {a : Addr} {L : List (Addr × κ)} {es : Array (Int × Value)} {ep : Nat} {t : SetTable}
theorem look (R : At M s.heap a L es ep t) {x : Addr} {k : κ} (hx : M.kd.is s.heap k x) (hu : M.kd.room A) {ad : Bool} {Q : SetFound → Shared → Prop} (yes : k ∈ L.map Prod.snd → (ad = true → Q (.there none) s) ∧ (ad = false → ∀ i, Q (.there (some i)) s))
    (no : ∀ K, k ∉ L.map Prod.snd → wy t (M.kd.hash k) K ∉ t.place.toList → (∀ c, c < K → wy t (M.kd.hash k) c ∈ t.place.toList) → Q (.free (wy t (M.kd.hash k) K) false) s) : wpAny (model P w) A (setSearch a (.ref x) (M.kd.hash k) ad) Q E s := by
  have rm := R.room
  obtain ⟨K, k1, k2, k3⟩ := R.tab.first (by rw [List.length_map]; omega) (M.kd.hash k)
  have few : K < 100000 := by
    have : 10 * SetTable.turns t.mask ≤ 1420 := by
      unfold SetTable.turns
      rcases R.tab.mok with e | e | e <;> omega
    omega
  refine look_from R hx hu k1 k2 k3 yes (fun n => no K n k2 k3) 100000 0 none rfl (Nat.zero_le _) (by omega) fun i r hr hk => ?_
  have il : i < t.place.toList.length := by
    have := (List.getElem?_eq_some_iff.mp hr).1
    have := R.sz
    rw [Array.length_toList]
    omega
  have hj := List.getElem?_eq_getElem il
  obtain ⟨c, hc, e⟩ := R.tab.before k2 (i := i) (h := M.kd.hash k) (by rw [List.getElem?_map, hr, ← hk]; rfl) hj
  exact ⟨c, Nat.zero_le _, hc, hj.trans (congrArg some e.symm)⟩
/-- x in the set -/
theorem has (R : At M s.heap a L es ep t) {x : Addr} {k : κ} (hx : M.kd.is s.heap k x) (hu : M.kd.room A) {Q : Bool → Shared → Prop} (q : Q (decide (k ∈ L.map Prod.snd)) { s with toks := s.toks + M.kd.draws k }) : wpAny (model P w) A (setContains a (.ref x)) Q E s := by
  unfold setContains
  refine wpAny_holding (wpAny_bind (M.kd.pyHash hu hx (wpAny_bind ?_)))
  unfold setFind
  rw [show (100000 : Nat) = 99999 + 1 from rfl]
  unfold setFindIn
  obtain ⟨o, ho, hex, hd⟩ := R.obj
  refine wpAny_bind (wpAny_setState_of ho hd R.fits ?_)
  dsimp only
  refine wp_if_neg (by simp [byScan, Value.scannable]) ?_
  try refine wpAny_bind (wpAny_pure ?_)
  refine wpAny_bind (look (s := { s with toks := s.toks + M.kd.draws k }) R hx hu (fun m => ⟨(fun z => nomatch z), fun _ i => ?_⟩) fun K m _ _ => ?_)
  · rw [decide_eq_true m] at q
    exact wpAny_pure (wpAny_pure q)
  · rw [decide_eq_false m] at q
    exact wpAny_pure (wpAny_pure q)
theorem still {h h' : Heap} {k : κ} {b : Addr} {o : Obj} (hb : M.kd.is h k b) (ho : h.get? a = some o) (hd : o.data = .set es ep t) (hs : Heap.SameBut a h h') : M.kd.is h' k b :=
  M.stay hb fun c u vs n e d => (hs.2 c fun z => by
    subst z
    rw [ho] at e
    cases e
    rw [hd] at d
    cases d).trans e
theorem kept {h h' : Heap} {k : κ} {b : Addr} (hb : M.kd.is h k b) (hs : ∀ c o, h.get? c = some o → h'.get? c = some o) : M.kd.is h' k b := M.stay hb fun c u _ _ e _ => hs c u e
theorem pick_rows (L : List (Addr × κ)) {es : Array (Int × Value)} (hc : es.toList = L.map (cellOf M)) : ∀ l : List Nat, (∀ i ∈ l, i < L.length) → l.filterMap (fun i => es[i]?) = (l.filterMap fun i => L[i]?).map (cellOf M) ∧ ((l.filterMap fun i => L[i]?).map (hsh M)) = l.map fun i => (es.map (·.1)).getD i 0
  | [], _ => ⟨rfl, rfl⟩
  | i :: l, h => by
    obtain ⟨e1, e2⟩ := pick_rows L hc l fun j hj => h j (List.mem_cons_of_mem _ hj)
    obtain ⟨r, hi⟩ : ∃ r, L[i]? = some r := ⟨_, List.getElem?_eq_getElem (h i List.mem_cons_self)⟩
    have hi' := cells_at hc hi
    have g : (es.map (·.1)).getD i 0 = hsh M r := by
      have : (es.map (·.1))[i]? = some (hsh M r) := by rw [Array.getElem?_map, hi']; rfl
      simp [Array.getD_eq_getD_getElem?, this]
    rw [List.filterMap_cons_some hi', List.filterMap_cons_some hi, List.map_cons, List.map_cons, List.map_cons, e1, e2, g]
    exact ⟨rfl, rfl⟩
theorem all_rows {α : Type} (L : List α) : (List.range L.length).filterMap (fun i => L[i]?) = L := by
  have key : ∀ n, n ≤ L.length → (List.range n).filterMap (fun i => L[i]?) = L.take n := by
    intro n
    induction n with
    | zero => intro _; rfl
    | succ n ih =>
      intro h
      have e := List.getElem?_eq_getElem (show n < L.length from h)
      rw [List.range_succ, List.filterMap_append, ih (Nat.le_of_lt h), List.take_succ, e, List.filterMap_cons_some e]
      rfl
  rw [key _ (Nat.le_refl _), List.take_length]
/-- the table grows -/
theorem grow {o : Obj} (ho : s.heap.get? a = some o) (hex : o.ExactSet) (hd : o.data = .set es ep t) (hc : es.toList = L.map (cellOf M)) (hz : t.place.size = es.size) (hdm : t.dummies = #[]) (hf : es.size ≤ t.mask) (nd : (L.map Prod.snd).Nodup) (ks : ∀ r ∈ L, M.kd.is s.heap r.2 r.1)
    (pl : t.plain = true) (ld : w.params.followText "set-order" = true ∨ t.led = true) (few : L.length < 64) {wanted m : Nat} (hw : SetTable.sizeAbove wanted - 1 = m) (hm : MaskOk m) (hw2 : SetTable.sizeAbove wanted ≤ 128) (hr : L.length * 5 < m * 3) {Q : Unit → Shared → Prop}
    (q : ∀ h' L' es' ep' t', Heap.SameBut a s.heap h' → At M h' a L' es' ep' t' → L'.Perm L → Q () { s with heap := h' }) : wpAny (model P w) A (setRelay a wanted) Q E s := by
  have n1 := cells_len hc
  obtain ⟨t', ord, e, hp, T, em, el, ep', ed⟩ := relaid_ok t (hs := es.map (·.1)) (wanted := wanted) hw hm (by rw [Array.size_map]; omega)
  rw [Array.size_map, n1] at hp
  obtain ⟨r1, r2⟩ := pick_rows (M := M) L hc ord.toList fun i hi => List.mem_range.mp (hp.mem_iff.mp hi)
  have pm : (ord.toList.filterMap fun i => L[i]?).Perm L := by
    have := hp.filterMap (fun i => L[i]?)
    rwa [all_rows] at this
  have r1' : (ord.filterMap (es[·]?)).toList = (ord.toList.filterMap fun i => L[i]?).map (cellOf M) := by
    rw [← r1]
    first | exact Array.toList_filterMap | simp
  rw [← r2] at T
  generalize ord.toList.filterMap (fun i => L[i]?) = L2 at r1' T pm
  have hs2 : (ord.filterMap (es[·]?)).size = es.size := by rw [cells_len r1', pm.length_eq, n1]
  rw [setRelay_eq]
  refine wpAny_bind (wpAny_setState_of ho hd (show t.fits es.size = true by
    unfold SetTable.fits SetTable.fill
    simp only [hdm, Bool.and_eq_true, beq_iff_eq, decide_eq_true_eq, Array.size_empty]
    omega) ?_)
  dsimp only
  refine wp_if_neg (by rw [sizeLine_eq]; omega) ?_
  try refine wpAny_bind (wpAny_pure ?_)
  rw [e]
  dsimp only
  refine wpAny_bind ?_
  refine wp_if_neg (by rw [hs2]; simp) ?_
  try refine wpAny_bind (wpAny_pure ?_)
  refine wpAny_pure ?_
  dsimp only
  refine wpAny_storeSet_of ho hd ?_ (by rw [hs2, sizeLine_eq]; omega)
  have sb : Heap.SameBut a s.heap (s.heap.update a (Obj.putSet (ord.filterMap (es[·]?)) t')) := Heap.SameBut.update ..
  refine q _ L2 (ord.filterMap (es[·]?)) (ep + 1) t' sb ⟨⟨_, store_at ho hd, ⟨hex.1, hex.2.1, hex.2.2⟩, rfl⟩, r1', T, (pm.map Prod.snd).nodup_iff.mpr nd, fun r hm => still (ks r (pm.mem_iff.mp hm)) ho hd sb, by rw [ep']; exact pl, by rw [el]; exact ld, by rw [pm.length_eq, em]; exact hr, by rw [pm.length_eq]; exact few⟩ pm
theorem ins_perm {α : Type} (L : List α) (p : Nat) (x : α) : (L.take p ++ x :: L.drop p).Perm (x :: L) := by
  have := @List.perm_middle α x (L.take p) (L.drop p)
  rwa [List.take_append_drop] at this
/-- one key more, or the same -/
theorem put (R : At M s.heap a L es ep t) {x : Addr} {k : κ} (hx : M.kd.is s.heap k x) (hok : M.ok k) (hu : M.kd.room A) (few : k ∉ L.map Prod.snd → L.length + 1 < 64) {Q : Bool → Shared → Prop}
    (q : ∀ b h' L' es' ep' t', Heap.SameBut a s.heap h' → At M h' a L' es' ep' t' → (k ∈ L.map Prod.snd → L' = L) → (k ∉ L.map Prod.snd → L'.Perm ((x, k) :: L)) → Q b { s with heap := h' }) : wpAny (model P w) A (setAddHashed a (.ref x) (M.kd.hash k)) Q E s := by
  obtain ⟨o, ho, hex, hd⟩ := R.obj
  have n0 := cells_len R.cells
  have rm := R.room
  unfold setAddHashed
  refine wpAny_holding ?_
  rw [show (100000 : Nat) = 99999 + 1 from rfl, setAddHashedIn_succ]
  refine wpAny_bind (wpAny_setState_of ho hd R.fits ?_)
  dsimp only
  refine wp_if_neg (by simp [byScan, Value.scannable]) ?_
  try refine wpAny_bind (wpAny_pure ?_)
  refine wpAny_bind (look R hx hu (fun m => ⟨fun _ => ?_, (fun z => nomatch z)⟩) fun K m hK hb => ?_)
  · dsimp only
    exact wpAny_pure (q false s.heap L es ep t (Heap.SameBut.refl a s.heap) R (fun _ => rfl) fun z => absurd m z)
  · have few := few m
    dsimp only
    refine wpAny_bind (wpAny_setState_of ho hd R.fits ?_)
    dsimp only
    obtain ⟨q1, q2, q3, q4, q5, q6, q7, q8, q9⟩ := R.tab.put hK hb
    have pl1 : (t.put (way t.mask (M.kd.hash k) K)).1.plain = true := by rw [q6]; exact R.plain
    generalize ept : t.put (way t.mask (M.kd.hash k) K) = pt at q1 q3 q4 q5 q6 q7 q8 q9 pl1 ⊢
    obtain ⟨t1, j⟩ := pt
    dsimp only at q1 q3 q4 q5 q6 q7 q8 q9 pl1 ⊢
    subst q1
    first
      | (refine wpAny_bind ?_; refine wp_if_pos pl1 ?_; refine M.byv hok hx ?_)
      | refine wp_if_pos pl1 (wpAny_bind (M.byv hok hx ?_))
    simp only [if_true]
    have c1 : (SetTable.insertAt es (SetTable.below t.place (way t.mask (M.kd.hash k) K)) (M.kd.hash k, Value.ref x)).toList = (L.take (SetTable.below t.place (way t.mask (M.kd.hash k) K)) ++ (x, k) :: L.drop (SetTable.below t.place (way t.mask (M.kd.hash k) K))).map (cellOf M) := by
      rw [SetTable.toList_insertAt, R.cells, List.map_append, List.map_cons, List.map_take, List.map_drop]
    generalize SetTable.below t.place (way t.mask (M.kd.hash k) K) = j at q2 q3 c1 ⊢
    have pm := ins_perm L j (x, k)
    have ln : (L.take j ++ (x, k) :: L.drop j).length = L.length + 1 := pm.length_eq
    have hh : (L.take j ++ (x, k) :: L.drop j).map (hsh M) = (L.map (hsh M)).take j ++ M.kd.hash k :: (L.map (hsh M)).drop j := by rw [List.map_append, List.map_cons, List.map_take, List.map_drop]
    rw [← hh] at q3
    have nd1 : ((L.take j ++ (x, k) :: L.drop j).map Prod.snd).Nodup := by
      rw [(pm.map Prod.snd).nodup_iff, List.map_cons]
      exact List.nodup_cons.mpr ⟨m, R.nd⟩
    generalize SetTable.insertAt es j (M.kd.hash k, Value.ref x) = es1 at c1 ⊢
    generalize L.take j ++ (x, k) :: L.drop j = L1 at pm ln q3 nd1 c1
    have n1 := cells_len c1
    refine wpAny_bind (wpAny_storeSet_of ho hd ?_ (by rw [n1, ln, sizeLine_eq]; omega))
    have sb : Heap.SameBut a s.heap (s.heap.update a (Obj.putSet es1 t1)) := Heap.SameBut.update ..
    have ho1 := store_at (es' := es1) (t' := t1) ho hd
    generalize s.heap.update a (Obj.putSet es1 t1) = h1 at sb ho1 ⊢
    have ks1 : ∀ r ∈ L1, M.kd.is h1 r.2 r.1 := fun r hr => by
      rcases List.mem_cons.mp (pm.mem_iff.mp hr) with e | hr
      · rw [e]; exact still hx ho hd sb
      · exact still (R.keys r hr) ho hd sb
    have ld1 : w.params.followText "set-order" = true ∨ t1.led = true := by rw [q5]; exact R.led
    have fill1 : t1.fill = L.length + 1 := by rw [q9, List.length_map]
    by_cases hf : t1.tooFull = true
    · first
        | (refine wpAny_bind ?_; refine wp_if_pos (by simp [hf]) ?_)
        | (refine wp_if_pos (by simp [hf]) ?_; refine wpAny_bind ?_)
      have full : (L.length + 1) * 5 ≥ t1.mask * 3 := by
        have h := hf
        unfold SetTable.tooFull at h
        rw [decide_eq_true_eq, fill1] at h
        exact h
      rw [n0]
      have sz1 : t1.place.size = es1.size := by
        have h := q3.sz
        rw [List.length_map] at h
        rw [h, n1]
      have big : ∃ m, SetTable.sizeAbove (SetTable.grown (L.length + 1)) - 1 = m ∧ MaskOk m ∧ SetTable.sizeAbove (SetTable.grown (L.length + 1)) ≤ 128 ∧ (L.length + 1) * 5 < m * 3 ∧ L.length + 1 ≤ t1.mask := by
        rcases R.tab.mok with e | e | e
        · have : L.length = 4 := by rw [q4, e] at full; rw [e] at rm; omega
          rw [this, q4, e]
          exact ⟨31, by rw [size_20], .inr (.inl rfl), by rw [size_20]; decide, by decide, by decide⟩
        · have : L.length = 18 := by rw [q4, e] at full; rw [e] at rm; omega
          rw [this, q4, e]
          exact ⟨127, by rw [size_76], .inr (.inr rfl), by rw [size_76]; decide, by decide, by decide⟩
        · rw [q4, e] at full
          omega
      obtain ⟨m', b1, b2, b3, b4, b5⟩ := big
      refine grow (s := { s with heap := h1 }) ho1 ⟨hex.1, hex.2.1, hex.2.2⟩ rfl c1 sz1 q3.dm (by rw [n1, ln]; exact b5) nd1 ks1 pl1 ld1 (by rw [ln]; exact few) b1 b2 b3 (by rw [ln]; exact b4) fun h2 L2 es2 ep2 t2 sb2 R2 pm2 => ?_
      exact wpAny_pure (q true h2 L2 es2 ep2 t2 (sb.trans sb2) R2 (fun z => absurd z m) fun _ => pm2.trans pm)
    · first
        | refine wp_if_neg (by simp [hf]) ?_
        | (refine wpAny_bind ?_; refine wp_if_neg (by simp [hf]) ?_; refine wpAny_pure ?_)
      refine wpAny_pure (q true h1 L1 es1 (ep + 1) t1 sb ⟨⟨_, ho1, ⟨hex.1, hex.2.1, hex.2.2⟩, rfl⟩, c1, q3, nd1, ks1, pl1, ld1, ?_, by rw [ln]; exact few⟩ (fun z => absurd z m) fun _ => pm)
      have h := hf
      unfold SetTable.tooFull at h
      rw [decide_eq_true_eq, fill1] at h
      rw [ln]
      omega
end
end Rz.Sx
namespace Rz.Sx
open PySem PySem.Spec PyProof.Rows L2
section
variable {P : Program} {w : World} {κ : Type} [DecidableEq κ] {M : Mk P w κ} {A : Around} {E : Value → Shared → Prop} {s : Shared} {a : Addr} {L : List (Addr × κ)} {es : Array (Int × Value)} {ep : Nat} {t : SetTable}
theorem At.go {h h' : Heap} (R : At M h a L es ep t) (k : ∀ c o, h.get? c = some o → h'.get? c = some o) : At M h' a L es ep t :=
  ⟨let ⟨o, ho, r⟩ := R.obj; ⟨o, k a o ho, r⟩, R.cells, R.tab, R.nd, fun r m => kept (R.keys r m) k, R.plain, R.led, R.room, R.few⟩
/-- what a set has of the first i rows -/
structure Has (rs : List (Addr × κ)) (i : Nat) (L : List (Addr × κ)) : Prop where
  sub : ∀ r ∈ L, r ∈ rs.take i
  all : ∀ r ∈ rs.take i, r.2 ∈ L.map Prod.snd
  len : L.length ≤ i
theorem Has.next {rs L L' : List (Addr × κ)} {i : Nat} {r : Addr × κ} (g : Has rs i L) (h : rs[i]? = some r) (c : (r.2 ∈ L.map Prod.snd ∧ L' = L) ∨ L'.Perm (r :: L)) : Has rs (i + 1) L' := by
  have e : rs.take (i + 1) = rs.take i ++ [r] := by rw [List.take_succ, h]; rfl
  rcases c with ⟨m, rfl⟩ | pm
  · refine ⟨fun q hq => by rw [e]; exact List.mem_append_left _ (g.sub q hq), fun q hq => ?_, Nat.le_succ_of_le g.len⟩
    rw [e] at hq
    rcases List.mem_append.mp hq with z | z
    · exact g.all q z
    · rw [List.mem_singleton.mp z]; exact m
  · refine ⟨fun q hq => ?_, fun q hq => ?_, by rw [pm.length_eq]; exact Nat.succ_le_succ g.len⟩
    · rw [e]
      rcases List.mem_cons.mp (pm.mem_iff.mp hq) with z | z
      · rw [z]; simp
      · exact List.mem_append_left _ (g.sub q z)
    · rw [(pm.map Prod.snd).mem_iff, List.map_cons]
      rw [e] at hq
      rcases List.mem_append.mp hq with z | z
      · exact List.mem_cons_of_mem _ (g.all q z)
      · rw [List.mem_singleton.mp z]; exact List.mem_cons_self
theorem empty_at {h : Heap} (ho : h.get? a = some { cls := .type "set", dict := none, data := .set #[] 0 (.fresh 0 0 (!w.params.followText "set-order")) }) : At M h a [] #[] 0 (.fresh 0 0 (!w.params.followText "set-order")) := by
  refine ⟨⟨_, ho, ⟨rfl, rfl, rfl⟩, rfl⟩, rfl, ⟨List.Pairwise.nil, rfl, rfl, .inl rfl, (fun x hx => by cases hx), fun i h j hi => by simp at hi⟩, List.nodup_nil, (fun r hr => by cases hr), rfl, ?_, (by show 0 * 5 < 7 * 3; decide), (by show 0 < 64; decide)⟩
  show _ ∨ (!w.params.followText "set-order") = true
  cases w.params.followText "set-order"
  · exact .inr rfl
  · exact .inl rfl
/-- the walk that fills a set -/
theorem fill {I : Addr} {fp wr : List Addr} {G : Array GenState → Array GenState → Prop} {n : Nat} {Pv : Nat → Value → Prop} {St : Nat → Shared → Prop} {R : Result → Shared → Prop} (W : WalksS P w A.in1 I fp wr G n Pv St) (S : Addr) (hS : S ∉ fp) (rs : List (Addr × κ)) (hn : n = rs.length) (few : ∀ L : List (Addr × κ), (∀ q ∈ L, q ∈ rs) → (L.map Prod.snd).Nodup → L.length < 64)
    (hv : ∀ i v, Pv i v → ∃ r, rs[i]? = some r ∧ v = .ref r.1) (h0 : Heap) (hk : ∀ r ∈ rs, M.kd.is h0 r.2 r.1) (ok : ∀ r ∈ rs, M.ok r.2) (nS : h0.get? S = none) (nw : ∀ b ∈ wr, h0.get? b = none) (hu : M.kd.room A.in1) (m : Nat) :
    ∀ (i : Nat) (s : Shared), n - i = m → i ≤ n → St i s → (∀ b o, h0.get? b = some o → s.heap.get? b = some o) → (∃ L es ep t, At M s.heap S L es ep t ∧ Has rs i L) →
      (∀ s' L es ep t, Moved (S :: wr) G s s' → At M s'.heap S L es ep t → Has rs n L → (∀ b o, h0.get? b = some o → s'.heap.get? b = some o) → R (.ok (.ret .none)) s') → codeAny (model P w) A (.builtin "set.update.loop" ⟨[.ref S, .ref I], []⟩) R s := by
  have nSw : S ∉ wr := fun h => hS (W.sub _ h)
  have up : ∀ b ∈ wr, b ∈ S :: wr := fun b hb => List.mem_cons_of_mem _ hb
  have stays : ∀ {s s' : Shared}, Moved wr G s s' → (∀ b o, h0.get? b = some o → s.heap.get? b = some o) → ∀ b o, h0.get? b = some o → s'.heap.get? b = some o := fun hm k b o e => hm.heap b o (fun z => by rw [nw b z] at e; cases e) (k b o e)
  have rowS : ∀ {s s' : Shared} {L : List (Addr × κ)} {es ep t i}, Moved wr G s s' → (∀ b o, h0.get? b = some o → s.heap.get? b = some o) → Has rs i L → At M s.heap S L es ep t → At M s'.heap S L es ep t := fun {s s' L es ep t i} hm k g R => by
    obtain ⟨o, ho, r⟩ := R.obj
    exact ⟨⟨o, hm.heap S o nSw ho, r⟩, R.cells, R.tab, R.nd, fun r hr => kept (hk r (List.mem_of_mem_take (g.sub r hr))) (stays hm k), R.plain, R.led, R.room, R.few⟩
  induction m with
  | zero =>
    rintro i s e hi st k ⟨L, es, ep, t, R0, g⟩ fin
    obtain rfl : i = n := by omega
    refine codeAny_builtin F.entry_set_update_loop ?_
    rw [Around.under_plainId F.plain_set_update_loop _]
    refine wpAny_bind (W.done s _ _ st fun s' hm => ?_)
    exact wpAny_pure (fin s' L es ep t (hm.mono up) (rowS hm k g R0) g (stays hm k))
  | succ m ih =>
    rintro i s e hi st k ⟨L, es, ep, t, R0, g⟩ fin
    have lt : i < n := by omega
    refine codeAny_builtin F.entry_set_update_loop ?_
    rw [Around.under_plainId F.plain_set_update_loop _]
    refine wpAny_bind (W.item i s _ _ lt st fun v s' pv st' hm => ?_)
    obtain ⟨r, hr, rfl⟩ := hv i v pv
    have rm := List.mem_of_getElem? hr
    have k' := stays hm k
    have R1 := rowS hm k g R0
    have K1 := kept (hk r rm) k'
    show wpAny _ A.in1 (holding [Value.ref r.1] (setAdd S (.ref r.1)) >>= _) _ _ s'
    refine wpAny_bind (wpAny_holding ?_)
    unfold setAdd
    refine wpAny_holding (wpAny_bind (M.kd.pyHash hu (kept (hk r rm) k') ?_))
    refine put (s := { s' with toks := s'.toks + M.kd.draws r.2 }) R1 K1 (ok r rm) hu (fun nk => few (r :: L) (fun q hq => by
      rcases List.mem_cons.mp hq with z | z
      · rw [z]; exact rm
      · exact List.mem_of_mem_take (g.sub q z)) (by rw [List.map_cons]; exact List.nodup_cons.mpr ⟨nk, R1.nd⟩)) fun b h' L' es' ep' t' sb R2 c1 c2 => ?_
    have g' : Has rs (i + 1) L' := g.next hr (by
      rcases Classical.em (r.2 ∈ L.map Prod.snd) with c | c
      · exact .inl ⟨c, c1 c⟩
      · exact .inr (c2 c))
    refine wpAny_pure ⟨plainId_quiet F.plain_set_update_loop _, ih (i + 1) _ (by omega) lt (W.frame _ s' _ _ st' (Nat.le_add_right _ _) fun b hb o e => ?_) (fun b o e => (sb.2 b (fun z => by rw [z, nS] at e; cases e)).trans (k' b o e)) ⟨L', es', ep', t', R2, g'⟩ fun s'' L2 es2 ep2 t2 hm2 R3 g2 k2 => ?_⟩
    · rw [sb.2 b fun z => hS (by rw [← z]; exact hb)]
      exact e
    · refine fin s'' L2 es2 ep2 t2 (Moved.trans W.gtrans ((hm.mono up).then_heap (Nat.le_add_right _ _) fun b o hb e => ?_) hm2) R3 g2 k2
      rw [sb.2 b fun z => hb (by rw [z]; exact List.mem_cons_self)]
      exact e
set_option maxHeartbeats 6400000 in
/-- set(xs) -/
theorem of_list {l : Addr} {its : Array Value} (rs : List (Addr × κ)) {Q : Value → Shared → Prop} (hh : A.handled = none) (hl : s.heap.IsList l its) (hi : its.toList = rs.map fun r => Value.ref r.1) (hk : ∀ r ∈ rs, M.kd.is s.heap r.2 r.1) (ok : ∀ r ∈ rs, M.ok r.2) (few : ∀ L : List (Addr × κ), (∀ q ∈ L, q ∈ rs) → (L.map Prod.snd).Nodup → L.length < 64)
    (room : ∀ B : Around, B.units ≤ A.units + 3 → M.kd.room B)
    (q : ∀ (h' : Heap) (tk : Nat) L es ep t, At M h' s.heap.objs.size L es ep t → Has rs rs.length L → (∀ b o, s.heap.get? b = some o → h'.get? b = some o) → Q (.ref s.heap.objs.size) { s with heap := h', toks := tk }) : wpAny (model P w) A (call (.type "set") [.ref l]) Q E s := by
  have isz : its.size = rs.length := by
    have := congrArg List.length hi
    simpa using this
  obtain ⟨c, tl, hmro⟩ := F.called_set.mro
  have hmade := F.called_set.made
  have hsub := F.called_set.sub
  refine wpAny_call (codeAny_of_tree ?_)
  show wpAny _ _ (callAny (.type "set") _) _ _ _
  refine wpAny_pure ⟨Code.quiet_builtin _ (by decide +kernel), codeAny_builtin F.entry_type_call ?_⟩
  rw [Around.under_plain (weight_type_call_type "set" [.ref l] []) rfl]
  have h1 := F.called_set.notType
  have h2 := F.called_set.canCreate
  have hct := F.typeCall_set_1 (.ref l)
  repeat (any_goals (first | assumption | wp_step))
  refine codeAny_mono (code_set_led1 (.ref l) (E := E) (Q₁ := fun obj s₁ => obj = .ref s.heap.objs.size ∧ s₁ = { s with heap := s.heap.push { cls := .type "set", dict := none, data := .set #[] 0 (.fresh 0 0 (!w.params.followText "set-order")) } }) ⟨rfl, rfl⟩) fun r s₁ hr => ?_
  cases r with
  | error er => exact hr
  | ok fl =>
    cases fl with
    | ret obj =>
        obtain ⟨rfl, rfl⟩ := hr
        have hS : (s.heap.push { cls := .type "set", dict := none, data := .set #[] 0 (.fresh 0 0 (!w.params.followText "set-order")) }).get? s.heap.objs.size = some { cls := .type "set", dict := none, data := .set #[] 0 (.fresh 0 0 (!w.params.followText "set-order")) } := Heap.get?_push_size _ rfl
        have cS : ({ cls := .type "set", dict := none, data := .set #[] 0 (.fresh 0 0 (!w.params.followText "set-order")) } : Obj).cls = .type "set" := rfl
        have hT : Shared.TypeIs { s with heap := s.heap.push { cls := .type "set", dict := none, data := .set #[] 0 (.fresh 0 0 (!w.params.followText "set-order")) } } (.ref s.heap.objs.size) "set" := ⟨_, hS, cS⟩
        have hli := F.called_set.init.lookup
        have hbi := F.called_set.init.bind (.ref s.heap.objs.size)
        repeat (any_goals (first | assumption | wp_step))
        refine codeAny_mono (codeAny_call_builtin (R := wants (fun r s₂ => r = .none ∧ ∃ h' tk L es ep t, s₂ = { s with heap := h', toks := tk } ∧ At M h' s.heap.objs.size L es ep t ∧ Has rs rs.length L ∧ (∀ b o, s.heap.get? b = some o → h'.get? b = some o)) E) F.called_set.init.plain F.entry_set_init (check_set_init_1 hT ?_)) fun r₂ s₂ hr₂ => ?_
        · obtain ⟨⟨ocls, odict, odata, oslots⟩, hol, hcl, nl, hdl⟩ := hl
          simp only at hcl hdl
          subst hcl; subst hdl
          have hol' : (s.heap.push { cls := .type "set", dict := none, data := .set #[] 0 (.fresh 0 0 (!w.params.followText "set-order")) }).get? l = some { cls := .type "list", dict := odict, data := .seq its nl, slots := oslots } := Heap.get?_push_of_some _ hol
          have hsls := F.sub_list_set
          have hslf := F.sub_list_frozenset
          have hne : (Value.type "list" == Value.type "dict") = false := by decide
          have hl1 : (s.heap.push { cls := .type "set", dict := none, data := .set #[] 0 (.fresh 0 0 (!w.params.followText "set-order")) }).IsList l its := ⟨_, hol', rfl, nl, rfl⟩
          unfold Builtin.«set.__init__» noKeywords Builtin.Frozenset.updateFrom
          generalize ePI : pyIter = PI
          wp_walk
          subst ePI
          refine wpAny_pyIter_list hl1 ?_
          refine wpAny_bind (wpAny_runValue ?_)
          have lS : l < s.heap.objs.size := Heap.lt_size hol
          have pz : (s.heap.push { cls := .type "set", dict := none, data := .set #[] 0 (.fresh 0 0 (!w.params.followText "set-order")) }).objs.size = s.heap.objs.size + 1 := Heap.size_push ..
          have nI : l ≠ (s.heap.push { cls := .type "set", dict := none, data := .set #[] 0 (.fresh 0 0 (!w.params.followText "set-order")) }).objs.size := by rw [pz]; exact Nat.ne_of_lt (Nat.lt_succ_of_lt lS)
          have void : ∀ b, s.heap.objs.size ≤ b → s.heap.get? b = none := fun b hb => by
            cases z : s.heap.get? b with
            | none => rfl
            | some o => exact absurd (Heap.lt_size z) (Nat.not_lt.mpr hb)
          refine fill (M := M) ((Walks.list (by simp [hh]) _ l nI its).toS) s.heap.objs.size (by
              rw [pz]
              simp only [List.mem_cons, List.not_mem_nil, or_false, not_or]
              exact ⟨Nat.ne_of_lt (Nat.lt_succ_self _), Nat.ne_of_gt lS⟩) rs isz few (fun i v hv => ?_) s.heap hk ok (void _ (Nat.le_refl _)) (fun b hb => void b (by rw [List.mem_singleton.mp hb, pz]; exact Nat.le_succ _)) (room _ (by simp only [Around.in1_units]; omega)) (its.size - 0) 0 _ (by omega) (Nat.zero_le _)
            ⟨⟨_, Heap.get?_push_size _ rfl, rfl, rfl⟩, hl1.push _⟩ (fun b o e => Heap.get?_push_of_some _ (Heap.get?_push_of_some _ e)) ⟨[], #[], 0, _, empty_at (Heap.get?_push_of_some _ hS), ⟨fun r h => (by cases h), (fun r h => by simp at h), Nat.le_refl _⟩⟩ fun s' L es ep t hm R g k => ?_
          · have z : its.toList[i]? = some v := by rw [Array.getElem?_toList]; exact hv
            rw [hi, List.getElem?_map] at z
            cases y : rs[i]? with
            | none => rw [y] at z; cases z
            | some r => rw [y] at z; exact ⟨r, rfl, (Option.some.inj z).symm⟩
          · obtain ⟨h', g2, d', tk', os'⟩ := s'
            obtain rfl : g2 = s.gens := hm.gens
            obtain rfl : d' = s.drawn := hm.drawn
            obtain rfl : os' = s.os := hm.os
            rw [isz] at g
            exact wpAny_pure (wpAny_pure ⟨rfl, h', tk', L, es, ep, t, rfl, R, g, k⟩)
        · cases r₂ with
          | error er => exact hr₂
          | ok fl =>
            cases fl with
            | ret r =>
              obtain ⟨rfl, h', tk, L, es, ep, t, rfl, R, g, k⟩ := hr₂
              repeat (any_goals (first | assumption | wp_step))
              exact q _ _ _ _ _ _ R g k
            | _ => exact hr₂.elim
    | _ => exact hr.elim
end
end Rz.Sx
namespace Rz.Sx
open PySem PySem.Spec PyProof.Rows L2
mutual
/-- no text in it -/
def bare : NestedKey → Bool
  | .none => true
  | .num _ => true
  | .text _ => false
  | .tup ks => bareAll ks
def bareAll : List NestedKey → Bool
  | [] => true
  | k :: ks => bare k && bareAll ks
end
theorem bareAll_mem : ∀ {ks : List NestedKey}, bareAll ks = true → ∀ k ∈ ks, bare k = true
  | [], _, _, h => by cases h
  | k :: ks, e, k', h => by
    simp only [bareAll, Bool.and_eq_true] at e
    rcases List.mem_cons.mp h with z | z
    · rw [z]; exact e.1
    · exact bareAll_mem e.2 k' z
theorem all_at {h : Heap} : ∀ {ks : List NestedKey} {vs : List Value}, NestedAll h ks vs → ∀ v ∈ vs, ∃ k ∈ ks, NestedIs h k v
  | [], _, x, v, hv => by cases x; cases hv
  | k :: ks, _, x, v, hv => by
    cases x with
    | cons x1 x2 =>
      rcases List.mem_cons.mp hv with z | z
      · rw [z]; exact ⟨k, List.mem_cons_self, x1⟩
      · obtain ⟨k', m, y⟩ := all_at x2 v z
        exact ⟨k', List.mem_cons_of_mem _ m, y⟩
theorem depth_mem : ∀ {ks : List NestedKey} {k : NestedKey}, k ∈ ks → k.depth ≤ NestedKey.depthAll ks
  | k' :: ks, k, h => by
    simp only [NestedKey.depthAll]
    rcases List.mem_cons.mp h with z | z
    · rw [z]; omega
    · have := depth_mem z
      omega
section
variable {P : Program} {w : World}
/-- no class statement within, n levels down -/
theorem cls_key : ∀ (n : Nat) (k : NestedKey) (v : Value) {A : Around} {E : Value → Shared → Prop} {s : Shared} {Q : Bool → Shared → Prop}, NestedIs s.heap k v → k.depth ≤ n → Q false s → wpAny (model P w) A (ofAClassStatement n v) Q E s := by
  intro n
  induction n with
  | zero =>
    intro k v A E s Q x hn q
    cases x with
    | tup h1 h2 h3 h4 => simp [NestedKey.depth] at hn
    | _ => unfold ofAClassStatement; exact wpAny_pure q
  | succ n ih =>
    intro k v A E s Q x hn q
    cases x with
    | @tup a o vs m ks h1 h2 h3 h4 =>
      have hT : s.TypeIs (.ref a) "tuple" := ⟨o, h1, h2⟩
      unfold ofAClassStatement
      refine wpAny_bind (wpAny_typeOf hT ?_)
      dsimp only
      have e : (("tuple" : String) == "tuple") = true := by decide
      simp only [e, if_true, Bool.not_true, Bool.false_eq_true, if_false]
      try refine wpAny_bind (wpAny_pure ?_)
      try simp only [Bool.not_true, Bool.false_eq_true, if_false]
      show wpAny _ _ (seqItems? (.ref a) >>= _) _ _ s
      refine wpAny_bind (wpAny_seqItems h1 h3 ?_)
      dsimp only
      refine wpAny_bind ?_
      show wpAny _ _ (forIn vs _ _) _ _ s
      rw [← Array.forIn_toList]
      simp only [NestedKey.depth] at hn
      refine wpAny_forIn_list _ (fun rest r s' => s' = s ∧ r.1 = none ∧ ∀ v ∈ rest, ∃ k ∈ ks, NestedIs s.heap k v) _ ?_ ?_ _ _ ⟨rfl, rfl, all_at h4⟩
      · rintro v rest r s' ⟨rfl, hr, hall⟩
        obtain ⟨k', hk', y⟩ := hall v List.mem_cons_self
        refine wpAny_bind (ih k' v y (by have := depth_mem hk'; omega) ?_)
        simp only [Bool.false_eq_true, if_false]
        exact wpAny_pure ⟨rfl, rfl, fun u hu => hall u (List.mem_cons_of_mem _ hu)⟩
      · rintro ⟨r1, r2⟩ s' ⟨rfl, hr, _⟩
        simp only at hr
        subst hr
        exact wpAny_pure q
    | _ => unfold ofAClassStatement; exact wpAny_pure q
theorem byv_key : ∀ (n : Nat) (k : NestedKey) (v : Value) {A : Around} {E : Value → Shared → Prop} {s : Shared} {Q : Bool → Shared → Prop}, NestedIs s.heap k v → k.depth ≤ n → bare k = true → Q true s → wpAny (model P w) A (hashByValue n v) Q E s := by
  intro n
  induction n with
  | zero =>
    intro k v A E s Q x hn hb q
    cases x with
    | tup h1 h2 h3 h4 => simp [NestedKey.depth] at hn
    | text => cases hb
    | _ => unfold hashByValue; exact wpAny_pure q
  | succ n ih =>
    intro k v A E s Q x hn hb q
    cases x with
    | @tup a o vs m ks h1 h2 h3 h4 =>
      have hT : s.TypeIs (.ref a) "tuple" := ⟨o, h1, h2⟩
      unfold hashByValue
      refine wpAny_bind (wpAny_specialOf hT F.slot_tuple_hash.lookup ?_)
      show wpAny _ _ (seqItems? (.ref a) >>= _) _ _ s
      refine wpAny_bind (wpAny_seqItems h1 h3 ?_)
      refine wpAny_bind ?_
      show wpAny _ _ (forIn vs _ _) _ _ s
      rw [← Array.forIn_toList]
      simp only [NestedKey.depth] at hn
      simp only [bare] at hb
      refine wpAny_forIn_list _ (fun rest r s' => s' = s ∧ r.1 = none ∧ ∀ v ∈ rest, ∃ k ∈ ks, NestedIs s.heap k v) _ ?_ ?_ _ _ ⟨rfl, rfl, all_at h4⟩
      · rintro v rest r s' ⟨rfl, hr, hall⟩
        obtain ⟨k', hk', y⟩ := hall v List.mem_cons_self
        refine wpAny_bind (ih k' v y (by have := depth_mem hk'; omega) (bareAll_mem hb k' hk') ?_)
        simp only [Bool.not_true, Bool.false_eq_true, if_false]
        exact wpAny_pure ⟨rfl, rfl, fun u hu => hall u (List.mem_cons_of_mem _ hu)⟩
      · rintro ⟨r1, r2⟩ s' ⟨rfl, hr, _⟩
        simp only at hr
        subst hr
        exact wpAny_pure q
    | text => cases hb
    | _ => unfold hashByValue; exact wpAny_pure q
variable (P w)
/-- nested tuples without texts -/
def NM : Mk P w NestedKey where
  kd := nestedKind P w
  ok := fun k => bare k = true
  stay := fun x k => ⟨NestedIs.at k _ _ x.1, x.2⟩
  seq := fun x => by
    obtain ⟨x, _⟩ := x
    cases x with
    | tup h1 h2 h3 h4 => exact ⟨_, _, _, h1, h3⟩
  cls := fun x q => cls_key 8 _ _ x.1 x.2 q
  byv := fun b x q => byv_key 8 _ _ x.1 x.2 b q
end
/-! ### data as keys -/
mutual
/-- the key of data -/
def nk : PyData → NestedKey
  | .none => .none
  | .bool b => .num (if b = true then 1 else 0)
  | .int i => .num i
  | .str x => .text x
  | .list _ => .none
  | .tuple ds => .tup (nks ds)
  | .dict _ => .none
def nks : List PyData → List NestedKey
  | [] => []
  | d :: ds => nk d :: nks ds
end
mutual
/-- nothing but ints, bools, None and tuples of these -/
def numD : PyData → Bool
  | .none => true
  | .bool _ => true
  | .int _ => true
  | .tuple ds => numDs ds
  | _ => false
def numDs : List PyData → Bool
  | [] => true
  | d :: ds => numD d && numDs ds
end
mutual
theorem key_of {h : Heap} : ∀ (d : PyData) (v : Value) (as : List Addr), Reads h v d as → numD d = true → NestedIs h (nk d) v
  | .none, _, _, r, _ => by cases r; exact .none
  | .bool b, _, _, r, _ => by cases r; exact .bool rfl
  | .int i, _, _, r, _ => by cases r; exact .int _ _
  | .str _, _, _, _, e => by cases e
  | .list _, _, _, _, e => by cases e
  | .dict _, _, _, _, e => by cases e
  | .tuple ds, _, _, r, e => by
    cases r with
    | tuple h1 h2 h3 h4 => exact .tup h1 h2 h3 (keys_of ds _ _ h4 (by simpa [numD] using e))
theorem keys_of {h : Heap} : ∀ (ds : List PyData) (vs : List Value) (as : List Addr), ReadsAll h vs ds as → numDs ds = true → NestedAll h (nks ds) vs
  | [], _, _, r, _ => by cases r; exact .nil
  | d :: ds, _, _, r, e => by
    simp only [numDs, Bool.and_eq_true] at e
    cases r with
    | cons r1 r2 => exact .cons (key_of d _ _ r1 e.1) (keys_of ds _ _ r2 e.2)
end
mutual
theorem bare_of : ∀ d : PyData, numD d = true → bare (nk d) = true
  | .none, _ => rfl
  | .bool _, _ => rfl
  | .int _, _ => rfl
  | .str _, e => by cases e
  | .list _, e => by cases e
  | .dict _, e => by cases e
  | .tuple ds, e => by
    simp only [nk, bare]
    exact bares_of ds (by simpa [numD] using e)
theorem bares_of : ∀ ds : List PyData, numDs ds = true → bareAll (nks ds) = true
  | [], _ => rfl
  | d :: ds, e => by
    simp only [numDs, Bool.and_eq_true] at e
    simp only [nks, bareAll, bare_of d e.1, bares_of ds e.2, Bool.and_self]
end
mutual
theorem depth_of : ∀ d : PyData, (nk d).depth ≤ d.depth
  | .none => by simp [nk, NestedKey.depth]
  | .bool _ => by simp [nk, NestedKey.depth]
  | .int _ => by simp [nk, NestedKey.depth]
  | .str _ => by simp [nk, NestedKey.depth]
  | .list _ => by simp [nk, NestedKey.depth]
  | .dict _ => by simp [nk, NestedKey.depth]
  | .tuple ds => by
    have := depths_of ds
    simp only [nk, NestedKey.depth, PyData.depth]
    omega
theorem depths_of : ∀ ds : List PyData, NestedKey.depthAll (nks ds) ≤ PyData.depthAll ds
  | [] => by simp [nks, NestedKey.depthAll]
  | d :: ds => by
    have h1 := depth_of d
    have h2 := depths_of ds
    simp only [nks, NestedKey.depthAll, PyData.depthAll]
    omega
end
end Rz.Sx
namespace Rz.Sx
open PySem PySem.Spec PyProof.Rows L2 PySem.W
/-- as Python sorts data -/
abbrev dle {β : Type} (k : β → PyData) : β → β → Bool := dataLe false k
section
variable {X : Cx} {k : Nat}
theorem each_vals {β : Type} {f : β → V} : ∀ {bs : List β} {us : List Value}, Vals (bs.map f) us → EachIs (fun u b => RelV (f b) u) us bs
  | [], _, h => by cases h; exact .nil
  | b :: bs, _, h => by
    cases h with
    | cons r t => exact .cons r (each_vals t)
theorem vals_each {β : Type} {f : β → V} : ∀ {bs : List β} {us : List Value}, EachIs (fun u b => RelV (f b) u) us bs → Vals (bs.map f) us
  | [], _, h => by cases h; exact .nil
  | b :: bs, _, h => by
    cases h with
    | cons r t => exact .cons r (vals_each t)
theorem each_and {α β : Type} {R S : α → β → Prop} : ∀ {as : List α} {bs : List β}, EachIs R as bs → (∀ a b, b ∈ bs → R a b → S a b) → EachIs S as bs
  | _, _, .nil, _ => .nil
  | _, _, .cons h t, g => .cons (g _ _ List.mem_cons_self h) (each_and t fun a b m => g a b (List.mem_cons_of_mem _ m))
theorem each_map {α β γ : Type} {R : α → γ → Prop} (f : β → γ) : ∀ {as : List α} {bs : List β}, EachIs (fun a b => R a (f b)) as bs → EachIs R as (bs.map f)
  | _, _, .nil => .nil
  | _, _, .cons h t => .cons h (each_map f t)
/-- what is known of a list of data: its items' data -/
structure DList (K : PySem.W.Frag) (H : Hp) {β : Type} (bs : List β) (f : β → V) (d : β → PyData) : Prop where
  dp : ∀ b ∈ bs, Dp K H (f b) (d b)
  alike : AllAlike (bs.map d)
  sort : Sortable (bs.map d)
  deep : ∀ b ∈ bs, (d b).depth ≤ 100
def rSrt (K : PySem.W.Frag) : List V → Hp → VK → Prop := fun xs H Q => ∃ (β : Type) (a : Addr) (bs : List β) (f : β → V) (d : β → PyData), xs = [.ref a] ∧ SqL K H a (bs.map f) ∧ DList K H bs f d ∧ ∀ p, H p = none → Q (.ref p) (upd H p (.lst ((bs.mergeSort (dle d)).map f)))
theorem reads_all {β : Type} {bs : List β} {f : β → V} {d : β → PyData} {pins : List (Addr × Obj)} {σ : L2.St} {H : Hp} {s : Shared} {us : List Value} (I : Inv X pins σ H s) (D : ∀ b ∈ bs, Dp X.K H (f b) (d b)) (r : Vals (bs.map f) us) {h' : Heap} (kp : ∀ b o, s.heap.get? b = some o → h'.get? b = some o) :
    EachIs (fun v y => ∃ as, Reads h' v y as) us (bs.map d) :=
  each_map d (each_and (each_vals r) fun u b m rv => by
    obtain ⟨as, q⟩ := Dp.reads I (d b) (f b) u (D b m) rv
    exact ⟨as, Reads.keeps kp q⟩)
theorem cr_srt (hr : Room k X.A) : CallR X (.builtin "sorted") (rSrt X.K) := by
  intro pins s σ H vs us Q I rv h
  obtain ⟨β, a, bs, f, d, rfl, hs, D, q⟩ := h
  obtain ⟨u, rfl, ru⟩ := Vals.one rv
  obtain rfl : u = Value.ref a := ru
  obtain ⟨its, rl, pl, hz⟩ := I.list hs
  have kp : ∀ b o, s.heap.get? b = some o → (sortingHeap (copyHeap s.heap its) (s.heap.objs.size + 1) its).get? b = some o := fun b o e => sorting_copy_old e
  have rd := reads_all I D.dp rl kp
  have un := hr.un
  refine sorted_vals pl.isList (SortsAt.data (s := { s with heap := sortingHeap (copyHeap s.heap its) (s.heap.objs.size + 1) its }) rd D.alike D.sort fun y hy => ?_) (by rw [← rl.length]; exact hz) ?_
  · obtain ⟨b, hb, rfl⟩ := List.mem_map.mp hy
    have := D.deep b hb
    simp only [Around.in1_units]
    omega
  · have ko : KeyedOut false (bs.map d) its (sortVals (dataKind (sortingHeap (copyHeap s.heap its) (s.heap.objs.size + 1) its) (bs.map d)) false its its) := ⟨_, its, D.alike, rfl, rd⟩
    have out := vals_each (keyedOut_each (R := fun u b => RelV (f b) u) d ko (each_vals rl))
    generalize sortVals (dataKind (sortingHeap (copyHeap s.heap its) (s.heap.objs.size + 1) its) (bs.map d)) false its its = ws at out ⊢
    obtain ⟨n, hn⟩ := sortedAll_at s.heap its ws.toArray
    have sz : s.heap.objs.size ≤ s.heap.objs.size + 1 := Nat.le_succ _
    refine ⟨.ref (s.heap.objs.size + 1), upd H (s.heap.objs.size + 1) (.lst ((bs.mergeSort (dle d)).map f)), I.laid (t' := s.toks) (fun b o e => sortedAll_old e) sz ⟨?_, ws, n, out, hn⟩, rfl, q _ (I.hok.fresh sz)⟩
    rw [List.length_map, List.length_mergeSort, ← List.length_map (f := f)]
    exact hz
/-! ### set(xs) of data, its length, its sorted list -/
/-- the set's object, without its members -/
def SetN (P : Program) (w : World) (a : Addr) (L : List (Addr × NestedKey)) : HO := .ext fun h => ∃ (es : Array (Int × Value)) (ep : Nat) (t : SetTable), (∃ o, h.get? a = some o ∧ o.ExactSet ∧ o.data = .set es ep t) ∧ es.toList = L.map (cellOf (NM P w)) ∧ TabOk t (L.map (hsh (NM P w))) ∧ (L.map Prod.snd).Nodup ∧ t.plain = true ∧
  (w.params.followText "set-order" = true ∨ t.led = true) ∧ L.length * 5 < t.mask * 3 ∧ L.length < 64
theorem setN_of {P : Program} {w : World} {H : Hp} {h : Heap} {a : Addr} {L : List (Addr × NestedKey)} {es : Array (Int × Value)} {ep : Nat} {t : SetTable} (R : At (NM P w) h a L es ep t) : ObjOk P w H h a (SetN P w a L) := by
  obtain ⟨o, ho, r⟩ := R.obj
  exact ⟨⟨es, ep, t, R.obj, R.cells, R.tab, R.nd, R.plain, R.led, R.room, R.few⟩, ⟨o, ho⟩, fun h1 h2 ⟨es', ep', t', ⟨o', ho', r'⟩, q'⟩ k => ⟨es', ep', t', ⟨o', k o' ho', r'⟩, q'⟩⟩
theorem setN_at {pins : List (Addr × Obj)} {σ : L2.St} {H : Hp} {s : Shared} {a : Addr} {L : List (Addr × NestedKey)} (I : Inv X pins σ H s) (h : H a = some (SetN X.prog X.w a L)) (ks : ∀ r ∈ L, (NM X.prog X.w).kd.is s.heap r.2 r.1) : ∃ es ep t, At (NM X.prog X.w) s.heap a L es ep t := by
  obtain ⟨⟨es, ep, t, h1, h2, h3, h4, h5, h6, h7, h8⟩, _, _⟩ := I.hok a _ h
  exact ⟨es, ep, t, h1, h2, h3, h4, ks, h5, h6, h7, h8⟩
/-- data that may be in a set -/
structure KList (K : PySem.W.Frag) (H : Hp) {β : Type} (bs : List β) (f : β → Addr) (d : β → PyData) : Prop where
  dp : ∀ b ∈ bs, Dp K H (.ref (f b)) (d b)
  num : ∀ b ∈ bs, numD (d b) = true
  deep : ∀ b ∈ bs, (d b).depth ≤ 8
theorem key_at {β : Type} {bs : List β} {f : β → Addr} {d : β → PyData} {pins : List (Addr × Obj)} {σ : L2.St} {H : Hp} {s : Shared} (I : Inv X pins σ H s) (D : KList X.K H bs f d) {b : β} (m : b ∈ bs) : (NM X.prog X.w).kd.is s.heap (nk (d b)) (f b) := by
  obtain ⟨as, r⟩ := Dp.reads I (d b) (.ref (f b)) (.ref (f b)) (D.dp b m) rfl
  exact ⟨key_of _ _ _ r (D.num b m), Nat.le_trans (depth_of _) (D.deep b m)⟩
theorem cells_of {β : Type} {bs : List β} {f : β → Addr} {d : β → PyData} : ∀ L : List (Addr × NestedKey), (∀ r ∈ L, r ∈ bs.map fun b => (f b, nk (d b))) → ∃ cs : List β, L = cs.map (fun b => (f b, nk (d b))) ∧ ∀ c ∈ cs, c ∈ bs := fun L => by
  induction L with
  | nil => intro _; exact ⟨[], rfl, fun c h => by cases h⟩
  | cons r L ih =>
    intro h
    obtain ⟨b, hb, rfl⟩ := List.mem_map.mp (h r List.mem_cons_self)
    obtain ⟨cs, rfl, hc⟩ := ih fun r hr => h r (List.mem_cons_of_mem _ hr)
    exact ⟨b :: cs, rfl, fun c m => by
      rcases List.mem_cons.mp m with z | z
      · rw [z]; exact hb
      · exact hc c z⟩
def rSet (K : PySem.W.Frag) (P : Program) (w : World) : List V → Hp → VK → Prop := fun xs H Q => ∃ (β : Type) (a : Addr) (bs : List β) (f : β → Addr) (d : β → PyData), xs = [.ref a] ∧ SqL K H a (bs.map fun b => V.ref (f b)) ∧ KList K H bs f d ∧ (∀ cs : List β, (∀ c ∈ cs, c ∈ bs) → (cs.map fun b => nk (d b)).Nodup → cs.length < 64) ∧
  ∀ (p : Addr) (cs : List β), H p = none → (∀ c ∈ cs, c ∈ bs) → (cs.map fun b => nk (d b)).Nodup → (∀ b ∈ bs, nk (d b) ∈ cs.map fun b => nk (d b)) → Q (.ref p) (upd H p (SetN P w p (cs.map fun b => (f b, nk (d b)))))
theorem cr_set (hr : Room k X.A) (hc : X.calm = true) : CallR X (.type "set") (rSet X.K X.prog X.w) := by
  intro pins s σ H vs us Q I rv h
  obtain ⟨β, a, bs, f, d, rfl, hs, D, few, q⟩ := h
  obtain ⟨u, rfl, ru⟩ := Vals.one rv
  obtain rfl : u = Value.ref a := ru
  obtain ⟨its, rl, pl, hz⟩ := I.list hs
  have un := hr.un
  have e : its = (bs.map fun b => (f b, nk (d b))).map fun r => Value.ref r.1 := by
    have : ∀ {bs : List β} {us : List Value}, Vals (bs.map fun b => V.ref (f b)) us → us = (bs.map fun b => (f b, nk (d b))).map fun r => Value.ref r.1 := fun {bs} => by
      induction bs with
      | nil => intro us r; cases r; rfl
      | cons b bs ih =>
        intro us r
        cases r with
        | cons r1 r2 => rw [ih r2]; cases r1; rfl
    exact this rl
  refine of_list (M := NM X.prog X.w) (bs.map fun b => (f b, nk (d b))) (I.ok.hd hc) pl.isList (by simpa using e) (fun r hr => ?_) (fun r hr => ?_) (fun L hL nd => by
    obtain ⟨cs, rfl, hcs⟩ := cells_of L hL
    rw [List.map_map] at nd
    rw [List.length_map]
    exact few cs hcs nd) (fun B hB => by show B.units + 8 < cLine; omega) fun h' tk L es ep t R g kp => ?_
  · obtain ⟨b, hb, rfl⟩ := List.mem_map.mp hr
    exact key_at I D hb
  · obtain ⟨b, hb, rfl⟩ := List.mem_map.mp hr
    exact bare_of _ (D.num b hb)
  · obtain ⟨cs, rfl, hcs⟩ : ∃ cs : List β, L = cs.map (fun b => (f b, nk (d b))) ∧ ∀ c ∈ cs, c ∈ bs := by
      have : ∀ L : List (Addr × NestedKey), (∀ r ∈ L, r ∈ bs.map fun b => (f b, nk (d b))) → ∃ cs : List β, L = cs.map (fun b => (f b, nk (d b))) ∧ ∀ c ∈ cs, c ∈ bs := fun L => by
        induction L with
        | nil => intro _; exact ⟨[], rfl, fun c h => by cases h⟩
        | cons r L ih =>
          intro h
          obtain ⟨b, hb, rfl⟩ := List.mem_map.mp (h r List.mem_cons_self)
          obtain ⟨cs, rfl, hcs⟩ := ih fun r' m => h r' (List.mem_cons_of_mem _ m)
          exact ⟨b :: cs, rfl, fun c hc => (List.mem_cons.mp hc).elim (fun z => by rw [z]; exact hb) (hcs c)⟩
      exact this L fun r m => List.mem_of_mem_take (g.sub r m)
    refine ⟨.ref s.heap.objs.size, upd H s.heap.objs.size (SetN X.prog X.w s.heap.objs.size (cs.map fun b => (f b, nk (d b)))), I.laid (t' := tk) kp (Nat.le_refl _) (setN_of R), rfl, q _ cs (I.hok.fresh (Nat.le_refl _)) hcs ?_ fun b hb => ?_⟩
    · have := R.nd
      rwa [List.map_map] at this
    · have := g.all (f b, nk (d b)) (by rw [List.take_length]; exact List.mem_map.mpr ⟨b, hb, rfl⟩)
      rwa [List.map_map] at this
def rLenSet (P : Program) (w : World) : List V → Hp → VK → Prop := fun xs H Q => ∃ a L, xs = [.ref a] ∧ H a = some (SetN P w a L) ∧ Q (.int L.length) H
theorem cr_lenSet : CallR X (.builtin "len") (rLenSet X.prog X.w) := by
  intro pins s σ H vs us Q I rv h
  obtain ⟨a, L, rfl, ha, q⟩ := h
  obtain ⟨u, rfl, ru⟩ := Vals.one rv
  obtain rfl : u = Value.ref a := ru
  obtain ⟨⟨es, ep, t, ⟨o, ho, hex, hd⟩, h2, h3, h4, h5, h6, h7, h8⟩, _, _⟩ := I.hok a _ ha
  have n1 := cells_len h2
  have fits : t.fits es.size = true := by
    have h1 := h3.sz
    rw [List.length_map] at h1
    unfold SetTable.fits SetTable.fill
    simp only [h3.dm, Bool.and_eq_true, beq_iff_eq, decide_eq_true_eq, Array.size_empty]
    omega
  refine call_len_set ho hex hd fits (by omega) ⟨.int L.length, H, I.tok _, ⟨_, by rw [n1]⟩, q⟩
end
end Rz.Sx
namespace Rz.Sx
open PySem PySem.Spec PyProof.Rows L2 PySem.W
section
variable {X : Cx} {k : Nat}
theorem map_perm_ex {α γ : Type} (g : α → γ) : ∀ (l : List γ) (cs : List α), l.Perm (cs.map g) → ∃ ds : List α, ds.Perm cs ∧ l = ds.map g := by
  intro l cs p
  generalize e : cs.map g = m at p
  induction p generalizing cs with
  | nil =>
    obtain rfl : cs = [] := by simpa using e
    exact ⟨[], .nil, rfl⟩
  | @cons x l m p ih =>
    cases cs with
    | nil => cases e
    | cons c cs =>
      simp only [List.map_cons, List.cons.injEq] at e
      obtain ⟨ds, q, rfl⟩ := ih cs e.2
      exact ⟨c :: ds, q.cons c, by rw [List.map_cons, e.1]⟩
  | @swap x y l =>
    match cs, e with
    | c :: c' :: cs, e =>
      simp only [List.map_cons, List.cons.injEq] at e
      exact ⟨c' :: c :: cs, .swap _ _ _, by rw [List.map_cons, List.map_cons, e.1, e.2.1, e.2.2]⟩
  | @trans l m n p q ih1 ih2 =>
    obtain ⟨ds, q1, e1⟩ := ih2 cs e
    obtain ⟨ds', q2, e2⟩ := ih1 ds e1.symm
    exact ⟨ds', q2.trans q1, e2⟩
/-- sorted(s), s a set of data -/
def rSrtSet (K : PySem.W.Frag) (P : Program) (w : World) : List V → Hp → VK → Prop := fun xs H Q => ∃ (β : Type) (a : Addr) (cs : List β) (f : β → Addr) (d : β → PyData), xs = [.ref a] ∧ H a = some (SetN P w a (cs.map fun b => (f b, nk (d b)))) ∧ KList K H cs f d ∧ AllAlike (cs.map d) ∧ Sortable (cs.map d) ∧
  ∀ (p : Addr) (es : List β), H p = none → es.Perm cs → Q (.ref p) (upd H p (.lst ((es.mergeSort (dle d)).map fun b => V.ref (f b))))
theorem cr_srtSet (hr : Room k X.A) (hc : X.calm = true) : CallR X (.builtin "sorted") (rSrtSet X.K X.prog X.w) := by
  intro pins s σ H vs us Q I rv h
  obtain ⟨β, a, cs, f, d, rfl, ha, D, al, so, q⟩ := h
  obtain ⟨u, rfl, ru⟩ := Vals.one rv
  obtain rfl : u = Value.ref a := ru
  have un := hr.un
  have hh := I.ok.hd hc
  obtain ⟨es, ep, t, R⟩ := setN_at I ha fun r hr => by
    obtain ⟨b, hb, rfl⟩ := List.mem_map.mp hr
    exact key_at I D hb
  have fits := R.fits
  have n1 := cells_len R.cells
  have few := R.few
  obtain ⟨o, ho, hex, hd⟩ := R.obj
  refine Calls.call_function_entry kind_sorted plain_sorted entry_sorted (args_sorted1 _) ?_
  unfold Builtin.«sorted»
  refine wpAny_bind (m := checkCount "sorted" 1 1 _) (wpAny_pure ?_)
  refine wpAny_bind (collect_set (A := X.A.in1) hh ⟨o, ho, hex.1, hd⟩ fits (by unfold scanBound; omega) R.tab.ris R.led fun s1 vs k1 hz g1 o1 pm => ?_)
  have e0 : es.toList.map (·.2) = (cs.map fun b => Value.ref (f b)) := by
    rw [R.cells, List.map_map, List.map_map]
    rfl
  rw [e0] at pm
  obtain ⟨es', pe, rfl⟩ := map_perm_ex _ _ _ pm
  have lv : (es'.map fun b => Value.ref (f b)).length ≤ sizeLine := by
    have := pe.length_eq
    rw [List.length_map, sizeLine_eq]
    rw [List.length_map] at few
    omega
  generalize ev : (es'.map fun b => Value.ref (f b)) = vs at pm lv ⊢
  refine wpAny_bind (wpAny_newList ?_ lv)
  have hoL : (s1.heap.push (seqObj "list" vs.toArray 0)).get? s1.heap.objs.size = some (seqObj "list" vs.toArray 0) := Heap.get?_push_size _ rfl
  have r0 : Vals (es'.map fun b => V.ref (f b)) vs := by
    rw [← ev]
    clear ev pm pe
    induction es' with
    | nil => exact .nil
    | cons b l ih => exact .cons rfl ih
  have mem : ∀ b ∈ es', b ∈ cs := fun b hb => pe.mem_iff.mp hb
  have old : ∀ b u, s.heap.get? b = some u → b ≠ s1.heap.objs.size ∧ (s1.heap.push (seqObj "list" vs.toArray 0)).get? b = some u := fun b u e => ⟨Nat.ne_of_lt (Heap.lt_size (k1 b u e)), Heap.get?_push_of_some _ (k1 b u e)⟩
  have rd := reads_all (h' := sortingHeap (s1.heap.push (seqObj "list" vs.toArray 0)) s1.heap.objs.size vs) (f := fun b => V.ref (f b)) I (fun b hb => D.dp b (mem b hb)) r0 fun b u e => sortingHeap_old (old b u e).1 (old b u e).2
  have perm_mem : ∀ {y}, y ∈ es'.map d → y ∈ cs.map d := fun {y} hy => (pe.map d).mem_iff.mp hy
  have al' : AllAlike (es'.map d) := fun y hy y' hy' => al y (perm_mem hy) y' (perm_mem hy')
  have so' : Sortable (es'.map d) := so.elim (fun z => .inl fun y hy => z y (perm_mem hy)) fun z => .inr fun y hy => z y (perm_mem hy)
  refine wpAny_bind (wpAny_holding (wpAny_call_entry (s := { s1 with heap := s1.heap.push (seqObj "list" vs.toArray 0) }) slot_list_sort ⟨_, hoL, rfl⟩ entry_list_sort (list_sort_vals (s := { s1 with heap := s1.heap.push (seqObj "list" vs.toArray 0) }) hoL (SortsAt.data rd al' so' fun y hy => ?_) lv ⟨_, rfl, ?_⟩) (args_list_sort _)))
  · obtain ⟨b, hb, rfl⟩ := List.mem_map.mp (perm_mem hy)
    have := D.deep b hb
    simp only [Around.in1_units]
    omega
  · have ko : KeyedOut false (es'.map d) vs (sortVals (dataKind (sortingHeap (s1.heap.push (seqObj "list" vs.toArray 0)) s1.heap.objs.size vs) (es'.map d)) false vs vs) := ⟨_, vs, al', rfl, rd⟩
    have out := vals_each (keyedOut_each (R := fun u b => RelV (V.ref (f b)) u) d ko (each_vals r0))
    generalize sortVals (dataKind (sortingHeap (s1.heap.push (seqObj "list" vs.toArray 0)) s1.heap.objs.size vs) (es'.map d)) false vs vs = ws at out ⊢
    obtain ⟨c, hcc⟩ := sortedHeap_at (vs := vs) (out := ws.toArray) hoL
    have sz : s.heap.objs.size ≤ s1.heap.objs.size := hz
    have kk : ∀ b u, s.heap.get? b = some u → (sortedHeap (s1.heap.push (seqObj "list" vs.toArray 0)) s1.heap.objs.size vs ws.toArray).get? b = some u := fun b u e => by
      have lt := Heap.lt_size (k1 b u e)
      rw [sortedHeap_old (Nat.ne_of_lt lt) (by rw [size_push']; exact Nat.lt_succ_of_lt lt)]
      exact (old b u e).2
    have lw : (((es'.mergeSort (dle d)).map fun b => V.ref (f b))).length ≤ sizeLine := by
      rw [List.length_map, List.length_mergeSort, pe.length_eq, sizeLine_eq]
      rw [List.length_map] at few
      omega
    have J : Inv X pins σ (upd H s1.heap.objs.size (.lst ((es'.mergeSort (dle d)).map fun b => V.ref (f b)))) { s with heap := sortedHeap (s1.heap.push (seqObj "list" vs.toArray 0)) s1.heap.objs.size vs ws.toArray, gens := s1.gens, drawn := s1.drawn, toks := s1.toks } :=
      I.call (ch := []) (Un.laid kk sz (I.hok.fresh sz)) (I.hok.laid kk sz ⟨lw, ws, c, out, hcc⟩) (by rw [g1]; exact I.bare) (fun _ z => nomatch z)
    obtain ⟨h1, g2, d2, t2, os2⟩ := s1
    obtain ⟨h0, g3, d3, t3, os3⟩ := s
    cases o1
    exact wpAny_pure ⟨_, rfl, ⟨.ref _, _, J, rfl, q _ es' (I.hok.fresh sz) pe⟩⟩
end
end Rz.Sx
namespace Rz
open PySem PySem.Spec PyProof.Rows L2 PySem.W
/-! ### pure data: no objects in it -/
mutual
def dat : Va → PyData
  | .non => .none
  | .bl b => .bool b
  | .int i => .int i
  | .str x => .str x
  | .tup ws => .tuple (dats ws)
  | .ty _ => .none
  | .loc _ => .none
  | .cl _ => .none
def dats : List Va → List PyData
  | [] => []
  | w :: ws => dat w :: dats ws
end
mutual
def pur : Va → Bool
  | .tup ws => purs ws
  | .ty _ => false
  | .loc _ => false
  | .cl _ => false
  | _ => true
def purs : List Va → Bool
  | [] => true
  | w :: ws => pur w && purs ws
end
theorem dats_map : ∀ ws : List Va, dats ws = ws.map dat
  | [] => rfl
  | w :: ws => by rw [dats, dats_map ws]; rfl
theorem purs_mem : ∀ {ws : List Va}, purs ws = true → ∀ w ∈ ws, pur w = true
  | w :: ws, h, v, m => by
    simp only [purs, Bool.and_eq_true] at h
    rcases List.mem_cons.mp m with z | z
    · rw [z]; exact h.1
    · exact purs_mem h.2 v z
mutual
theorem dat_ok {g : G} {ρ : List Addr} {H : Hp} : ∀ (w : Va) (v : V), pur w = true → Rel g ρ H w v → Dp g.K H v (dat w)
  | .non, _, _, r => by cases r; exact .non
  | .bl b, _, _, r => by cases r; exact .bl b
  | .int b, _, _, r => by cases r; exact .int b
  | .str b, _, _, r => by cases r; exact .str b
  | .tup ws, _, h, r => by
    cases r with
    | tup s rl => exact .tup s (dats_ok ws _ (by simpa [pur] using h) rl)
  | .ty _, _, h, _ => by cases h
  | .loc _, _, h, _ => by cases h
  | .cl _, _, h, _ => by cases h
theorem dats_ok {g : G} {ρ : List Addr} {H : Hp} : ∀ (ws : List Va) (vs : List V), purs ws = true → RelL g ρ H ws vs → DpAll g.K H vs (dats ws)
  | [], _, _, r => by cases r; exact .nil
  | w :: ws, _, h, r => by
    simp only [purs, Bool.and_eq_true] at h
    cases r with
    | cons a b => exact .cons (dat_ok w _ h.1 a) (dats_ok ws _ h.2 b)
end
mutual
theorem dat_inj : ∀ (a b : Va), pur a = true → pur b = true → dat a = dat b → a = b
  | .non, b, _, hb, e => by cases b <;> first | rfl | (cases e; done) | (cases hb; done)
  | .bl x, b, _, hb, e => by cases b <;> first | (cases e; rfl; done) | (cases e; done)
  | .int x, b, _, hb, e => by cases b <;> first | (cases e; rfl; done) | (cases e; done)
  | .str x, b, _, hb, e => by cases b <;> first | (cases e; rfl; done) | (cases e; done)
  | .tup ws, b, ha, hb, e => by
    cases b with
    | tup us =>
      simp only [dat, PyData.tuple.injEq] at e
      rw [dats_inj ws us (by simpa [pur] using ha) (by simpa [pur] using hb) e]
    | _ => first | (cases e; done) | (cases hb; done)
  | .ty _, _, h, _, _ => by cases h
  | .loc _, _, h, _, _ => by cases h
  | .cl _, _, h, _, _ => by cases h
theorem dats_inj : ∀ (a b : List Va), purs a = true → purs b = true → dats a = dats b → a = b
  | [], [], _, _, _ => rfl
  | [], _ :: _, _, _, e => by cases e
  | _ :: _, [], _, _, e => by cases e
  | x :: xs, y :: ys, ha, hb, e => by
    simp only [purs, Bool.and_eq_true] at ha hb
    simp only [dats, List.cons.injEq] at e
    rw [dat_inj x y ha.1 hb.1 e.1, dats_inj xs ys ha.2 hb.2 e.2]
end
/-! ### equal, alike data are the same -/
mutual
theorem eqv_same : ∀ a b : PyData, alike a b = true → PyData.eqv a b = true → a = b
  | .none, b, h, e => by cases b <;> simp_all [alike]
  | .bool x, b, h, e => by cases b <;> simp_all [alike, PyData.eqv]
  | .int x, b, h, e => by cases b <;> simp_all [alike, PyData.eqv]
  | .str x, b, h, e => by cases b <;> simp_all [alike, PyData.eqv]
  | .list xs, b, h, e => by
    cases b with
    | list ys => rw [eqvs_same xs ys (by simpa [alike] using h) (by simpa [PyData.eqv] using e)]
    | _ => simp [alike] at h
  | .tuple xs, b, h, e => by
    cases b with
    | tuple ys => rw [eqvs_same xs ys (by simpa [alike] using h) (by simpa [PyData.eqv] using e)]
    | _ => simp [alike] at h
  | .dict _, b, h, _ => by cases b <;> simp [alike] at h
theorem eqvs_same : ∀ a b : List PyData, alikeAll a b = true → PyData.eqvAll a b = true → a = b
  | [], [], _, _ => rfl
  | [], _ :: _, _, e => by simp [PyData.eqvAll] at e
  | _ :: _, [], _, e => by simp [PyData.eqvAll] at e
  | x :: xs, y :: ys, h, e => by
    obtain ⟨h1, h2⟩ := alike_all_cons h
    rw [eqv_all_cons, Bool.and_eq_true] at e
    rw [eqv_same x y h1 e.1, eqvs_same xs ys h2 e.2]
end
theorem toks_same {a b : PyData} (h : alike a b = true) (e : keyToks a = keyToks b) : a = b := by
  obtain ⟨_, h2⟩ := toks_eqv a b h
  refine eqv_same a b h ?_
  cases q : PyData.eqv a b with
  | true => rfl
  | false =>
    have z := h2 q [] [.inl 0]
    rw [e, lex_irrefl, lex_pre] at z
    rw [show lexLt itemOrd ([] : List (Int ⊕ List Nat)) [.inl 0] = true from rfl] at z
    cases z
mutual
theorem nk_same : ∀ a b : PyData, Sx.numD a = true → Sx.numD b = true → alike a b = true → Sx.nk a = Sx.nk b → a = b
  | .none, b, _, _, h, _ => by cases b <;> simp_all [alike]
  | .bool x, b, _, _, h, e => by
    cases b with
    | bool y => cases x <;> cases y <;> simp_all [Sx.nk]
    | _ => simp [alike] at h
  | .int x, b, _, _, h, e => by cases b <;> simp_all [alike, Sx.nk]
  | .str x, b, n, _, h, e => by simp [Sx.numD] at n
  | .list xs, b, n, _, h, e => by simp [Sx.numD] at n
  | .dict xs, b, n, _, h, e => by simp [Sx.numD] at n
  | .tuple xs, b, n, m, h, e => by
    cases b with
    | tuple ys => rw [nks_same xs ys (by simpa [Sx.numD] using n) (by simpa [Sx.numD] using m) (by simpa [alike] using h) (by simpa [Sx.nk] using e)]
    | _ => simp [alike] at h
theorem nks_same : ∀ a b : List PyData, Sx.numDs a = true → Sx.numDs b = true → alikeAll a b = true → Sx.nks a = Sx.nks b → a = b
  | [], [], _, _, _, _ => rfl
  | [], _ :: _, _, _, _, e => by simp [Sx.nks] at e
  | _ :: _, [], _, _, _, e => by simp [Sx.nks] at e
  | x :: xs, y :: ys, n, m, h, e => by
    obtain ⟨h1, h2⟩ := alike_all_cons h
    simp only [Sx.numDs, Bool.and_eq_true] at n m
    simp only [Sx.nks, List.cons.injEq] at e
    rw [nk_same x y n.1 m.1 h1 e.1, nks_same xs ys n.2 m.2 h2 e.2]
end
/-! ### sorted lists, lists without repetition -/
def vle (a b : Va) : Bool := Sx.dle dat a b
def vsort (ws : List Va) : List Va := ws.mergeSort vle
def tk (w : Va) : List (Int ⊕ List Nat) := keyToks (dat w)
def nub : List Va → List Va
  | [] => []
  | w :: ws => w :: (nub ws).filter fun u => decide (tk u ≠ tk w)
/-- data that can be sorted together -/
def alikeV (ws : List Va) : Bool := purs ws && ws.all fun a => ws.all fun b => alike (dat a) (dat b)
def isTp : Va → Bool
  | .tup (_ :: _) => true
  | _ => false
def notTp : Va → Bool
  | .tup _ => false
  | .non => false
  | _ => true
def sortV (ws : List Va) : Bool := alikeV ws && (ws.all isTp || ws.all notTp) && ws.all fun w => decide ((dat w).depth ≤ 100)
def keyV (ws : List Va) : Bool := alikeV ws && ws.all isTp && ws.all (fun w => Sx.numD (dat w) && decide ((dat w).depth ≤ 8)) && decide ((nub ws).length < 64)
theorem alikeV_iff {ws : List Va} : alikeV ws = true ↔ purs ws = true ∧ ∀ a ∈ ws, ∀ b ∈ ws, alike (dat a) (dat b) = true := by
  unfold alikeV
  simp only [Bool.and_eq_true, List.all_eq_true]
theorem tk_inj {ws : List Va} (h : alikeV ws = true) {a b : Va} (ha : a ∈ ws) (hb : b ∈ ws) (e : tk a = tk b) : a = b := by
  obtain ⟨p, q⟩ := alikeV_iff.mp h
  exact dat_inj a b (purs_mem p a ha) (purs_mem p b hb) (toks_same (q a ha b hb) e)
theorem vle_trans (a b c : Va) (h1 : vle a b = true) (h2 : vle b c = true) : vle a c = true := (sortLe_total (listOrd itemOrd) false fun w => keyToks (dat w)).trans a b c h1 h2
theorem vle_total (a b : Va) : (vle a b || vle b a) = true := by
  rw [Bool.or_eq_true]
  exact (sortLe_total (listOrd itemOrd) false fun w => keyToks (dat w)).total a b
theorem vle_anti {a b : Va} (h1 : vle a b = true) (h2 : vle b a = true) : tk a = tk b := by
  have e1 : (!lexLt itemOrd (tk b) (tk a)) = true := h1
  have e2 : (!lexLt itemOrd (tk a) (tk b)) = true := h2
  rw [Bool.not_eq_true'] at e1 e2
  exact lex_total (O := itemOrd) _ _ e2 e1
theorem vsort_perm (ws : List Va) : (vsort ws).Perm ws := List.mergeSort_perm ws vle
theorem vsort_sorted (ws : List Va) : (vsort ws).Pairwise fun a b => vle a b = true := List.pairwise_mergeSort (le := vle) vle_trans vle_total ws
/-- sorted lists of the same alike data are the same -/
theorem sorted_uniq {l m : List Va} (al : alikeV l = true) (p : l.Perm m) (sl : l.Pairwise fun a b => vle a b = true) (sm : m.Pairwise fun a b => vle a b = true) : l = m := by
  refine p.eq_of_pairwise (le := fun a b => vle a b = true) (fun a b ha hb h1 h2 => ?_) sl sm
  exact tk_inj al ha (p.mem_iff.mpr hb) (vle_anti h1 h2)
theorem alikeV_perm {l m : List Va} (p : l.Perm m) (h : alikeV l = true) : alikeV m = true := by
  obtain ⟨a, b⟩ := alikeV_iff.mp h
  refine alikeV_iff.mpr ⟨?_, fun x hx y hy => b x (p.mem_iff.mpr hx) y (p.mem_iff.mpr hy)⟩
  have : ∀ ws : List Va, (∀ w ∈ ws, pur w = true) → purs ws = true := fun ws => by
    induction ws with
    | nil => intro _; rfl
    | cons w ws ih => intro h; simp only [purs, Bool.and_eq_true]; exact ⟨h w List.mem_cons_self, ih fun u m => h u (List.mem_cons_of_mem _ m)⟩
  exact this m fun w hw => purs_mem a w (p.mem_iff.mpr hw)
theorem vsort_eq {l m : List Va} (al : alikeV l = true) (p : l.Perm m) : vsort l = vsort m :=
  sorted_uniq (alikeV_perm (vsort_perm l).symm al) ((vsort_perm l).trans (p.trans (vsort_perm m).symm)) (vsort_sorted l) (vsort_sorted m)
theorem nub_mem {w : Va} : ∀ {ws : List Va}, w ∈ nub ws → w ∈ ws
  | v :: ws, h => by
    simp only [nub] at h
    rcases List.mem_cons.mp h with z | z
    · rw [z]; exact List.mem_cons_self
    · exact List.mem_cons_of_mem _ (nub_mem (List.mem_filter.mp z).1)
theorem nub_tk {w : Va} : ∀ {ws : List Va}, w ∈ ws → ∃ u ∈ nub ws, tk u = tk w
  | v :: ws, h => by
    simp only [nub]
    rcases List.mem_cons.mp h with z | z
    · exact ⟨v, List.mem_cons_self, by rw [z]⟩
    · obtain ⟨u, hu, e⟩ := nub_tk z
      by_cases c : tk u = tk v
      · exact ⟨v, List.mem_cons_self, c.symm.trans e⟩
      · exact ⟨u, List.mem_cons_of_mem _ (List.mem_filter.mpr ⟨hu, decide_eq_true c⟩), e⟩
theorem nub_nd : ∀ ws : List Va, ((nub ws).map tk).Nodup
  | [] => List.nodup_nil
  | v :: ws => by
    simp only [nub, List.map_cons]
    refine List.nodup_cons.mpr ⟨fun h => ?_, ((nub_nd ws).sublist (List.Sublist.map _ List.filter_sublist))⟩
    obtain ⟨u, hu, e⟩ := List.mem_map.mp h
    have := (List.mem_filter.mp hu).2
    simp [e] at this
theorem nd_of_map {α β : Type} {f : α → β} {l : List α} (h : (l.map f).Nodup) : l.Nodup := List.Pairwise.of_map f (fun _ _ hne e => hne (congrArg f e)) h
/-- what has just the members of ws, each once, is nub ws in some order -/
theorem nub_perm {ws cs : List Va} (al : alikeV ws = true) (h1 : ∀ c ∈ cs, c ∈ ws) (h2 : cs.Nodup) (h3 : ∀ w ∈ ws, ∃ c ∈ cs, tk c = tk w) : cs.Perm (nub ws) := by
  refine (List.perm_ext_iff_of_nodup h2 (nd_of_map (nub_nd ws))).mpr fun x => ⟨fun hx => ?_, fun hx => ?_⟩
  · obtain ⟨u, hu, e⟩ := nub_tk (h1 x hx)
    rwa [tk_inj al (h1 x hx) (nub_mem hu) e.symm]
  · obtain ⟨c, hc, e⟩ := h3 x (nub_mem hx)
    rwa [← tk_inj al (h1 c hc) (nub_mem hx) e]
end Rz
namespace Rz
open PySem PySem.Spec PyProof.Rows L2 PySem.W
section
variable {g : G} {Wx : WX} {ρ : List Addr} {H : Hp} {σ : L2.St} {S : Sto}
theorem RelL.of_pairs : ∀ {l : List (Va × V)}, (∀ p ∈ l, Rel g ρ H p.1 p.2) → RelL g ρ H (l.map Prod.fst) (l.map Prod.snd)
  | [], _ => .nil
  | p :: l, h => .cons (h p List.mem_cons_self) (RelL.of_pairs fun q m => h q (List.mem_cons_of_mem _ m))
theorem RelL.pairs : ∀ {ws : List Va} {vs : List V}, RelL g ρ H ws vs → ∀ p ∈ ws.zip vs, Rel g ρ H p.1 p.2
  | _, _, .nil, p, h => by cases h
  | _, _, .cons a b, p, h => by
    rcases List.mem_cons.mp h with z | z
    · rw [z]; exact a
    · exact RelL.pairs b p z
theorem RelL.fst {ws : List Va} {vs : List V} (r : RelL g ρ H ws vs) : (ws.zip vs).map Prod.fst = ws := List.map_fst_zip (Nat.le_of_eq r.length)
theorem RelL.snd {ws : List Va} {vs : List V} (r : RelL g ρ H ws vs) : (ws.zip vs).map Prod.snd = vs := List.map_snd_zip (Nat.le_of_eq r.length.symm)
theorem pairs_sort (l : List (Va × V)) : (l.mergeSort (Sx.dle fun p => dat p.1)).map Prod.fst = vsort (l.map Prod.fst) := List.map_mergeSort fun a _ b _ => rfl
theorem alike_of {us : List Va} (h : alikeV us = true) {l : List (Va × V)} (m : ∀ p ∈ l, p.1 ∈ us) : AllAlike (l.map fun p => dat p.1) := fun d hd e he => by
  obtain ⟨p, hp, rfl⟩ := List.mem_map.mp hd
  obtain ⟨q, hq, rfl⟩ := List.mem_map.mp he
  exact (alikeV_iff.mp h).2 _ (m p hp) _ (m q hq)
theorem sort_tp {us : List Va} (h : us.all isTp = true) {l : List (Va × V)} (m : ∀ p ∈ l, p.1 ∈ us) : Sortable (l.map fun p => dat p.1) := .inl fun d hd => by
  obtain ⟨p, hp, rfl⟩ := List.mem_map.mp hd
  have := List.all_eq_true.mp h _ (m p hp)
  cases e : p.1 with
  | tup ws =>
    rw [e] at this
    cases ws with
    | nil => cases this
    | cons x r => exact ⟨dat x, dats r, by simp [dat, dats]⟩
  | _ => rw [e] at this; cases this
theorem sort_no {us : List Va} (h : us.all notTp = true) (hp : purs us = true) {l : List (Va × V)} (m : ∀ p ∈ l, p.1 ∈ us) : Sortable (l.map fun p => dat p.1) := .inr fun d hd => by
  obtain ⟨p, hp', rfl⟩ := List.mem_map.mp hd
  have := List.all_eq_true.mp h _ (m p hp')
  have z := purs_mem hp _ (m p hp')
  cases e : p.1 <;> rw [e] at this z <;> first | (cases this; done) | (cases z; done) | exact ⟨(fun z => nomatch z), (fun xs z => nomatch z)⟩
/-- the items of a list -/
@[simp] def itL (w : Va) (S : Sto) : Option (List Va) := match w with
  | .loc l => getL S l
  | _ => none
def fSrt (ws : List Va) (S : Sto) : Rs Va := match ws with
  | [w] => match itL w S with
    | some us => bif sortV us then llst (vsort us) S else .bad
    | none => .bad
  | _ => .bad
theorem itL_ok {w : Va} {v : V} {ws : List Va} (sm : Sim g ρ S H) (r : Rel g ρ H w v) (h : itL w S = some ws) : ∃ p vs, v = .ref p ∧ SqL g.K H p vs ∧ RelL g ρ H ws vs := by
  cases r with
  | @loc l p hp =>
    obtain ⟨vs, s, rl⟩ := getL_at sm h hp
    exact ⟨p, vs, rfl, s, rl⟩
  | _ => cases h
theorem cs_srt : CalS g (Sx.rSrt g.K) fSrt := fun Wx σ ρ S H ws vs Q sm rl h => by
  unfold fSrt at h
  split at h
  · rename_i w
    cases rl with
    | cons ra rn =>
      cases rn
      cases e : itL w S with
      | none => rw [e] at h; exact h.elim
      | some us =>
        rw [e] at h
        dsimp only at h
        by_cases z : sortV us = true
        · rw [z] at h
          obtain ⟨p, ts, rfl, s, rl⟩ := itL_ok sm ra e
          unfold sortV at z
          simp only [Bool.and_eq_true] at z
          obtain ⟨⟨z1, z2⟩, z3⟩ := z
          have mem : ∀ q ∈ us.zip ts, q.1 ∈ us := fun q hq => (List.of_mem_zip hq).1
          have srt : Sortable ((us.zip ts).map fun q => dat q.1) := by
            rcases Bool.or_eq_true _ _ ▸ z2 with z2 | z2
            · exact sort_tp z2 mem
            · exact sort_no z2 (alikeV_iff.mp z1).1 mem
          have rp : RelL g ρ H (vsort us) (((us.zip ts).mergeSort (Sx.dle fun q => dat q.1)).map Prod.snd) := by
            have := RelL.of_pairs (g := g) (ρ := ρ) (H := H) (l := (us.zip ts).mergeSort (Sx.dle fun q => dat q.1)) fun q hq => RelL.pairs rl q (List.mem_mergeSort.mp hq)
            rwa [pairs_sort, rl.fst] at this
          refine ⟨Va × V, p, us.zip ts, Prod.snd, fun q => dat q.1, rfl, by rw [rl.snd]; exact s, ⟨fun q hq => dat_ok _ _ (purs_mem (alikeV_iff.mp z1).1 _ (mem q hq)) (RelL.pairs rl q hq), alike_of z1 mem, srt, fun q hq => ?_⟩, (new_lst sm rp h).2⟩
          exact of_decide_eq_true (List.all_eq_true.mp z3 _ (mem q hq))
        · rw [Bool.not_eq_true _ |>.mp z] at h
          exact h.elim
  · exact h.elim
/-! ### len(set(xs)), sorted(set(xs)) -/
def adr : V → Addr
  | .ref a => a
  | _ => 0
def fLenSet (ws : List Va) (S : Sto) : Rs Va := match ws with
  | [w] => match itL w S with
    | some us => bif keyV us then .ok (.int (nub us).length) S else .bad
    | none => .bad
  | _ => .bad
def fSrtSet (ws : List Va) (S : Sto) : Rs Va := match ws with
  | [w] => match itL w S with
    | some us => bif keyV us then llst (vsort (nub us)) S else .bad
    | none => .bad
  | _ => .bad
theorem tp_ref {w : Va} {v : V} (h : isTp w = true) (r : Rel g ρ H w v) : v = .ref (adr v) := by
  cases r <;> first | rfl | cases h
theorem nd_len {α : Type} : ∀ (L M : List α), L.Nodup → (∀ x ∈ L, x ∈ M) → L.length ≤ M.length
  | [], _, _, _ => Nat.zero_le _
  | x :: L, M, nd, h => by
    obtain ⟨s, t, rfl⟩ := List.append_of_mem (h x List.mem_cons_self)
    have nd' := List.nodup_cons.mp nd
    have ih := nd_len L (s ++ t) nd'.2 fun y hy => by
      have := h y (List.mem_cons_of_mem _ hy)
      rw [List.mem_append, List.mem_cons] at this
      rw [List.mem_append]
      rcases this with z | z | z
      · exact .inl z
      · exact absurd (z ▸ hy) nd'.1
      · exact .inr z
    rw [List.length_append] at ih
    rw [List.length_append, List.length_cons, List.length_cons]
    omega
theorem keyV_ok {us : List Va} {ts : List V} (h : keyV us = true) (rl : RelL g ρ H us ts) : Sx.KList g.K H (us.zip ts) (fun q => adr q.2) (fun q => dat q.1) ∧ (∀ cs : List (Va × V), (∀ c ∈ cs, c ∈ us.zip ts) → (cs.map fun q => Sx.nk (dat q.1)).Nodup → cs.length < 64) ∧ (us.zip ts).map (fun q => V.ref (adr q.2)) = ts ∧ alikeV us = true ∧ us.all isTp = true := by
  unfold keyV at h
  simp only [Bool.and_eq_true, decide_eq_true_eq] at h
  obtain ⟨⟨⟨h1, h2⟩, h3⟩, h4⟩ := h
  have mem : ∀ q ∈ us.zip ts, q.1 ∈ us := fun q hq => (List.of_mem_zip hq).1
  have rf : ∀ q ∈ us.zip ts, q.2 = .ref (adr q.2) := fun q hq => tp_ref (List.all_eq_true.mp h2 _ (mem q hq)) (RelL.pairs rl q hq)
  refine ⟨⟨fun q hq => ?_, fun q hq => ?_, fun q hq => ?_⟩, fun cs hc nd => ?_, ?_, h1, h2⟩
  · rw [← rf q hq]
    exact dat_ok _ _ (purs_mem (alikeV_iff.mp h1).1 _ (mem q hq)) (RelL.pairs rl q hq)
  · have := List.all_eq_true.mp h3 _ (mem q hq)
    simp only [Bool.and_eq_true] at this
    exact this.1
  · have := List.all_eq_true.mp h3 _ (mem q hq)
    simp only [Bool.and_eq_true, decide_eq_true_eq] at this
    exact this.2
  · have e : (cs.map fun q => Sx.nk (dat q.1)) = (cs.map Prod.fst).map fun u => Sx.nk (dat u) := by rw [List.map_map]; rfl
    rw [e] at nd
    have l := nd_len _ (nub us) (nd_of_map nd) fun u hu => by
      obtain ⟨c, hc', rfl⟩ := List.mem_map.mp hu
      have mu := mem c (hc c hc')
      obtain ⟨v, hv, e⟩ := nub_tk mu
      rwa [← tk_inj h1 (nub_mem hv) mu e]
    rw [List.length_map] at l
    exact Nat.lt_of_le_of_lt l h4
  · have : (us.zip ts).map (fun q => V.ref (adr q.2)) = (us.zip ts).map Prod.snd := List.map_congr_left fun q hq => (rf q hq).symm
    rw [this, rl.snd]
/-- the members of the set, in some order, are nub us -/
theorem set_perm {us : List Va} {ts : List V} (h : keyV us = true) (rl : RelL g ρ H us ts) {cs : List (Va × V)} (h1 : ∀ c ∈ cs, c ∈ us.zip ts) (h2 : (cs.map fun q => Sx.nk (dat q.1)).Nodup) (h3 : ∀ b ∈ us.zip ts, Sx.nk (dat b.1) ∈ cs.map fun q => Sx.nk (dat q.1)) : (cs.map Prod.fst).Perm (nub us) := by
  unfold keyV at h
  simp only [Bool.and_eq_true, decide_eq_true_eq] at h
  obtain ⟨⟨⟨al, tp⟩, nm⟩, _⟩ := h
  have mem : ∀ q ∈ us.zip ts, q.1 ∈ us := fun q hq => (List.of_mem_zip hq).1
  have num : ∀ u ∈ us, Sx.numD (dat u) = true := fun u hu => by
    have := List.all_eq_true.mp nm u hu
    simp only [Bool.and_eq_true] at this
    exact this.1
  have same : ∀ u ∈ us, ∀ v ∈ us, Sx.nk (dat u) = Sx.nk (dat v) → u = v := fun u hu v hv e =>
    dat_inj u v (purs_mem (alikeV_iff.mp al).1 u hu) (purs_mem (alikeV_iff.mp al).1 v hv) (nk_same _ _ (num u hu) (num v hv) ((alikeV_iff.mp al).2 u hu v hv) e)
  refine nub_perm al (fun c hc => ?_) ?_ fun u hu => ?_
  · obtain ⟨q, hq, rfl⟩ := List.mem_map.mp hc
    exact mem q (h1 q hq)
  · have e : (cs.map fun q => Sx.nk (dat q.1)) = (cs.map Prod.fst).map fun u => Sx.nk (dat u) := by rw [List.map_map]; rfl
    rw [e] at h2
    exact nd_of_map h2
  · obtain ⟨v, hv⟩ : ∃ v, (u, v) ∈ us.zip ts := by
      have : u ∈ (us.zip ts).map Prod.fst := by rw [rl.fst]; exact hu
      obtain ⟨⟨u', v⟩, m, e⟩ := List.mem_map.mp this
      exact ⟨v, by cases e; exact m⟩
    obtain ⟨q, hq, e⟩ := List.mem_map.mp (h3 _ hv)
    exact ⟨q.1, List.mem_map.mpr ⟨q, hq, rfl⟩, by rw [same _ (mem q (h1 q hq)) u hu e]⟩
end
section
variable {X : Cx} {g : G} {Wx : WX} {k : Nat} {pos : Pos} {a b c : Expr} {es : List Expr} {x y z : XE} {r : XA}
theorem se_srt (o : XO X g Wx k) {p : Pos} (hm : X.mg "sorted" = none) (ha : SA X g Wx [a] r) (hg : Gl X "sorted" := by rfl) (he : starEach [a] X.env = (false, eval a X.env) :: starEach [] X.env := by rfl) : SE X g Wx (.Call (.Name "sorted" p) [a] [] pos) (xcall fSrt r) :=
  se_callB (Sx.cr_srt o.room) (o.K ▸ cs_srt) hm ha hg (he := he)
theorem se_lenset (o : XO X g Wx k) {p p2 pos2 : Pos} (hm : X.mg "len" = none) (hm2 : X.mg "set" = none) (ha : SA X g Wx [a] r) (hg : Gl X "len" := by rfl) (hg2 : Gl X "set" := by rfl) (he : starEach [a] X.env = (false, eval a X.env) :: starEach [] X.env := by rfl)
    (he2 : starEach [Expr.Call (.Name "set" p2) [a] [] pos2] X.env = (false, eval (.Call (.Name "set" p2) [a] [] pos2) X.env) :: starEach [] X.env := by rfl) :
    SE X g Wx (.Call (.Name "len" p) [.Call (.Name "set" p2) [a] [] pos2] [] pos) (xcall fLenSet r) := by
  refine pe_imp (pe_callB (Sx.cr_lenSet) hg hm (by decide +kernel) (pa_cons (pe_callTy (Sx.cr_set o.room o.calm) hg2 hm2 (by decide +kernel) ha (by decide) (by decide) he (by rfl)) pa_nil (hs := he2)) (by decide) (by decide) he2 (by rfl)) fun σ H Q ⟨δ, S, ρ, sm, se, h⟩ => ?_
  refine ⟨δ, S, ρ, sm, se, wpR.imp (wpR.bind (rel := RelL g) h) fun vs H1 ⟨ρ1, ws, S1, e1, s1, rl1, h1⟩ => ?_⟩
  unfold fLenSet at h1
  split at h1
  · rename_i w
    cases rl1 with
    | cons ra rn =>
      cases rn
      cases e : itL w S1 with
      | none => rw [e] at h1; exact h1.elim
      | some us =>
        rw [e] at h1
        dsimp only at h1
        by_cases z : keyV us = true
        · rw [z] at h1
          obtain ⟨p, ts, rfl, s, rl⟩ := itL_ok s1 ra e
          obtain ⟨k1, k2, k3, k4, k5⟩ := keyV_ok z rl
          refine ⟨Va × V, p, us.zip ts, fun q => adr q.2, fun q => dat q.1, rfl, by rw [k3]; exact o.K ▸ s, o.K ▸ k1, k2, fun q cs hq c1 c2 c3 => ⟨q, _, rfl, upd_same, ?_⟩⟩
          have n := (set_perm z rl c1 c2 c3).length_eq
          rw [List.length_map] at n
          rw [List.length_map, n]
          exact wpR.fin_at (a := Va.int (nub us).length) h1 (ext_upd hq) (s1.aside hq) (.int _)
        · rw [Bool.not_eq_true _ |>.mp z] at h1
          exact h1.elim
  · exact h1.elim
theorem se_srtset (o : XO X g Wx k) {p p2 pos2 : Pos} (hm : X.mg "sorted" = none) (hm2 : X.mg "set" = none) (ha : SA X g Wx [a] r) (hg : Gl X "sorted" := by rfl) (hg2 : Gl X "set" := by rfl) (he : starEach [a] X.env = (false, eval a X.env) :: starEach [] X.env := by rfl)
    (he2 : starEach [Expr.Call (.Name "set" p2) [a] [] pos2] X.env = (false, eval (.Call (.Name "set" p2) [a] [] pos2) X.env) :: starEach [] X.env := by rfl) :
    SE X g Wx (.Call (.Name "sorted" p) [.Call (.Name "set" p2) [a] [] pos2] [] pos) (xcall fSrtSet r) := by
  refine pe_imp (pe_callB (Sx.cr_srtSet o.room o.calm) hg hm (by decide +kernel) (pa_cons (pe_callTy (Sx.cr_set o.room o.calm) hg2 hm2 (by decide +kernel) ha (by decide) (by decide) he (by rfl)) pa_nil (hs := he2)) (by decide) (by decide) he2 (by rfl)) fun σ H Q ⟨δ, S, ρ, sm, se, h⟩ => ?_
  refine ⟨δ, S, ρ, sm, se, wpR.imp (wpR.bind (rel := RelL g) h) fun vs H1 ⟨ρ1, ws, S1, e1, s1, rl1, h1⟩ => ?_⟩
  unfold fSrtSet at h1
  split at h1
  · rename_i w
    cases rl1 with
    | cons ra rn =>
      cases rn
      cases e : itL w S1 with
      | none => rw [e] at h1; exact h1.elim
      | some us =>
        rw [e] at h1
        dsimp only at h1
        by_cases z : keyV us = true
        · rw [z] at h1
          obtain ⟨p, ts, rfl, s, rl⟩ := itL_ok s1 ra e
          obtain ⟨k1, k2, k3, k4, k5⟩ := keyV_ok z rl
          refine ⟨Va × V, p, us.zip ts, fun q => adr q.2, fun q => dat q.1, rfl, by rw [k3]; exact o.K ▸ s, o.K ▸ k1, k2, fun q cs hq c1 c2 c3 => ?_⟩
          have pm := set_perm z rl c1 c2 c3
          have mem : ∀ c ∈ cs, c.1 ∈ us := fun c hc => (List.of_mem_zip (c1 c hc)).1
          have E := ext_upd (g := g) (ρ := ρ1) (o := Sx.SetN X.prog X.w q (cs.map fun b => (adr b.2, Sx.nk (dat b.1)))) hq
          have rl' := rl.mono E
          obtain ⟨k1', _, _, _, _⟩ := keyV_ok z rl'
          refine ⟨Va × V, q, cs, fun q => adr q.2, fun q => dat q.1, rfl, upd_same, ⟨fun c hc => o.K ▸ k1'.dp c (c1 c hc), fun c hc => k1'.num c (c1 c hc), fun c hc => k1'.deep c (c1 c hc)⟩, alike_of k4 mem, sort_tp k5 mem, ?_⟩
          intro p2 es hp2 pe
          have fst : (es.mergeSort (Sx.dle fun q => dat q.1)).map Prod.fst = vsort (nub us) := by
            rw [pairs_sort]
            exact vsort_eq (alikeV_iff.mpr ⟨by
              have : ∀ ws : List Va, (∀ w ∈ ws, pur w = true) → purs ws = true := fun ws => by
                induction ws with
                | nil => intro _; rfl
                | cons w ws ih => intro h; simp only [purs, Bool.and_eq_true]; exact ⟨h w List.mem_cons_self, ih fun u m => h u (List.mem_cons_of_mem _ m)⟩
              refine this _ fun w hw => ?_
              obtain ⟨c, hc, rfl⟩ := List.mem_map.mp hw
              exact purs_mem (alikeV_iff.mp k4).1 _ (mem c (pe.mem_iff.mp hc)), fun x hx y hy => by
              obtain ⟨c, hc, rfl⟩ := List.mem_map.mp hx
              obtain ⟨c', hc', rfl⟩ := List.mem_map.mp hy
              exact (alikeV_iff.mp k4).2 _ (mem c (pe.mem_iff.mp hc)) _ (mem c' (pe.mem_iff.mp hc'))⟩) ((pe.map Prod.fst).trans pm)
          have snd : (es.mergeSort (Sx.dle fun q => dat q.1)).map (fun b => V.ref (adr b.2)) = (es.mergeSort (Sx.dle fun q => dat q.1)).map Prod.snd := List.map_congr_left fun c hc => by
            have hc' := c1 c (pe.mem_iff.mp (List.mem_mergeSort.mp hc))
            exact (tp_ref (List.all_eq_true.mp k5 _ (List.of_mem_zip hc').1) (RelL.pairs rl c hc')).symm
          rw [snd]
          have rp : RelL g ρ1 (upd H1 q (Sx.SetN X.prog X.w q (cs.map fun b => (adr b.2, Sx.nk (dat b.1))))) (vsort (nub us)) ((es.mergeSort (Sx.dle fun q => dat q.1)).map Prod.snd) := by
            have := RelL.of_pairs (g := g) (ρ := ρ1) (H := upd H1 q (Sx.SetN X.prog X.w q (cs.map fun b => (adr b.2, Sx.nk (dat b.1))))) (l := es.mergeSort (Sx.dle fun q => dat q.1)) fun c hc => RelL.pairs rl' c (c1 c (pe.mem_iff.mp (List.mem_mergeSort.mp hc)))
            rwa [fst] at this
          exact (new_lst (s1.aside hq) rp (wpR.ext E h1)).2 p2 hp2
        · rw [Bool.not_eq_true _ |>.mp z] at h1
          exact h1.elim
  · exact h1.elim
end
end Rz
namespace Rz
open PySem PySem.Spec PyProof.Rows L2 PySem.W
section
variable {g : G}
@[simp] def fAbs (ws : List Va) (S : Sto) : Rs Va := match ws with
  | [.int i] => .ok (.int (if i < 0 then -i else i)) S
  | _ => .bad
@[simp] def fMin2 (ws : List Va) (S : Sto) : Rs Va := match ws with
  | [.int i, .int j] => .ok (.int (if j < i then j else i)) S
  | _ => .bad
@[simp] def fMax2 (ws : List Va) (S : Sto) : Rs Va := match ws with
  | [.int i, .int j] => .ok (.int (if j > i then j else i)) S
  | _ => .bad
@[simp] def fTup (ws : List Va) (S : Sto) : Rs Va := match ws with
  | [.tup us] => .ok (.tup us) S
  | [.loc l] => match getL S l with
    | some us => ltup us S
    | none => .bad
  | _ => .bad
theorem cs_abs : CalS g (fun xs H Q => ∃ i, xs = [.int i] ∧ Q (.int (if i < 0 then -i else i)) H) fAbs := fun Wx σ ρ S H ws vs Q sm rl h => by
  unfold fAbs at h
  split at h
  · cases rl with
    | cons ra rn => cases rn; cases ra; exact ⟨_, rfl, h.fin sm (.int _)⟩
  · exact h.elim
theorem cs_min2 : CalS g (fun xs H Q => ∃ i j, xs = [.int i, .int j] ∧ Q (.int (if j < i then j else i)) H) fMin2 := fun Wx σ ρ S H ws vs Q sm rl h => by
  unfold fMin2 at h
  split at h
  · cases rl with
    | cons ra rn => cases rn with | cons rb rn => cases rn; cases ra; cases rb; exact ⟨_, _, rfl, h.fin sm (.int _)⟩
  · exact h.elim
theorem cs_max2 : CalS g (fun xs H Q => ∃ i j, xs = [.int i, .int j] ∧ Q (.int (if j > i then j else i)) H) fMax2 := fun Wx σ ρ S H ws vs Q sm rl h => by
  unfold fMax2 at h
  split at h
  · cases rl with
    | cons ra rn => cases rn with | cons rb rn => cases rn; cases ra; cases rb; exact ⟨_, _, rfl, h.fin sm (.int _)⟩
  · exact h.elim
theorem cs_tup : CalS g (fun xs H Q => ∃ p ys, xs = [.ref p] ∧ ((SqL g.K H p ys ∧ ∀ l, H l = none → Q (.ref l) (upd H l (.tup ys))) ∨ (SqT g.K H p ys ∧ Q (.ref p) H))) fTup := fun Wx σ ρ S H ws vs Q sm rl h => by
  unfold fTup at h
  split at h
  · rename_i us
    cases rl with
    | cons ra rn =>
      cases rn
      have ra' := ra
      cases ra with
      | @tup us ts p s rl2 => exact ⟨p, ts, rfl, .inr ⟨s, wpR.fin (a := Va.tup us) h sm ra'⟩⟩
  · rename_i l
    cases rl with
    | cons ra rn =>
      cases rn
      cases ra with
      | @loc i p hp =>
        cases e : getL S l with
        | none => rw [e] at h; exact h.elim
        | some us =>
          rw [e] at h
          obtain ⟨ts, s, rl2⟩ := getL_at sm e hp
          exact ⟨p, ts, rfl, .inl ⟨s, (new_tup sm rl2 h).2⟩⟩
  · exact h.elim
/-! methods of lists that change them -/
/-- a list of the store is rewritten -/
theorem lst_put {Wx : WX} {σ : L2.St} {ρ : List Addr} {S : Sto} {H : Hp} {l : Nat} {p : Addr} {xs ys : List Va} {us : List V} {w : Va} {v : V} {Q : VK} (sm : Sim g ρ S H) (e : S[l]? = some (.lst xs)) (hp : ρ[l]? = some p) (z : RelL g ρ H ys us) (rw_ : Rel g ρ H w v)
    (h : wpR g Wx σ (Rel g) ρ H (.ok w (S.set l (.lst ys))) Q) : Q v (upd H p (.lst us)) := by
  obtain ⟨s1, e1⟩ := sm.put (o' := .lst ys) (u := .lst us) e hp rfl rfl fun H' e' q' => ⟨_, q', z.mono e'⟩
  exact wpR.fin_at h e1 s1 (rw_.mono e1)
def oPop (w : Va) (ws : List Va) (S : Sto) : Rs Va := match w, ws with
  | .loc l, [.int i] => match S[l]? with
    | some (.lst xs) => match ixN xs.length i with
      | some k => bif big i then (match xs[k]? with | some y => .ok y (S.set l (.lst (xs.eraseIdx k))) | none => .bad) else .bad
      | none => .bad
    | _ => .bad
  | _, _ => .bad
theorem RelL.erase {ρ : List Addr} {H : Hp} : ∀ {ws : List Va} {vs : List V} (i : Nat), RelL g ρ H ws vs → RelL g ρ H (ws.eraseIdx i) (vs.eraseIdx i)
  | _, _, _, .nil => .nil
  | _, _, 0, .cons _ b => b
  | _, _, i + 1, .cons a b => .cons a (RelL.erase i b)
theorem ms_pop : MetS g rPopAt oPop := fun Wx σ ρ S H w v ws vs Q sm r rl h => by
  unfold oPop at h
  split at h
  · rename_i l i
    split at h
    · rename_i xs e
      split at h
      · rename_i k hk
        by_cases hb : big i = true
        · rw [hb] at h
          split at h
          · rename_i y hy
            cases r with
            | @loc _ p hp =>
              cases rl with
              | cons ra rn =>
                cases rn
                cases ra
                obtain ⟨ts, q, z⟩ := sm.ats l _ p e hp
                obtain ⟨v1, hv1, rv1⟩ := z.get hy
                have b := big_ok hb
                refine ⟨p, ts, i, k, v1, rfl, rfl, q, by omega, by omega, ?_, hv1, lst_put sm e hp (z.erase k) rv1 h⟩
                rw [← z.length]
                exact (ixN_seq hk).1
          · exact h.elim
        · rw [Bool.not_eq_true _ |>.mp hb] at h
          exact h.elim
      · exact h.elim
    · exact h.elim
  · exact h.elim
def oRvs (w : Va) (ws : List Va) (S : Sto) : Rs Va := match w, ws with
  | .loc l, [] => match S[l]? with
    | some (.lst xs) => .ok .non (S.set l (.lst xs.reverse))
    | _ => .bad
  | _, _ => .bad
def oClr (w : Va) (ws : List Va) (S : Sto) : Rs Va := match w, ws with
  | .loc l, [] => match S[l]? with
    | some (.lst _) => .ok .non (S.set l (.lst []))
    | _ => .bad
  | _, _ => .bad
theorem ms_rvs : MetS g rReverse oRvs := fun Wx σ ρ S H w v ws vs Q sm r rl h => by
  unfold oRvs at h
  split at h
  · rename_i l
    split at h
    · rename_i xs e
      cases rl
      cases r with
      | @loc _ p hp =>
        obtain ⟨ts, q, z⟩ := sm.ats l _ p e hp
        exact ⟨p, ts, rfl, rfl, q, lst_put sm e hp z.rev .non h⟩
    · exact h.elim
  · exact h.elim
theorem ms_clr : MetS g rClear oClr := fun Wx σ ρ S H w v ws vs Q sm r rl h => by
  unfold oClr at h
  split at h
  · rename_i l
    split at h
    · rename_i xs e
      cases rl
      cases r with
      | @loc _ p hp =>
        obtain ⟨ts, q, z⟩ := sm.ats l _ p e hp
        exact ⟨p, ts, rfl, rfl, q, lst_put sm e hp .nil .non h⟩
    · exact h.elim
  · exact h.elim
/-! x in xs, data -/
def cIn (a b : Va) (S : Sto) : Rs Bool := match toD S 64 a, toD S 64 b with
  | some d, some (.list ds) => bif SeqAt.shaped d && SeqAt.shaped (.list ds) then .ok (ds.any fun z => PyData.eqv z d) S else .bad
  | _, _ => .bad
def cNin (a b : Va) (S : Sto) : Rs Bool := (cIn a b S).bind fun t S1 => .ok (!t) S1
theorem in_ok {Wx : WX} {σ : L2.St} {ρ : List Addr} {S : Sto} {H : Hp} {a b : Va} {x y : V} {Q : Bool → Hp → Prop} (sm : Sim g ρ S H) (ra : Rel g ρ H a x) (rb : Rel g ρ H b y) (h : wpR g Wx σ relB ρ H (cIn a b S) Q) :
    ∃ d ds, Dp g.K H x d ∧ Dp g.K H y (.list ds) ∧ SeqAt.shaped d = true ∧ SeqAt.shaped (.list ds) = true ∧ Q (ds.any fun z => PyData.eqv z d) H := by
  unfold cIn at h
  split at h
  · rename_i d ds e1 e2
    by_cases z : (SeqAt.shaped d && SeqAt.shaped (.list ds)) = true
    · rw [z] at h
      rw [Bool.and_eq_true] at z
      exact ⟨d, ds, toD_ok sm 64 a x d e1 ra, toD_ok sm 64 b y _ e2 rb, z.1, z.2, h.fin sm rfl⟩
    · rw [Bool.not_eq_true _ |>.mp z] at h
      exact h.elim
  · exact h.elim
theorem ob_in : OpB g (rInD g.K) cIn := fun Wx σ ρ S H a b x y Q sm ra rb h => in_ok sm ra rb h
theorem ob_nin : OpB g (rNotInD g.K) cNin := fun Wx σ ρ S H a b x y Q sm ra rb h => by
  unfold cNin at h
  refine in_ok sm ra rb (Q := fun t H' => Q (.bl (!t)) H') (Wx := Wx) (σ := σ) ?_
  cases q : cIn a b S with
  | ok t S' => rw [q] at h; exact fun ρ' H' b' e s r => by cases r; exact h ρ' H' (!t) e s rfl
  | ex c fs S' => rw [q] at h; exact h
  | bad => rw [q] at h; exact h
theorem or_in {X : Cx} {Wx : WX} {k : Nat} (o : XO X g Wx k) : OpR X (compareOp .In) (rInD g.K) := by
  have := o.room.un
  exact o.K ▸ op_inD (by omega)
theorem or_nin {X : Cx} {Wx : WX} {k : Nat} (o : XO X g Wx k) : OpR X (compareOp .NotIn) (rNotInD g.K) := by
  have := o.room.un
  exact o.K ▸ op_notInD (by omega)
end
section
variable {X : Cx} {g : G} {Wx : WX} {k : Nat} {pos : Pos} {a b c : Expr} {es : List Expr} {x y z : XE} {r : XA}
theorem se_abs {p : Pos} (hm : X.mg "abs" = none) (ha : SA X g Wx [a] r) (hg : Gl X "abs" := by rfl) (he : starEach [a] X.env = (false, eval a X.env) :: starEach [] X.env := by rfl) : SE X g Wx (.Call (.Name "abs" p) [a] [] pos) (xcall fAbs r) := se_callB call_abs cs_abs hm ha hg (he := he)
theorem se_min2 (o : XO X g Wx k) {p : Pos} (hm : X.mg "min" = none) (ha : SA X g Wx [a, b] r) (hg : Gl X "min" := by rfl) (he : starEach [a, b] X.env = (false, eval a X.env) :: starEach [b] X.env := by rfl) (hpl : (backTo pos (starEach [b] X.env)).any (·.1) = false := by rfl) : SE X g Wx (.Call (.Name "min" p) [a, b] [] pos) (xcall fMin2 r) :=
  se_callB (call_min2 o.calm) cs_min2 hm ha hg (he := he) (hpl := hpl)
theorem se_max2 (o : XO X g Wx k) {p : Pos} (hm : X.mg "max" = none) (ha : SA X g Wx [a, b] r) (hg : Gl X "max" := by rfl) (he : starEach [a, b] X.env = (false, eval a X.env) :: starEach [b] X.env := by rfl) (hpl : (backTo pos (starEach [b] X.env)).any (·.1) = false := by rfl) : SE X g Wx (.Call (.Name "max" p) [a, b] [] pos) (xcall fMax2 r) :=
  se_callB (call_max2 o.calm) cs_max2 hm ha hg (he := he) (hpl := hpl)
theorem se_tuple (o : XO X g Wx k) {p : Pos} (hm : X.mg "tuple" = none) (ha : SA X g Wx [a] r) (hg : Gl X "tuple" := by rfl) (he : starEach [a] X.env = (false, eval a X.env) :: starEach [] X.env := by rfl) : SE X g Wx (.Call (.Name "tuple" p) [a] [] pos) (xcall fTup r) :=
  se_callT call_tuple_of (o.K ▸ cs_tup) hm ha hg (he := he)
theorem se_in (o : XO X g Wx k) (ha : SE X g Wx a x) (hb : SE X g Wx b y) (hm : behindInMarks .In b = false := by rfl) : SE X g Wx (.Compare a [.In] [b] pos) (xboo (xbinB cIn x y)) := se_cmp (or_in o) ob_in ha hb hm
theorem sq_in (o : XO X g Wx k) (ha : SE X g Wx a x) (hb : SE X g Wx b y) (hm : behindInMarks .In b = false := by rfl) : SQ X g Wx (.Compare a [.In] [b] pos) (xbinB cIn x y) := sq_cmp (or_in o) ob_in ha hb hm
theorem se_nin (o : XO X g Wx k) (ha : SE X g Wx a x) (hb : SE X g Wx b y) (hm : behindInMarks .NotIn b = false := by rfl) : SE X g Wx (.Compare a [.NotIn] [b] pos) (xboo (xbinB cNin x y)) := se_cmp (or_nin o) ob_nin ha hb hm
theorem sq_nin (o : XO X g Wx k) (ha : SE X g Wx a x) (hb : SE X g Wx b y) (hm : behindInMarks .NotIn b = false := by rfl) : SQ X g Wx (.Compare a [.NotIn] [b] pos) (xbinB cNin x y) := sq_cmp (or_nin o) ob_nin ha hb hm
/-- x or y, by truth -/
@[simp] def xorT (x y : XE) : XE := fun δ S => (x δ S).bind fun w S1 => (truV w S1).bind fun t S2 => if t then .ok w S2 else y δ S2
theorem truV_st {w : Va} {S S' : Sto} {t : Bool} (h : truV w S = .ok t S') : S' = S := by
  unfold truV at h
  split at h
  all_goals (try (first | (cases h; done) | (cases h; rfl; done)))
  · rename_i y
    cases q : fits y.length <;> rw [q] at h <;> cases h
    rfl
  · rename_i i
    split at h <;> cases h
    rfl
theorem truV_ne {w : Va} {S S' : Sto} {c : Nat} {fs : List Va} : truV w S ≠ .ex c fs S' := fun h => by
  unfold truV at h
  split at h
  all_goals (try (cases h; done))
  · rename_i y
    cases q : fits y.length <;> rw [q] at h <;> cases h
  · rename_i i
    split at h <;> cases h
theorem se_orT (o : XO X g Wx k) {rest : List Expr} (ha : SE X g Wx a x) (hb : SE X g Wx (.BoolOp .Or (b :: rest) pos) y) : SE X g Wx (.BoolOp .Or (a :: b :: rest) pos) (xorT x y) :=
  pe_imp (pe_orT ha hb) fun σ H Q ⟨δ, S, ρ, sm, se, h⟩ => ⟨δ, S, ρ, sm, se, wpR.imp (wpR.bind (rel := Rel g) h) fun v H1 ⟨ρ1, w, S1, e1, s1, r1, h1⟩ => by
    cases q : truV w S1 with
    | bad => rw [q] at h1; exact h1.elim
    | ex c fs S' => exact absurd q truV_ne
    | ok t S' =>
      obtain rfl := truV_st q
      rw [q] at h1
      obtain ⟨kk, tv, ek⟩ := truV_ok (Wx := Wx) (σ := σ) (Q := fun b' H' => b' = t) s1 r1 (by rw [q]; exact fun ρ' H' b' e s r => by cases r; rfl)
      subst ek
      refine ⟨kk, o.K ▸ tv, ?_⟩
      cases kk with
      | true => exact wpR.fin (a := w) h1 s1 r1
      | false => exact ⟨δ, S', ρ1, s1, se.mono e1, h1⟩⟩
theorem se_popAt (o : XO X g Wx k) {ap : Pos} (ha : SE X g Wx a x) (hr : SA X g Wx [b] r) (hbase : attributeBase a "pop" X.env (eval a X.env) = eval a X.env := by rfl)
    (hfew : ((backTo pos (starEach [b] X.env)).all (fun x => !x.1) && (backToKw pos (keywordEach [] X.env)).all (fun x => x.1.isSome) && decide ([b].length + ([] : List Keyword).length + (if ([] : List Keyword).isEmpty then 0 else 1) < 30)) = true := by rfl)
    (hline : (ap.endLine == pos.line) = true := by rfl) (hs : starEach [b] X.env = (false, eval b X.env) :: starEach [] X.env := by rfl) : SE X g Wx (.Call (.Attribute a "pop" ap) [b] [] pos) (xmetL oPop x r) :=
  pe_imp (pe_bm PySem.F.plainAttrs_list PySem.F.slot_list_pop PySem.F.type_list_pop mt_popAt ha hr hbase hfew hline hs) (by have e := o.K; have q := metL_in (Wx := Wx) (x := x) (r := r) (ms_pop (g := g)); rw [e] at q; exact q)
@[simp] def xmet0 (f : Va → List Va → Sto → Rs Va) (x : XE) : XE := fun δ S => (x δ S).bind fun w S1 => if isL w S1 then f w [] S1 else .bad
theorem met0_in {q : V → List V → Hp → VK → Prop} {f : Va → List Va → Sto → Rs Va} (hf : MetS g q f) (σ : L2.St) (H : Hp) (Q : VK) (h0 : tE g Wx (xmet0 f x) σ H Q) : tE g Wx x σ H fun v H1 => tyV g.K "list" v H1 ∧ q v [] H1 Q := by
  obtain ⟨δ, S, ρ, sm, se, h⟩ := h0
  refine ⟨δ, S, ρ, sm, se, wpR.imp (wpR.bind (rel := Rel g) h) fun v H1 ⟨ρ1, w, S1, e1, s1, r1, h1⟩ => ?_⟩
  by_cases hl : isL w S1 = true
  · rw [if_pos hl] at h1
    exact ⟨isL_ok s1 r1 hl, hf Wx σ ρ1 S1 H1 w v [] [] Q s1 r1 .nil h1⟩
  · rw [if_neg hl] at h1
    exact h1.elim
theorem se_reverse (o : XO X g Wx k) {ap : Pos} (ha : SE X g Wx a x) (hbase : attributeBase a "reverse" X.env (eval a X.env) = eval a X.env := by rfl) (hline : (ap.endLine == pos.line) = true := by rfl) : SE X g Wx (.Call (.Attribute a "reverse" ap) [] [] pos) (xmet0 oRvs x) :=
  pe_imp (pe_bm0 PySem.F.plainAttrs_list PySem.F.slot_list_reverse PySem.F.type_list_reverse mt_reverse ha hbase hline) (by have e := o.K; have q := met0_in (Wx := Wx) (x := x) (ms_rvs (g := g)); rw [e] at q; exact q)
theorem se_clear (o : XO X g Wx k) {ap : Pos} (ha : SE X g Wx a x) (hbase : attributeBase a "clear" X.env (eval a X.env) = eval a X.env := by rfl) (hline : (ap.endLine == pos.line) = true := by rfl) : SE X g Wx (.Call (.Attribute a "clear" ap) [] [] pos) (xmet0 oClr x) :=
  pe_imp (pe_bm0 PySem.F.plainAttrs_list PySem.F.slot_list_clear PySem.F.type_list_clear mt_clear ha hbase hline) (by have e := o.K; have q := met0_in (Wx := Wx) (x := x) (ms_clr (g := g)); rw [e] at q; exact q)
end
end Rz
namespace Rz
open PySem PySem.Spec PyProof.Rows L2
/-! ### instances: fields, making, properties, methods -/
/-- what is asked of the class c -/
structure ClsT (K : PySem.W.Frag) (g : G) (c : Nat) : Prop where
  cl : Cls K (g.cls c)
  nof : ∀ f ∈ g.fld c, NoAttr K (g.cls c) f
  nd : (g.fld c).Nodup
  few : (g.fld c).length < 1000
theorem lookup_at : ∀ (fs : List (Str × V)) (ns : List Str) (i : Nat) (f : Str) (v : V), fs.map (·.1) = ns → ns.Nodup → ns[i]? = some f → (fs.map (·.2))[i]? = some v → fs.lookup f = some v
  | [], _, i, _, _, e, _, _, h => by simp at h
  | (n, u) :: fs, ns, i, f, v, e, nd, h1, h2 => by
    subst e
    rw [List.map_cons] at nd h1 h2
    have nd' := List.nodup_cons.mp nd
    cases i with
    | zero =>
      simp at h1 h2
      subst h1; subst h2
      simp [List.lookup]
    | succ i =>
      simp only [List.getElem?_cons_succ] at h1 h2
      have ne : n ≠ f := fun z => nd'.1 (by rw [z]; exact List.mem_of_getElem? h1)
      have ih := lookup_at fs _ i f v rfl nd'.2 h1 h2
      simp only [List.lookup]
      rw [show (f == n) = false from beq_eq_false_iff_ne.mpr (Ne.symm ne)]
      exact ih
theorem lookup_no : ∀ (fs : List (Str × V)) (f : Str), f ∉ fs.map (·.1) → fs.lookup f = none
  | [], _, _ => rfl
  | (n, u) :: fs, f, h => by
    rw [List.map_cons, List.mem_cons, not_or] at h
    simp only [List.lookup]
    rw [show (f == n) = false from beq_eq_false_iff_ne.mpr h.1]
    exact lookup_no fs f h.2
theorem put_new : ∀ (fs : List (Str × V)) (f : Str) (v : V), f ∉ fs.map (·.1) → putF f v fs = fs ++ [(f, v)]
  | [], _, _, _ => rfl
  | (n, u) :: fs, f, v, h => by
    rw [List.map_cons, List.mem_cons, not_or] at h
    unfold putF
    rw [if_neg (Ne.symm h.1), put_new fs f v h.2]
    rfl
theorem put_old : ∀ (fs : List (Str × V)) (i : Nat) (f : Str) (v : V), (fs.map (·.1)).Nodup → (fs.map (·.1))[i]? = some f → (putF f v fs).map (·.1) = fs.map (·.1) ∧ (putF f v fs).map (·.2) = (fs.map (·.2)).set i v
  | [], i, _, _, _, h => by simp at h
  | (n, u) :: fs, i, f, v, nd, h => by
    rw [List.map_cons] at nd h
    have nd' := List.nodup_cons.mp nd
    cases i with
    | zero =>
      simp at h
      subst h
      unfold putF
      rw [if_pos rfl]
      exact ⟨rfl, rfl⟩
    | succ i =>
      simp only [List.getElem?_cons_succ] at h
      have ne : n ≠ f := fun z => nd'.1 (by rw [z]; exact List.mem_of_getElem? h)
      obtain ⟨h1, h2⟩ := put_old fs i f v nd'.2 h
      unfold putF
      rw [if_neg ne, List.map_cons, List.map_cons, List.map_cons, List.map_cons, h1, h2]
      exact ⟨rfl, rfl⟩
section
variable {X : Cx} {g : G} {Wx : WX} {k : Nat} {pos : Pos} {a b c : Expr} {es : List Expr} {x y z : XE} {r : XA}
/-- the attributes of an instance of the class c -/
@[simp] def insAt (c : Nat) (w : Va) (S : Sto) : Option (List Va) := match w with
  | .loc l => match S[l]? with
    | some (.ins c' fs) => if c' = c then some fs else none
    | _ => none
  | _ => none
theorem insAt_ok {c : Nat} {ρ : List Addr} {S : Sto} {H : Hp} {w : Va} {v : V} {fs : List Va} (sm : Sim g ρ S H) (r : Rel g ρ H w v) (h : insAt c w S = some fs) : ∃ l p dx fs', w = .loc l ∧ v = .ref p ∧ ρ[l]? = some p ∧ S[l]? = some (.ins c fs) ∧ H p = some (.ins (g.cls c) dx fs') ∧ fs'.map (·.1) = (g.fld c).take fs.length ∧ RelL g ρ H fs (fs'.map (·.2)) := by
  cases r with
  | @loc l p hp =>
    have h' : (match S[l]? with | some (.ins c' fs) => if c' = c then some fs else none | _ => none) = some fs := h
    split at h'
    · rename_i c' fs0 e
      by_cases q : c' = c
      · rw [if_pos q] at h'
        cases h'
        subst q
        obtain ⟨dx, fs', e1, e2, e3⟩ := sm.ats l _ p e hp
        exact ⟨l, p, dx, fs', rfl, rfl, hp, e, e1, e2, e3⟩
      · rw [if_neg q] at h'
        cases h'
    · cases h'
  | _ => cases h
theorem take_at {α : Type} {l : List α} {n i : Nat} {f : α} (h : l[i]? = some f) (hi : i < n) : (l.take n)[i]? = some f := by rw [List.getElem?_take, if_pos hi]; exact h
/-- e.f -/
@[simp] def xfld (c i : Nat) (x : XE) : XE := fun δ S => (x δ S).bind fun w S1 => match insAt c w S1 with
  | some fs => match fs[i]? with
    | some v => .ok v S1
    | none => .bad
  | none => .bad
theorem se_fld {f : Str} {ix : Nat} (T : ClsT X.K g k) (hf : (g.fld k)[ix]? = some f) (ha : SE X g Wx a x) (hb : attributeBase a f X.env (eval a X.env) = eval a X.env := by rfl) : SE X g Wx (.Attribute a f pos) (xfld k ix x) :=
  pe_imp (pe_fld ha hb) fun σ H Q ⟨δ, S, ρ, sm, se, h⟩ => ⟨δ, S, ρ, sm, se, wpR.imp (wpR.bind (rel := Rel g) h) fun v H1 ⟨ρ1, w, S1, e1, s1, r1, h1⟩ => by
    cases q : insAt k w S1 with
    | none => rw [q] at h1; exact h1.elim
    | some fs =>
      rw [q] at h1
      dsimp only at h1
      cases q2 : fs[ix]? with
      | none => rw [q2] at h1; exact h1.elim
      | some u =>
        rw [q2] at h1
        obtain ⟨l, p, dx, fs', rfl, rfl, hp, _, e1, e2, e3⟩ := insAt_ok s1 r1 q
        obtain ⟨v, hv, rv⟩ := e3.get q2
        have lt : ix < fs.length := (List.getElem?_eq_some_iff.mp q2).1
        exact ⟨p, g.cls k, dx, fs', v, rfl, e1, T.cl, T.nof f (List.mem_of_getElem? hf), lookup_at fs' _ ix f v e2 (T.nd.sublist (List.take_sublist _ _)) (take_at hf lt) hv, wpR.fin (a := u) h1 s1 rv⟩⟩
/-- o.f = e -/
@[simp] def sfld (c i : Nat) (x e : XE) : XS := fun δ S => (e δ S).out δ fun u S1 => (x δ S1).out δ fun w S2 => match w with
  | .loc l => match insAt c w S2 with
    | some fs => if i = fs.length then .nx δ (S2.set l (.ins c (fs ++ [u]))) else if i < fs.length then .nx δ (S2.set l (.ins c (fs.set i u))) else .bad
    | none => .bad
  | _ => .bad
theorem ss_fld {f : Str} {ix : Nat} {e : Expr} {pos' : Pos} (T : ClsT X.K g k) (hf : (g.fld k)[ix]? = some f) (he : SE X g Wx e y) (ha : SE X g Wx a x) (hs : swapsWith e (some (.Attribute a f pos')) pos.line X.env = pure false := by rfl) : SS X g Wx (.Assign [.Attribute a f pos'] e pos) (sfld k ix x y) :=
  ps_imp (ps_fld ha he hs) fun D σ H ⟨δ, S, ρ, sm, se, h⟩ => by
    refine ⟨δ, S, ρ, sm, se, wpR.imp (wpR.out (rel := Rel g) se h) fun v H1 ⟨ρ1, u, S1, e1, s1, r1, h1⟩ => ?_⟩
    refine ⟨δ, S1, ρ1, s1, se.mono e1, wpR.imp (wpR.out (rel := Rel g) (se.mono e1) h1) fun v2 H2 ⟨ρ2, w, S2, e2, s2, r2, h2⟩ => ?_⟩
    cases w with
    | loc l =>
      dsimp only at h2
      cases q : insAt k (.loc l) S2 with
      | none => rw [q] at h2; exact h2.elim
      | some fs =>
        rw [q] at h2
        dsimp only at h2
        obtain ⟨l', p, dx, fs', el, rfl, hp, hS, q1, q2, q3⟩ := insAt_ok s2 r2 q
        cases el
        have mem := List.mem_of_getElem? hf
        have ru := r1.mono e2
        have ltf := (List.getElem?_eq_some_iff.mp hf).1
        have nd := T.nd.sublist (List.take_sublist fs.length (g.fld k))
        have lnf : fs'.length = fs.length := by have := q3.length; rw [List.length_map] at this; exact this.symm
        refine ⟨p, g.cls k, dx, fs', rfl, q1, T.cl, T.nof f mem, ?_, ?_⟩
        · have : (fs'.map (·.1)).length ≤ (g.fld k).length := by rw [q2, List.length_take]; omega
          rw [List.length_map] at this
          have := T.few
          omega
        by_cases c1 : ix = fs.length
        · rw [if_pos c1] at h2
          have no : f ∉ fs'.map (·.1) := by
            rw [q2]
            intro z
            obtain ⟨j, hj, ej⟩ := List.getElem_of_mem z
            rw [List.length_take] at hj
            have z2 : (g.fld k)[j]? = some f := by
              have := List.getElem?_eq_getElem (l := (g.fld k).take fs.length) (i := j) (by rw [List.length_take]; exact hj)
              rw [ej, List.getElem?_take, if_pos (by omega)] at this
              exact this
            have := (List.getElem?_inj (i := j) (j := ix) (by omega) T.nd).mp (z2.trans hf.symm)
            omega
          have tk1 : (g.fld k).take (fs.length + 1) = (g.fld k).take fs.length ++ [f] := by rw [List.take_succ, ← c1, hf]; rfl
          obtain ⟨s3, e3⟩ := s2.put (o' := .ins k (fs ++ [u])) (u := .ins (g.cls k) dx (putF f v fs')) hS hp rfl rfl fun H' e' q' => ⟨dx, putF f v fs', q', by
            rw [put_new fs' f v no, List.map_append, q2, List.length_append]
            exact tk1.symm, by
            rw [put_new fs' f v no, List.map_append]
            exact (q3.mono e').app (.cons (ru.mono e') .nil)⟩
          exact h2 _ _ _ e3 s3 ((se.mono (e1.trans e2)).mono e3)
        · rw [if_neg c1] at h2
          by_cases c2 : ix < fs.length
          · rw [if_pos c2] at h2
            obtain ⟨p1, p2⟩ := put_old fs' ix f v (by rw [q2]; exact nd) (by rw [q2]; exact take_at hf c2)
            obtain ⟨s3, e3⟩ := s2.put (o' := .ins k (fs.set ix u)) (u := .ins (g.cls k) dx (putF f v fs')) hS hp rfl rfl fun H' e' q' => ⟨dx, putF f v fs', q', by rw [p1, q2, List.length_set], by
              rw [p2]
              exact (q3.mono e').put (ru.mono e') ix⟩
            exact h2 _ _ _ e3 s3 ((se.mono (e1.trans e2)).mono e3)
          · rw [if_neg c2] at h2
            exact h2.elim
    | _ => exact h2.elim
/-- how a def of the class stands -/
theorem guards_make {A : Around} {C : Addr} {us : List Value} {kw : List (Str × Value)} (h : A.guards = some []) : (A.under (.builtin "type.__call__" ⟨.ref C :: us, kw⟩)).guards = some [] := by
  have e : (Code.builtin "type.__call__" ⟨.ref C :: us, kw⟩).isGuard = false := by first | rfl | decide | simp [Code.isGuard]
  unfold Around.under
  simp [h, pushGuards, Code.guards, e]
/-- C(e, ..) -/
@[simp] def ynew (c n : Nat) (m : List Va → Sto → Rs Va) (r : XA) : XE := fun δ S => (r δ S).bind fun ws S1 => if ws.length + 1 = n then (m (.loc S1.length :: ws) (S1 ++ [.ins c []])).bind fun v S2 => match v with
    | .non => .ok (.loc S1.length) S2
    | _ => .bad else .bad
theorem new_ins {ρ : List Addr} {S : Sto} {H : Hp} {c : Nat} {x dx : Addr} (sm : Sim g ρ S H) (hx : H x = none) (hd : H dx = none) (ne : dx ≠ x) : Sim g (ρ ++ [x]) (S ++ [.ins c []]) (upd (upd H dx (.own x)) x (.ins (g.cls c) dx [])) ∧ Ext g ρ H (ρ ++ [x]) (upd (upd H dx (.own x)) x (.ins (g.cls c) dx [])) := by
  have h1 : upd H dx (.own x) x = none := by rw [upd_ne (Ne.symm ne)]; exact hx
  obtain ⟨s2, e2⟩ := (sm.aside (o := .own x) hd).laid (o := .ins c []) (u := .ins (g.cls c) dx []) h1 (fun ρ' H' e q => ⟨dx, [], q, by simp, .nil⟩) rfl
  exact ⟨s2, (ext_upd hd).trans e2⟩
theorem se_new (o : XO X g Wx (k + 1)) {c j n : Nat} {f : Addr} {fd : FuncData} {ps : List Str} {nm : Str} {p : Pos} {m : List Va → Sto → Rs Va} (M : Mk X.K (g.cls c) f) (F : FnG X.prog X.w X.K X.mg X.base j f fd ps (spM g n m)) (hj : j ≤ k) (hm : X.mg nm = some (.ref (g.cls c))) (hb : Binds X.K fd ps [])
    (ha : SA X g Wx (a :: es) r) (hg : Gl X nm := by rfl) (hdb : (nm == ("__debug__" : Str)) = false := by decide) (he : starEach (a :: es) X.env = (false, eval a X.env) :: starEach es X.env := by rfl) (hpl : (backTo pos (starEach es X.env)).any (·.1) = false := by rfl) : SE X g Wx (.Call (.Name nm p) (a :: es) [] pos) (ynew c n m r) := by
  refine ⟨fun pins s σ H Q I ⟨δ, S, ρ, sm, se, h⟩ => ?_⟩
  refine wpAny_Call_Name_kw (ld_glob I hg hm (PySem.W.callWith_K (h₀ := X.base) I.ok.mod.kin M.kp (thn (ha.run pos pins s σ H _ I ⟨δ, S, ρ, sm, se, wpR.bind (rel := RelL g) h⟩) fun us s1 hh => ?_) he hpl) hdb)
  obtain ⟨vs, H1, I1, rv, ρ1, ws, S1, e1, s1', r1, h1⟩ := hh
  refine ⟨I1.kIn, ?_⟩
  by_cases hn : ws.length + 1 = n
  · rw [if_pos hn] at h1
    have nx := I1.hok.fresh (a := s1.heap.objs.size + 1) (Nat.le_succ _)
    have nd := I1.hok.fresh (a := s1.heap.objs.size) (Nat.le_refl _)
    have I2 := Inv.made (C := g.cls c) I1
    obtain ⟨s2, e2⟩ := new_ins (c := c) s1' nx nd (Nat.ne_of_lt (Nat.lt_succ_self _))
    have lenS : S1.length = ρ1.length := s1'.len
    have r2 : RelL g (ρ1 ++ [s1.heap.objs.size + 1]) (upd (upd H1 s1.heap.objs.size (.own (s1.heap.objs.size + 1))) (s1.heap.objs.size + 1) (.ins (g.cls c) s1.heap.objs.size [])) (.loc S1.length :: ws) (V.ref (s1.heap.objs.size + 1) :: vs) :=
      .cons (.loc (by rw [lenS]; simp)) (r1.mono e2)
    have rv2 : Vals (V.ref (s1.heap.objs.size + 1) :: vs) (Value.ref (s1.heap.objs.size + 1) :: us) := .cons rfl rv
    have hsp : spM g n m (V.ref (s1.heap.objs.size + 1) :: vs) (upd (upd H1 s1.heap.objs.size (.own (s1.heap.objs.size + 1))) (s1.heap.objs.size + 1) (.ins (g.cls c) s1.heap.objs.size [])) (fun v H2 => v = .non ∧ Q (.ref (s1.heap.objs.size + 1)) H2) (WE Wx σ) := by
      refine ⟨by rw [List.length_cons, ← r1.length]; exact hn, _, _, _, s2, r2, ?_⟩
      cases q : m (.loc S1.length :: ws) (S1 ++ [.ins c []]) with
      | bad => rw [q] at h1; exact h1.elim
      | ex c' fs S' => rw [q] at h1; exact fun ρ' H' d e s x => h1 ρ' H' d (e2.trans e) s x
      | ok v S' =>
        rw [q] at h1
        intro ρ' H' u e s ru
        cases v with
        | non =>
          cases ru
          exact ⟨rfl, h1 ρ' H' (.ref (s1.heap.objs.size + 1)) (e2.trans e) s (.loc (e.at (by rw [lenS]; simp)))⟩
        | _ => exact h1.elim
    have hl : (Value.ref (s1.heap.objs.size + 1) :: us ++ []).length = ps.length := by
      rw [List.append_nil, ← rv2.length]
      exact F.len _ _ _ _ hsp
    have bd := hb { s1 with heap := (s1.heap.push PySem.W.emptyDict).push (PySem.W.instObj (g.cls c) s1.heap.objs.size) } (Value.ref (s1.heap.objs.size + 1) :: us) I2.kIn hl
    rw [List.append_nil] at bd
    refine wpAny_call (make_map (f := f) I1.kIn M.makes M.init (beq_iff_eq.mp M.fn) (codeAny_mono ((F.mono hj).run _ X.stack _ _ ⟨Value.ref (s1.heap.objs.size + 1) :: us, []⟩ (Value.ref (s1.heap.objs.size + 1) :: us) _ _ (WE Wx σ) (o.room.make (g.cls c) us [])
      (guards_make o.grd) (I2.env0.make (g.cls c) us []) bd rv2 hsp) fun res s' hq => ?_))
    cases res with
    | error e => exact passAt o.tk σ pins _ _ e s' I2 hq
    | ok fl =>
      cases fl with
      | ret u =>
        obtain ⟨v, H', I3, ru, ev, q3⟩ := I2.after hq
        subst ev
        exact ⟨ru, ⟨V.ref (s1.heap.objs.size + 1), H', I3, rfl, q3⟩⟩
      | next => exact False.elim hq
      | brk => exact False.elim hq
      | cont => exact False.elim hq
  · rw [if_neg hn] at h1
    exact h1.elim
end
end Rz
/-! ### a special method of an instance that is object's own: != asks == -/
namespace Rz.Nx
open PySem PySem.Spec PySem.Calls PyProof.Rows PySem.W
section
variable {prog : Program} {w : World} {M : Model} {A : Around} {E : Value → Shared → Prop} {s : Shared} {K : Frag} {x C f : Addr} {ox : Obj} {od : Option Obj}
theorem bound_B {name : Str} {id : String} {args : List Value} {Q : Option Value → Shared → Prop} (X : K.In s.heap) (I : InstAt s.heap x ox C od) (hs : findIn K (.ref C) name = some (some (.builtin id))) (hb : ∀ self, bindSpecial (.builtin id) self = pure (.builtin id, [self]))
    (h : wpAny M A (call (.builtin id) (.ref x :: args)) (fun v => Q (some v)) E s) : wpAny M A (callSpecialIfBound? (.ref x) name args) Q E s := by
  simp only [callSpecialIfBound?, bindSpecialIfBound?]
  refine wpAny_holding (wpAny_bind (wpAny_bind (wpAny_bind (I.type.here ((looks_findIn X hs).here ?_)))))
  refine wpAny_bind (wpAny_askSetting (wpAny_ite ?_))
  have fin : wpAny M A (call (.builtin id) ([.ref x] ++ args) >>= fun v => pure (some v)) Q E s := wpAny_bind (wpAny_mono h (fun v s' h' => wpAny_pure h') fun _ _ h' => h')
  split
  · exact wpAny_bind ((Looks.of_pure (hb _)).here (wpAny_pure (by exact fin)))
  · exact wpAny_tryCatch (wpAny_bind ((Looks.of_pure (hb _)).here (wpAny_pure (by exact fin))))
/-- what an own == gives, turned round -/
def NotBack (Q : Value → Shared → Prop) (v : Value) (s' : Shared) : Prop := ∃ b, v = .bool b ∧ Q (.bool (!b)) s'
open Builtin in
theorem ne_call {b : Value} {Q : Value → Shared → Prop} (hu : A.in1.units < cLine) (X : K.In s.heap) (I : InstAt s.heap x ox C od) (hm : mroIn K C (.type "object") = some true) (he : findIn K (.ref C) "__eq__" = some (some (.ref f))) (hf : isFn K (.ref f) = true)
    (h : wpAny (model prog w) A.in1 (call (.ref f) [.ref x, b]) (NotBack Q) E s) : wpAny (model prog w) A (call (.builtin "object.__ne__") [.ref x, b]) Q E s := by
  refine wpAny_call (codeAny_call_builtin PySem.F.slot_tuple_iterator_ne.plain PySem.F.cmpEntry_ne (check_slot (i := "object.__ne__") (owner := "object") (n := "__ne__") (by decide +kernel) (by decide +kernel) (I.type.andThen (looks_mroIn X hm)) (PySem.F.cmpArgs_ne _ _) ?_))
  unfold Builtin.«object.__ne__»
  refine wpAny_bind (m := slotArgs "__ne__" 1 _) (wpAny_pure ?_)
  dsimp only
  refine wpAny_bind (m := cRoomFor _ _) (wpAny_cRoomFor hu ?_)
  refine wpAny_bind (m := callSpecialIfBound? (.ref x) (Str.ofString "__eq__") _) (ifBound_K X I he hf (wpAny_mono h (fun r s' hq => ?_) fun _ _ y => y))
  obtain ⟨c, rfl, q⟩ := hq
  dsimp only
  refine wpAny_bind (wpAny_truthy_bool ?_)
  exact wpAny_pure q
theorem ne_K {b tb : Value} {L : Addr} {h₀ : Heap} {m : Str → Option Value} {Q : Value → Shared → Prop} (hu : A.units + 2 < cLine) (F : Fr h₀ L s.heap m) (X₀ : K.In h₀) (I : InstAt s.heap x ox C od) (hb : Looks (model prog w) s.heap (typeOf b) tb) (hn : notFirst K C tb = true)
    (hm : mroIn K C (.type "object") = some true) (hs : findIn K (.ref C) "__ne__" = some (some (.builtin "object.__ne__"))) (he : findIn K (.ref C) "__eq__" = some (some (.ref f))) (hf : isFn K (.ref f) = true)
    (h : wpAny (model prog w) A.in1 (call (.ref f) [.ref x, b]) (NotBack Q) E s) : wpAny (model prog w) A (richCompare .NotEq (.ref x) b) Q E s := by
  have X := X₀.keeps F.keep
  have one : wpAny (model prog w) A (tryCompare (.ref x) "__ne__" b) (fun r s' => ∃ v, r = some v ∧ Q v s') E s := by
    unfold tryCompare
    refine wpAny_bind (bound_B X I hs PySem.F.slot_tuple_iterator_ne.bind (ne_call (by rw [Around.in1_units]; omega) X I hm he hf (wpAny_mono h (fun v s' hv => ?_) fun _ _ e => e)))
    obtain ⟨c, rfl, q⟩ := hv
    exact ⟨c, rfl, wpAny_pure ⟨_, rfl, q⟩⟩
  unfold richCompare
  simp only [oneThing_ref]
  refine wpAny_holding (wpAny_bind (wpAny_cRoomFor (by omega) ?_))
  refine wpAny_bind (I.type.here (wpAny_bind (hb.here ?_)))
  split
  · rename_i q
    have e : subIn K tb (.ref C) = some false := by
      rcases Bool.or_eq_true_iff.mp hn with e | e
      · rw [beq_iff_eq.mp e] at q; simp at q
      · exact beq_iff_eq.mp e
    refine wpAny_bind ((looks_subIn X e).here ?_)
    simp only [Bool.false_eq_true, if_false]
    refine wpAny_bind (wpAny_mono one (fun r s' z => ?_) fun _ _ e => e)
    obtain ⟨v, rfl, hq⟩ := z
    exact wpAny_pure hq
  · refine wpAny_bind (wpAny_pure ?_)
    simp only [Bool.false_eq_true, if_false]
    refine wpAny_bind (wpAny_mono one (fun r s' z => ?_) fun _ _ e => e)
    obtain ⟨v, rfl, hq⟩ := z
    exact wpAny_pure hq
end
end Rz.Nx
namespace Rz
open PySem PySem.Spec PyProof.Rows L2
section
variable {X : Cx} {g : G} {Wx : WX} {k : Nat} {pos : Pos} {a b c : Expr} {es : List Expr} {x y z : XE} {r : XA}
theorem insAt_in {c : Nat} {w : Va} {S : Sto} {fs : List Va} (h : insAt c w S = some fs) : ∃ l, w = .loc l := by
  unfold insAt at h
  split at h
  · exact ⟨_, rfl⟩
  · cases h
/-- e.p, a property -/
@[simp] def yprop (c : Nat) (m : List Va → Sto → Rs Va) (x : XE) : XE := fun δ S => (x δ S).bind fun w S1 => match insAt c w S1 with
  | some _ => match m [w] S1 with
    | .ok v S2 => .ok v S2
    | _ => .bad
  | none => .bad
theorem se_prop (o : XO X g Wx (k + 1)) {c j : Nat} {nm : Str} {p f : Addr} {fd : FuncData} {ps : List Str} {m : List Va → Sto → Rs Va} (T : ClsT X.K g c) (hp : PropOf X.K (g.cls c) nm p f) (F : FnG X.prog X.w X.K X.mg X.base j f fd ps (spM g 1 m)) (hj : j ≤ k) (hb : Binds X.K fd ps [])
    (ha : SE X g Wx a x) (hab : attributeBase a nm X.env (eval a X.env) = eval a X.env := by rfl) : SE X g Wx (.Attribute a nm pos) (yprop c m x) := by
  refine ⟨fun pins s σ H Q I ⟨δ, S, ρ, sm, se, h⟩ => ?_⟩
  refine attr_of hab (thn (ha.run pins s σ H _ I ⟨δ, S, ρ, sm, se, wpR.bind (rel := Rel g) h⟩) fun u s1 hh => ?_)
  obtain ⟨v, H1, I1, rv, ρ1, w, S1, e1, s1', r1, h1⟩ := hh
  cases q : insAt c w S1 with
  | none => rw [q] at h1; exact h1.elim
  | some fs =>
    rw [q] at h1
    dsimp only at h1
    obtain ⟨l, pa, dx, fs', rfl, rfl, hpl, hS, q1, q2, q3⟩ := insAt_ok s1' r1 q
    obtain rfl : u = Value.ref pa := rv
    obtain ⟨mA, O, _, _, _, _⟩ := ins_get I1.hok q1
    obtain ⟨od, J, _⟩ := O.look
    obtain ⟨rest, hrec⟩ := hp.rec_
    have hsp : spM g 1 m [.ref pa] H1 Q (fun _ _ _ => False) := by
      refine ⟨rfl, [.loc l], S1, ρ1, s1', .cons r1 .nil, ?_⟩
      cases z : m [.loc l] S1 with
      | ok w S' => rw [z] at h1; exact h1
      | ex c' fs S' => rw [z] at h1; exact h1.elim
      | bad => rw [z] at h1; exact h1.elim
    have hl : ([Value.ref pa] ++ []).length = ps.length := F.len _ _ _ _ hsp
    have hc : (PySem.W.clsIn X.K (g.cls c)).isSome = true := by
      obtain ⟨cd, hc, _⟩ := PySem.W.any_some T.cl.hd
      rw [hc]
      rfl
    have bd := hb { s1 with toks := s1.toks + 1 } [.ref pa] I1.kIn hl
    rw [List.append_nil] at bd
    refine PySem.W.get_bind I1.kIn J (PySem.W.plainGet_of (T.cl.get nm)).1 (PySem.W.findObj_data hc hp.at_ hp.get hp.tak) (PySem.W.plainGet_of (T.cl.get nm)).2 (wpAny_call (PySem.W.prop_get (s := { s1 with toks := s1.toks + 1 }) I1.kIn hrec ?_))
    refine codeAny_mono ((F.mono hj).run X.A.in1 X.stack { s1 with toks := s1.toks + 1 } H1 ⟨[.ref pa], []⟩ [.ref pa] [.ref pa] Q _ o.room.in1 o.grd (I1.tok _).env0.in1 bd (.cons rfl .nil) hsp) fun res s' hq => ?_
    cases res with
    | error er =>
      obtain ⟨c', _, d, _, _, _, hf⟩ := hq
      exact hf.2.2.2.2.2.2.elim
    | ok fl =>
      cases fl with
      | ret u =>
        obtain ⟨v, H', I3, rv, q3⟩ := (I1.tok (s1.toks + 1)).after hq
        show wpAny _ _ (handedOut u) _ _ _
        rw [PySem.W.handedOut_of (handed_of rv)]
        exact wpAny_pure ⟨v, H', I3, rv, q3⟩
      | next => exact False.elim hq
      | brk => exact False.elim hq
      | cont => exact False.elim hq
/-- o.m(e, ..) -/
@[simp] def ymeth (c n : Nat) (m : List Va → Sto → Rs Va) (x : XE) (r : XA) : XE := fun δ S => (x δ S).bind fun w S1 => match insAt c w S1 with
  | some _ => (r δ S1).bind fun ws S2 => if ws.length + 1 = n then m (w :: ws) S2 else .bad
  | none => .bad
theorem no_name {ns : List Str} {n : Nat} {nm : Str} (h : nm ∉ ns) : nm ∉ ns.take n := fun z => h (List.mem_of_mem_take z)
theorem se_meth (o : XO X g Wx k) {c j n : Nat} {nm : Str} {f : Addr} {fd : FuncData} {ps : List Str} {m : List Va → Sto → Rs Va} {apos : Pos} {pl : Sem Bool} (T : ClsT X.K g c) (hM : Meth X.K (g.cls c) nm f) (hno : nm ∉ g.fld c) (F : FnG X.prog X.w X.K X.mg X.base j f fd ps (spM g n m)) (hj : j ≤ k) (hb : Binds X.K fd ps [])
    (ha : SE X g Wx a x) (hr : SA X g Wx (b :: es) r) (hst : starEach (b :: es) X.env = (false, eval b X.env) :: starEach es X.env := by rfl) (hpl : (backTo pos (starEach es X.env)).any (·.1) = false := by rfl)
    (ht : eval (.Call (.Attribute a nm apos) (b :: es) [] pos) X.env = (do
      let ov ← eval a X.env
      standAt apos.atName
      let (f, first) ← holding [ov] (getMethod ov nm pl)
      callWith pos f first (backTo pos (starEach (b :: es) X.env)) (backToKw pos (keywordEach [] X.env))) := by rfl) : SE X g Wx (.Call (.Attribute a nm apos) (b :: es) [] pos) (ymeth c n m x r) := by
  refine ⟨fun pins s σ H Q I ⟨δ, S, ρ, sm, se, h⟩ => ?_⟩
  refine PySem.W.methodCall_KW (pl := pl) (thn (ha.run pins s σ H _ I ⟨δ, S, ρ, sm, se, wpR.bind (rel := Rel g) h⟩) fun u s1 hh => ?_) ht
  obtain ⟨v, H1, I1, rv, ρ1, w, S1, e1, s1', r1, h1⟩ := hh
  cases q : insAt c w S1 with
  | none => rw [q] at h1; exact h1.elim
  | some fs =>
    rw [q] at h1
    dsimp only at h1
    obtain ⟨l, pa, dx, fs', rfl, rfl, hpl', hS, q1, q2, q3⟩ := insAt_ok s1' r1 q
    obtain rfl : u = Value.ref pa := rv
    refine getmeth_ok I1 q1 T.cl hM (lookup_no fs' nm (by rw [q2]; exact no_name hno)) ?_
    refine PySem.W.callWith_K (first := [.ref pa]) (h₀ := X.base) I.ok.mod.kin hM.kp (thn (hr.run pos pins s1 σ H1 _ I1 ⟨δ, S1, ρ1, s1', se.mono e1, wpR.bind (rel := RelL g) h1⟩) fun us s2 hh => ?_) hst hpl
    obtain ⟨vs, H2, I2, rvs, ρ2, ws, S2, e2, s2', r2, h2⟩ := hh
    refine ⟨I2.kIn, ?_⟩
    by_cases hn : ws.length + 1 = n
    · rw [if_pos hn] at h2
      exact run_g (us := .ref pa :: us) (vs := V.ref pa :: vs) (ws := .loc l :: ws) o (F.mono hj) hb (by simpa using hn) s2' (.cons (r1.mono e2) r2) I2 (.cons rfl rvs) h2
    · rw [if_neg hn] at h2
      exact h2.elim
theorem se_meth0 (o : XO X g Wx k) {c j n : Nat} {nm : Str} {f : Addr} {fd : FuncData} {ps : List Str} {m : List Va → Sto → Rs Va} {apos : Pos} {pl : Sem Bool} (T : ClsT X.K g c) (hM : Meth X.K (g.cls c) nm f) (hno : nm ∉ g.fld c) (F : FnG X.prog X.w X.K X.mg X.base j f fd ps (spM g n m)) (hj : j ≤ k) (hb : Binds X.K fd ps [])
    (ha : SE X g Wx a x)
    (ht : eval (.Call (.Attribute a nm apos) [] [] pos) X.env = (do
      let ov ← eval a X.env
      standAt apos.atName
      let (f, first) ← holding [ov] (getMethod ov nm pl)
      callWith pos f first (backTo pos (starEach [] X.env)) (backToKw pos (keywordEach [] X.env))) := by rfl) : SE X g Wx (.Call (.Attribute a nm apos) [] [] pos) (ymeth c n m x anil) := by
  refine ⟨fun pins s σ H Q I ⟨δ, S, ρ, sm, se, h⟩ => ?_⟩
  refine PySem.W.methodCall_KW (pl := pl) (thn (ha.run pins s σ H _ I ⟨δ, S, ρ, sm, se, wpR.bind (rel := Rel g) h⟩) fun u s1 hh => ?_) ht
  obtain ⟨v, H1, I1, rv, ρ1, w, S1, e1, s1', r1, h1⟩ := hh
  cases q : insAt c w S1 with
  | none => rw [q] at h1; exact h1.elim
  | some fs =>
    rw [q] at h1
    dsimp only at h1
    obtain ⟨l, pa, dx, fs', rfl, rfl, hpl', hS, q1, q2, q3⟩ := insAt_ok s1' r1 q
    obtain rfl : u = Value.ref pa := rv
    refine getmeth_ok I1 q1 T.cl hM (lookup_no fs' nm (by rw [q2]; exact no_name hno)) ?_
    have h2 : wpR g Wx σ (Rel g) ρ1 H1 (if ([] : List Va).length + 1 = n then m [.loc l] S1 else .bad) Q := h1
    by_cases hn : ([] : List Va).length + 1 = n
    · rw [if_pos hn] at h2
      exact PySem.W.callWith_K0 (first := [.ref pa]) I1.kIn hM.kp (run_g (us := [.ref pa]) (vs := [V.ref pa]) (ws := [.loc l]) o (F.mono hj) hb (by simpa using hn) s1' (.cons r1 .nil) I1 (.cons rfl .nil) h2)
    · rw [if_neg hn] at h2
      exact h2.elim
/-! isinstance of an own class -/
structure IsC (K : PySem.W.Frag) (g : G) (c : Nat) : Prop where
  ins : C8.InsC K (g.cls c)
  base : ∀ n, n < 7 → PySem.W.kitOne K (.type (tyName n)) (.ref (g.cls c)) = some false
@[simp] def fIsC (c : Nat) (ws : List Va) (S : Sto) : Rs Va := match ws with
  | [w, .cl d] => if d = c then (match insAt c w S with
    | some _ => .ok (.bl true) S
    | none => match kind w S with
      | some _ => .ok (.bl false) S
      | none => .bad) else .bad
  | _ => .bad
theorem cs_isC {K : PySem.W.Frag} {c : Nat} (hK : g.K = K) (T : IsC K g c) : CalS g (rIsi K) (fIsC c) := fun Wx σ ρ S H ws vs Q sm rl h => by
  unfold fIsC at h
  split at h
  · rename_i w d
    by_cases ed : d = c
    · rw [if_pos ed] at h
      subst ed
      cases rl with
      | cons ra rn =>
        cases rn with
        | cons rb rn =>
          cases rn
          cases rb
          cases e : insAt d w S with
          | some fs =>
            rw [e] at h
            obtain ⟨l, pa, dx, fs', rfl, rfl, hpl, hS, q1, q2, q3⟩ := insAt_ok sm ra e
            exact ⟨_, _, _, _, true, rfl, .own _, .base (.ins q1 T.ins.cl T.ins.ha T.ins.hn T.ins.htk T.ins.hm), T.ins.me, h.fin sm (.bl _)⟩
          | none =>
            rw [e] at h
            dsimp only at h
            cases e2 : kind w S with
            | none => rw [e2] at h; exact h.elim
            | some n =>
              rw [e2] at h
              exact ⟨_, _, _, _, false, rfl, .own _, hK ▸ kind_ok sm ra e2, T.base n (kind_lt e2), h.fin sm (.bl _)⟩
    · rw [if_neg ed] at h
      exact h.elim
  · exact h.elim
theorem se_isC (o : XO X g Wx k) {c : Nat} {p : Pos} (T : IsC X.K g c) (hm : X.mg "isinstance" = none) (ha : SA X g Wx [a, b] r) (hg : Gl X "isinstance" := by rfl) (he : starEach [a, b] X.env = (false, eval a X.env) :: starEach [b] X.env := by rfl) (hpl : (backTo pos (starEach [b] X.env)).any (·.1) = false := by rfl) :
    SE X g Wx (.Call (.Name "isinstance" p) [a, b] [] pos) (xcall (fIsC c) r) := se_callB call_isi (cs_isC o.K T) hm ha hg (he := he) (hpl := hpl)
/-! == and != of instances with an own == -/
structure EqC (K : PySem.W.Frag) (g : G) (c : Nat) (f : Addr) : Prop where
  eq : PySem.W.findIn K (.ref (g.cls c)) "__eq__" = some (some (.ref f))
  ne : PySem.W.findIn K (.ref (g.cls c)) "__ne__" = some (some (.builtin "object.__ne__"))
  fn : PySem.W.isFn K (.ref f) = true
  mro : PySem.W.mroIn K (g.cls c) (.type "object") = some true
  sub : ∀ n, n < 7 → PySem.W.subIn K (.type (tyName n)) (.ref (g.cls c)) = some false
def cEqO (c : Nat) (m : List Va → Sto → Rs Va) (a b : Va) (S : Sto) : Rs Bool := match insAt c a S with
  | some _ => match (insAt c b S).isSome || (kind b S).isSome with
    | true => match m [a, b] S with
      | .ok (.bl t) S1 => .ok t S1
      | _ => .bad
    | false => .bad
  | none => .bad
def cNeO (c : Nat) (m : List Va → Sto → Rs Va) (a b : Va) (S : Sto) : Rs Bool := match cEqO c m a b S with
  | .ok t S1 => .ok (!t) S1
  | _ => .bad
theorem cEqO_ok {c : Nat} {m : List Va → Sto → Rs Va} {a b : Va} {S S1 : Sto} {t : Bool} (h : cEqO c m a b S = .ok t S1) : (∃ fs, insAt c a S = some fs) ∧ ((insAt c b S).isSome || (kind b S).isSome) = true ∧ m [a, b] S = .ok (.bl t) S1 := by
  unfold cEqO at h
  cases q : insAt c a S with
  | none => rw [q] at h; cases h
  | some fs =>
    rw [q] at h
    dsimp only at h
    cases q2 : (insAt c b S).isSome || (kind b S).isSome with
    | false => rw [q2] at h; cases h
    | true =>
      rw [q2] at h
      dsimp only at h
      refine ⟨⟨fs, rfl⟩, rfl, ?_⟩
      split at h
      · rename_i t' S' e
        cases h
        exact e
      · cases h
theorem cNeO_ok {c : Nat} {m : List Va → Sto → Rs Va} {a b : Va} {S S1 : Sto} {t : Bool} (h : cNeO c m a b S = .ok t S1) : cEqO c m a b S = .ok (!t) S1 := by
  unfold cNeO at h
  split at h
  · rename_i t' S' e
    cases h
    rw [e, Bool.not_not]
  · cases h
theorem looks_b {c : Nat} {f : Addr} {pins : List (Addr × Obj)} {σ : L2.St} {ρ : List Addr} {S : Sto} {H : Hp} {s : Shared} {w : Va} {v : V} {u : Value} (E : EqC X.K g c f) (hK : g.K = X.K) (T : IsC X.K g c) (I : Inv X pins σ H s) (sm : Sim g ρ S H) (r : Rel g ρ H w v) (rv : RelV v u) (h : ((insAt c w S).isSome || (kind w S).isSome) = true) :
    ∃ tb, PySem.W.Looks (model X.prog X.w) s.heap (typeOf u) tb ∧ PySem.W.notFirst X.K (g.cls c) tb = true := by
  rcases Bool.or_eq_true _ _ ▸ h with h | h
  · obtain ⟨fs, e⟩ := Option.isSome_iff_exists.mp h
    obtain ⟨l, pa, dx, fs', rfl, rfl, hpl, hS, q1, q2, q3⟩ := insAt_ok sm r e
    obtain rfl : u = Value.ref pa := rv
    obtain ⟨mA, O, _, _, _, _⟩ := ins_get I.hok q1
    obtain ⟨od, J, _⟩ := O.look
    exact ⟨_, J.type, by unfold PySem.W.notFirst; simp⟩
  · obtain ⟨n, e⟩ := Option.isSome_iff_exists.mp h
    obtain ⟨P, Z, p, hx⟩ := kit_of I rv (hK ▸ kind_ok sm r e)
    exact ⟨_, Z.ty _ _ I.kIn p, by unfold PySem.W.notFirst; rw [E.sub n (kind_lt e)]; simp⟩
/-- the own ==, run -/
theorem run_eq (o : XO X g Wx (k + 1)) {c j : Nat} {f : Addr} {fd : FuncData} {ps : List Str} {m : List Va → Sto → Rs Va} (F : FnG X.prog X.w X.K X.mg X.base j f fd ps (spM g 2 m)) (hj : j ≤ k) (hb : Binds X.K fd ps []) {A : Around} (hA : A = X.A ∨ A = X.A.in1) {pins : List (Addr × Obj)} {σ : L2.St} {ρ : List Addr} {S : Sto} {H : Hp} {s : Shared} {a b : Va} {x y : V} {u v : Value} {Q : Bool → Hp → Prop}
    (I : Inv X pins σ H s) (sm : Sim g ρ S H) (ra : Rel g ρ H a x) (rb : Rel g ρ H b y) (rx : RelV x u) (ry : RelV y v) (h : wpR g Wx σ relB ρ H ((m [a, b] S).bind fun v S1 => match v with | .bl t => .ok t S1 | _ => .bad) Q) :
    wpAny (model X.prog X.w) A (call (.ref f) [u, v]) (fun r s' => ∃ t H', r = .bool t ∧ Inv X pins σ H' s' ∧ Q t H') X.xe s := by
  have rA : Room k A := by
    rcases hA with rfl | rfl
    · exact o.room.mono (Nat.le_succ _)
    · exact o.room.in1
  have gA : A.guards = some [] := by
    rcases hA with rfl | rfl
    · exact o.grd
    · exact o.grd
  have eA : Env0 X.prog X.w X.K X.mg X.base A X.stack s H := by
    rcases hA with rfl | rfl
    · exact I.env0
    · exact I.env0.in1
  have hsp : spM g 2 m [x, y] H (fun v H' => ∃ t, v = .bl t ∧ Q t H') (WE Wx σ) := by
    refine ⟨rfl, [a, b], S, ρ, sm, .cons ra (.cons rb .nil), ?_⟩
    cases z : m [a, b] S with
    | bad => rw [z] at h; exact h.elim
    | ex c' fs S' => rw [z] at h; exact h
    | ok w S' =>
      rw [z] at h
      intro ρ' H' u e s r
      cases w with
      | bl t => cases r; exact ⟨t, rfl, h ρ' H' t e s rfl⟩
      | _ => exact h.elim
  have hl : ([u, v] ++ []).length = ps.length := F.len _ _ _ _ hsp
  have bd := hb s [u, v] I.kIn hl
  rw [List.append_nil] at bd
  refine wpAny_call (codeAny_mono ((F.mono hj).run A X.stack s H ⟨[u, v], []⟩ [u, v] [x, y] _ _ rA gA eA bd (.cons rx (.cons ry .nil)) hsp) fun res s' hq => ?_)
  cases res with
  | error e => exact passAt o.tk σ pins H s e s' I hq
  | ok fl =>
    cases fl with
    | ret w =>
      obtain ⟨z, H', I', rz, t, ez, q⟩ := I.after hq
      subst ez
      cases rz
      exact ⟨t, H', rfl, I', q⟩
    | next => exact False.elim hq
    | brk => exact False.elim hq
    | cont => exact False.elim hq
def rEqO (g : G) (f : Va → Va → Sto → Rs Bool) : R2 := fun x y H Q => ∃ ρ S a b t S1, Sim g ρ S H ∧ Rel g ρ H a x ∧ Rel g ρ H b y ∧ f a b S = .ok t S1 ∧ ∀ ρ' H', Ext g ρ H ρ' H' → Sim g ρ' S1 H' → Q (.bl t) H'
theorem ob_eqO {f : Va → Va → Sto → Rs Bool} (no : ∀ a b S c fs S', f a b S ≠ .ex c fs S') : OpB g (rEqO g f) f := fun Wx σ ρ S H a b x y Q sm ra rb h => by
  cases q : f a b S with
  | bad => rw [q] at h; exact h.elim
  | ex c fs S' => exact absurd q (no a b S c fs S')
  | ok t S1 =>
    rw [q] at h
    exact ⟨ρ, S, a, b, t, S1, sm, ra, rb, q, fun ρ' H' e s => h ρ' H' t e s rfl⟩
theorem eqO_nx {c : Nat} {m : List Va → Sto → Rs Va} (a b : Va) (S : Sto) (c' : Nat) (fs : List Va) (S' : Sto) : cEqO c m a b S ≠ .ex c' fs S' := fun h => by
  unfold cEqO at h
  repeat' split at h
  all_goals cases h
theorem neO_nx {c : Nat} {m : List Va → Sto → Rs Va} (a b : Va) (S : Sto) (c' : Nat) (fs : List Va) (S' : Sto) : cNeO c m a b S ≠ .ex c' fs S' := fun h => by
  unfold cNeO at h
  split at h
  all_goals cases h
theorem or_eqO (o : XO X g Wx (k + 1)) {c j : Nat} {f : Addr} {fd : FuncData} {ps : List Str} {m : List Va → Sto → Rs Va} (E : EqC X.K g c f) (T : IsC X.K g c) (F : FnG X.prog X.w X.K X.mg X.base j f fd ps (spM g 2 m)) (hj : j ≤ k) (hb : Binds X.K fd ps []) : OpR X (compareOp .Eq) (rEqO g (cEqO c m)) := by
  intro pins s σ H x y v u Q I rx ry h
  obtain ⟨ρ, S, a, b, t, S1, sm, ra, rb, e, h⟩ := h
  obtain ⟨⟨fs, q⟩, q2, em⟩ := cEqO_ok e
  obtain ⟨tb, lk, nf⟩ := looks_b E o.K T I sm rb ry q2
  obtain ⟨l, pa, dx, fs', rfl, rfl, hpl, hS, q1, _, _⟩ := insAt_ok sm ra q
  obtain rfl : v = Value.ref pa := rx
  obtain ⟨mA, O, _, _, _, _⟩ := ins_get I.hok q1
  obtain ⟨od, J, _⟩ := O.look
  obtain ⟨m', hF⟩ := I.fr
  show wpAny _ _ (richCompare .Eq (.ref pa) u) _ _ _
  refine PySem.W.cmp_K (op := .Eq) (tb := tb) o.room.units0 hF I.ok.mod.kin J lk nf E.eq E.fn (wpAny_mono (run_eq o (c := c) (Q := fun t H' => Q (.bl t) H') F hj hb (.inl rfl) I sm ra rb rfl ry (by rw [em]; exact fun ρ' H' b' e s r => by cases r; exact h ρ' H' e s)) (fun r s' hr => ?_) fun _ _ e => e)
  obtain ⟨t', H', rfl, I', q⟩ := hr
  exact ⟨.bl t', H', I', rfl, q⟩
theorem or_neO (o : XO X g Wx (k + 1)) {c j : Nat} {f : Addr} {fd : FuncData} {ps : List Str} {m : List Va → Sto → Rs Va} (E : EqC X.K g c f) (T : IsC X.K g c) (F : FnG X.prog X.w X.K X.mg X.base j f fd ps (spM g 2 m)) (hj : j ≤ k) (hb : Binds X.K fd ps []) : OpR X (compareOp .NotEq) (rEqO g (cNeO c m)) := by
  intro pins s σ H x y v u Q I rx ry h
  obtain ⟨ρ, S, a, b, t, S1, sm, ra, rb, e, h⟩ := h
  obtain ⟨⟨fs, q⟩, q2, em⟩ := cEqO_ok (cNeO_ok e)
  obtain ⟨tb, lk, nf⟩ := looks_b E o.K T I sm rb ry q2
  obtain ⟨l, pa, dx, fs', rfl, rfl, hpl, hS, q1, _, _⟩ := insAt_ok sm ra q
  obtain rfl : v = Value.ref pa := rx
  obtain ⟨mA, O, _, _, _, _⟩ := ins_get I.hok q1
  obtain ⟨od, J, _⟩ := O.look
  obtain ⟨m', hF⟩ := I.fr
  have hu := o.room.un
  show wpAny _ _ (richCompare .NotEq (.ref pa) u) _ _ _
  refine Nx.ne_K (tb := tb) (by omega) hF I.ok.mod.kin J lk nf E.mro E.ne E.eq E.fn (wpAny_mono (run_eq o (c := c) (Q := fun t H' => Q (.bl (!t)) H') F hj hb (.inr rfl) I sm ra rb rfl ry (by rw [em]; exact fun ρ' H' b' e s r => by cases r; rw [Bool.not_not]; exact h ρ' H' e s)) (fun r s' hr => ?_) fun _ _ e => e)
  obtain ⟨t', H', rfl, I', q⟩ := hr
  exact ⟨t', rfl, ⟨.bl (!t'), H', I', rfl, q⟩⟩
end
end Rz
namespace Rz
open PySem PySem.Spec PyProof.Rows L2
/-! ### the defs of a class, as a text calls them -/
structure CalN (P : Program) (w : World) (K : PySem.W.Frag) (mg : Str → Option Value) (base : Heap) (g : G) (c k n : Nat) (m : List Va → Sto → Rs Va) : Prop where
  ex : ∃ f fd ps, FnG P w K mg base k f fd ps (spM g n m) ∧ Mk K (g.cls c) f ∧ Binds K fd ps []
structure CalM (P : Program) (w : World) (K : PySem.W.Frag) (mg : Str → Option Value) (base : Heap) (g : G) (c : Nat) (nm : Str) (k n : Nat) (m : List Va → Sto → Rs Va) : Prop where
  ex : ∃ f fd ps, FnG P w K mg base k f fd ps (spM g n m) ∧ Meth K (g.cls c) nm f ∧ Binds K fd ps []
structure CalP (P : Program) (w : World) (K : PySem.W.Frag) (mg : Str → Option Value) (base : Heap) (g : G) (c : Nat) (nm : Str) (k : Nat) (m : List Va → Sto → Rs Va) : Prop where
  ex : ∃ p f fd ps, FnG P w K mg base k f fd ps (spM g 1 m) ∧ PropOf K (g.cls c) nm p f ∧ Binds K fd ps []
structure CalQ (P : Program) (w : World) (K : PySem.W.Frag) (mg : Str → Option Value) (base : Heap) (g : G) (c k : Nat) (m : List Va → Sto → Rs Va) : Prop where
  ex : ∃ f fd ps, FnG P w K mg base k f fd ps (spM g 2 m) ∧ EqC K g c f ∧ Binds K fd ps []
/-- a def of a class -/
structure DefT (K : PySem.W.Frag) (nm qual : Str) (st : Stmt) (ps : List Str) (f : Addr) (fd : FuncData) : Prop where
  F : Fun K nm qual st f fd
  b : Binds K fd ps []
section
variable {X : Cx} {g : G} {Wx : WX} {k : Nat} {pos : Pos} {a b c : Expr} {es : List Expr} {x y z : XE} {r : XA}
theorem se_newd (o : XO X g Wx (k + 1)) {c j n : Nat} {nm : Str} {p : Pos} {m : List Va → Sto → Rs Va} (C : CalN X.prog X.w X.K X.mg X.base g c j n m) (hm : X.mg nm = some (.ref (g.cls c))) (hj : j ≤ k)
    (ha : SA X g Wx (a :: es) r) (hg : Gl X nm := by rfl) (hdb : (nm == ("__debug__" : Str)) = false := by decide) (he : starEach (a :: es) X.env = (false, eval a X.env) :: starEach es X.env := by rfl) (hpl : (backTo pos (starEach es X.env)).any (·.1) = false := by rfl) : SE X g Wx (.Call (.Name nm p) (a :: es) [] pos) (ynew c n m r) := by
  obtain ⟨f, fd, ps, F, M, B⟩ := C.ex
  exact se_new o M F hj hm B ha hg hdb he hpl
theorem se_methd (o : XO X g Wx k) {c j n : Nat} {nm : Str} {m : List Va → Sto → Rs Va} {apos : Pos} (T : ClsT X.K g c) (C : CalM X.prog X.w X.K X.mg X.base g c nm j n m) (hno : nm ∉ g.fld c) (hj : j ≤ k) (ha : SE X g Wx a x) (hr : SA X g Wx (b :: es) r) {pl : Sem Bool}
    (hst : starEach (b :: es) X.env = (false, eval b X.env) :: starEach es X.env := by rfl) (hpl : (backTo pos (starEach es X.env)).any (·.1) = false := by rfl)
    (ht : eval (.Call (.Attribute a nm apos) (b :: es) [] pos) X.env = (do
      let ov ← eval a X.env
      standAt apos.atName
      let (f, first) ← holding [ov] (getMethod ov nm pl)
      callWith pos f first (backTo pos (starEach (b :: es) X.env)) (backToKw pos (keywordEach [] X.env))) := by rfl) : SE X g Wx (.Call (.Attribute a nm apos) (b :: es) [] pos) (ymeth c n m x r) := by
  obtain ⟨f, fd, ps, F, M, B⟩ := C.ex
  exact se_meth o T M hno F hj B ha hr hst hpl ht
theorem se_methd0 (o : XO X g Wx k) {c j n : Nat} {nm : Str} {m : List Va → Sto → Rs Va} {apos : Pos} (T : ClsT X.K g c) (C : CalM X.prog X.w X.K X.mg X.base g c nm j n m) (hno : nm ∉ g.fld c) (hj : j ≤ k) (ha : SE X g Wx a x) {pl : Sem Bool}
    (ht : eval (.Call (.Attribute a nm apos) [] [] pos) X.env = (do
      let ov ← eval a X.env
      standAt apos.atName
      let (f, first) ← holding [ov] (getMethod ov nm pl)
      callWith pos f first (backTo pos (starEach [] X.env)) (backToKw pos (keywordEach [] X.env))) := by rfl) : SE X g Wx (.Call (.Attribute a nm apos) [] [] pos) (ymeth c n m x anil) := by
  obtain ⟨f, fd, ps, F, M, B⟩ := C.ex
  exact se_meth0 o T M hno F hj B ha ht
theorem se_propd (o : XO X g Wx (k + 1)) {c j : Nat} {nm : Str} {m : List Va → Sto → Rs Va} (T : ClsT X.K g c) (C : CalP X.prog X.w X.K X.mg X.base g c nm j m) (hj : j ≤ k) (ha : SE X g Wx a x) (hab : attributeBase a nm X.env (eval a X.env) = eval a X.env := by rfl) : SE X g Wx (.Attribute a nm pos) (yprop c m x) := by
  obtain ⟨p, f, fd, ps, F, M, B⟩ := C.ex
  exact se_prop o T M F hj B ha hab
theorem or_eqd (o : XO X g Wx (k + 1)) {c j : Nat} {m : List Va → Sto → Rs Va} (C : CalQ X.prog X.w X.K X.mg X.base g c j m) (T : IsC X.K g c) (hj : j ≤ k) : OpR X (compareOp .Eq) (rEqO g (cEqO c m)) := by
  obtain ⟨f, fd, ps, F, M, B⟩ := C.ex
  exact or_eqO o M T F hj B
theorem or_ned (o : XO X g Wx (k + 1)) {c j : Nat} {m : List Va → Sto → Rs Va} (C : CalQ X.prog X.w X.K X.mg X.base g c j m) (T : IsC X.K g c) (hj : j ≤ k) : OpR X (compareOp .NotEq) (rEqO g (cNeO c m)) := by
  obtain ⟨f, fd, ps, F, M, B⟩ := C.ex
  exact or_neO o M T F hj B
end
end Rz
namespace Rz
open PySem PySem.Spec PyProof.Rows L2
theorem sub_ty {K : PySem.W.Frag} {C : Addr} {n : Nat} (h : n < 7) : PySem.W.subIn K (.type (tyName n)) (.ref C) = some false := by
  have : n = 0 ∨ n = 1 ∨ n = 2 ∨ n = 3 ∨ n = 4 ∨ n = 5 ∨ n = 6 := by omega
  rcases this with rfl | rfl | rfl | rfl | rfl | rfl | rfl <;> rfl
theorem kit_ty {K : PySem.W.Frag} {C : Addr} {n : Nat} (hc : PySem.W.isClsIn K C = true) (ht : PySem.W.typeIn K (.ref C) = some (.type "type")) (h : n < 7) : PySem.W.kitOne K (.type (tyName n)) (.ref C) = some false := by
  have hc' : (PySem.W.clsIn K C).isSome = true := hc
  unfold PySem.W.kitOne PySem.W.kitCls
  have : n = 0 ∨ n = 1 ∨ n = 2 ∨ n = 3 ∨ n = 4 ∨ n = 5 ∨ n = 6 := by omega
  have s := sub_ty (K := K) (C := C) h
  rcases this with rfl | rfl | rfl | rfl | rfl | rfl | rfl <;> simp [hc', ht, s]
theorem kit_me {K : PySem.W.Frag} {C : Addr} : PySem.W.kitOne K (.ref C) (.ref C) = some true := by
  unfold PySem.W.kitOne
  simp
theorem isc_mk {K : PySem.W.Frag} {g : G} {c : Nat} (cl : Cls K (g.cls c)) (ha : PySem.W.findIn K (.ref (g.cls c)) "__class__" = some (some (.builtin "object.__class__")))
    (hn : PySem.W.specialIn K (.builtin "object.__class__") "__get__" = some (some (.builtin "getset_descriptor.__get__"))) (htk : PySem.W.takesIn K (.builtin "object.__class__") = some true) (hm : PySem.W.mroIn K (g.cls c) (.type "object") = some true)
    (hc : PySem.W.isClsIn K (g.cls c) = true) (ht : PySem.W.typeIn K (.ref (g.cls c)) = some (.type "type")) : IsC K g c := ⟨⟨cl, ha, hn, htk, hm, kit_me⟩, fun n h => kit_ty hc ht h⟩
theorem clsT_mk {K : PySem.W.Frag} {g : G} {c : Nat} (cl : Cls K (g.cls c)) (no : ∀ f ∈ g.fld c, PySem.W.findIn K (.ref (g.cls c)) f = some none) (nd : (g.fld c).Nodup) (few : (g.fld c).length < 1000) : ClsT K g c := ⟨cl, no, nd, few⟩
end Rz
namespace Rz
open PySem PySem.Spec PyProof.Rows L2
/-! ### steps with instances -/
section
variable {δ δ1 : Env} {S S1 S2 S3 : Sto} {x y z : XE} {as : XA} {v w : Va} {ws us fs : List Va} {i j l n c : Nat} {m : List Va → Sto → Rs Va}
theorem insAt_eq (h : S[i]? = some (.ins c fs)) : insAt c (.loc i) S = some fs := by
  show (match S[i]? with | some (.ins c' fs) => if c' = c then some fs else none | _ => none) = some fs
  rw [h]
  exact if_pos rfl
theorem fld_at (h : x δ S = .ok (.loc i) S1) (h1 : S1[i]? = some (.ins c fs)) (h2 : fs[j]? = some v) : xfld c j x δ S = .ok v S1 := by
  unfold xfld
  rw [h, bind_ok, insAt_eq h1]
  dsimp only
  rw [h2]
theorem sfld_at (he : y δ S = .ok v S1) (h : x δ S1 = .ok (.loc i) S2) (h1 : S2[i]? = some (.ins c fs)) (hj : j = fs.length) : sfld c j x y δ S = .nx δ (S2.set i (.ins c (fs ++ [v]))) := by
  unfold sfld
  rw [he]
  show ((x δ S1).out δ _) = _
  rw [h]
  show (match insAt c (.loc i) S2 with | some fs => _ | none => _) = _
  rw [insAt_eq h1]
  exact if_pos hj
theorem new_at (h : as δ S = .ok ws S1) (hn : ws.length + 1 = n) (h2 : m (.loc S1.length :: ws) (S1 ++ [.ins c []]) = .ok .non S2) : ynew c n m as δ S = .ok (.loc S1.length) S2 := by
  unfold ynew
  rw [h, bind_ok, if_pos hn, h2]
  rfl
theorem prop_at (h : x δ S = .ok (.loc i) S1) (h1 : S1[i]? = some (.ins c fs)) (h2 : m [.loc i] S1 = .ok v S2) : yprop c m x δ S = .ok v S2 := by
  unfold yprop
  rw [h, bind_ok, insAt_eq h1]
  dsimp only
  rw [h2]
theorem meth_at {r : Rs Va} (h : x δ S = .ok (.loc i) S1) (h1 : S1[i]? = some (.ins c fs)) (h3 : as δ S1 = .ok ws S2) (hn : ws.length + 1 = n) (h2 : m (.loc i :: ws) S2 = r) : ymeth c n m x as δ S = r := by
  unfold ymeth
  rw [h, bind_ok, insAt_eq h1]
  dsimp only
  rw [h3, bind_ok, if_pos hn]
  exact h2
theorem met_at {f : Va → List Va → Sto → Rs Va} {r : Rs Va} (h : x δ S = .ok (.loc i) S1) (h1 : S1[i]? = some (.lst us)) (h3 : as δ S1 = .ok ws S2) (h2 : f (.loc i) ws S2 = r) : xmetL f x as δ S = r := by
  unfold xmetL
  rw [h, bind_ok, isL_of h1, if_pos rfl, h3, bind_ok]
  exact h2
theorem met0_at {f : Va → List Va → Sto → Rs Va} {r : Rs Va} (h : x δ S = .ok (.loc i) S1) (h1 : S1[i]? = some (.lst us)) (h2 : f (.loc i) [] S1 = r) : xmet0 f x δ S = r := by
  unfold xmet0
  rw [h, bind_ok, isL_of h1, if_pos rfl]
  exact h2
theorem andV_t {r : Rs Va} (h : x δ S = .ok (.bl true) S1) (h2 : y δ S1 = r) : xandV x y δ S = r := by
  unfold xandV
  rw [h, bind_ok]
  exact h2
theorem ite_t {p : XT} {r : Rs Va} (h : p δ S = .ok true S1) (h2 : x δ S1 = r) : xite p x y δ S = r := by
  unfold xite
  rw [h, bind_ok, if_pos rfl]
  exact h2
theorem ite_f {p : XT} {r : Rs Va} (h : p δ S = .ok false S1) (h2 : y δ S1 = r) : xite p x y δ S = r := by
  unfold xite
  rw [h, bind_ok, if_neg (by decide)]
  exact h2
theorem asg_at {p : XP} (h : x δ S = .ok v S1) (h2 : p v δ = some δ1) : sasg p x δ S = .nx δ1 S1 := by
  unfold sasg
  rw [h]
  show (match p v δ with | some δ' => _ | none => _) = _
  rw [h2]
theorem srt_at (h : getL S l = some ws) (h2 : sortV ws = true) (hz : ws.length ≤ 16777216) : fSrt [.loc l] S = .ok (.loc S.length) (S ++ [.lst (vsort ws)]) := by
  unfold fSrt
  dsimp only [itL]
  rw [h]
  dsimp only
  rw [h2, cond_true, llst_eq]
  rw [(vsort_perm ws).length_eq]
  exact hz
theorem lenset_at (h : getL S l = some ws) (h2 : keyV ws = true) : fLenSet [.loc l] S = .ok (.int (nub ws).length) S := by
  unfold fLenSet
  dsimp only [itL]
  rw [h]
  dsimp only
  rw [h2]
  rfl
theorem srtset_at (h : getL S l = some ws) (h2 : keyV ws = true) (hz : (nub ws).length ≤ 16777216) : fSrtSet [.loc l] S = .ok (.loc S.length) (S ++ [.lst (vsort (nub ws))]) := by
  unfold fSrtSet
  dsimp only [itL]
  rw [h]
  dsimp only
  rw [h2, cond_true, llst_eq]
  rw [(vsort_perm _).length_eq]
  exact hz
theorem list_at (h : getL S l = some ws) (hz : ws.length ≤ 16777216) : fList [.loc l] S = .ok (.loc S.length) (S ++ [.lst ws]) := by
  unfold fList
  dsimp only [itm]
  rw [h]
  exact llst_eq S hz
theorem cat_at {xs ys : List Va} (h : S[i]? = some (.lst xs)) (h2 : S[j]? = some (.lst ys)) (hz : (xs ++ ys).length ≤ 16777216) : oAdd (.loc i) (.loc j) S = .ok (.loc S.length) (S ++ [.lst (xs ++ ys)]) := by
  unfold oAdd
  dsimp only
  rw [h, h2]
  exact llst_eq S hz
theorem isq_loc (h : x δ S = .ok (.loc l) S1) (h2 : getL S1 l = some ws) : isq x δ S = .ok (ws.length + 1, nloc l) S1 := by
  unfold isq
  rw [h]
  dsimp only [Rs.bind]
  rw [h2]
theorem isq_tup (h : x δ S = .ok (.tup ws) S1) : isq x δ S = .ok (ws.length + 1, nseq ws) S1 := by
  unfold isq
  rw [h]
  rfl
theorem isiL (h : S[l]? = some (.lst ws)) : fIsi [.loc l, .ty 5] S = .ok (.bl true) S := by
  unfold fIsi
  dsimp only [kind]
  rw [h]
  rfl
theorem isiT : fIsi [.tup ws, .ty 4] S = .ok (.bl true) S := rfl
end
/-! ### comprehensions over lists that change nothing -/
theorem nloc_at {S : Sto} {l : Nat} {ws : List Va} (h : getL S l = some ws) (i : Nat) : nloc l S i = some ws[i]? := by
  unfold nloc
  rw [h]
  rfl
theorem compH_pure {nth : Nth} {put : XP} {cond : XT} {elt : XE} {δ : Env} {kont : Sto → Rs Va} {ws : List Va} (f : Va → Option Va) (S0 : Sto) (hn : ∀ S' i, Keep S0 S' → nth S' i = some ws[i]?)
    (hs : ∀ w, w ∈ ws → ∃ δ1, put w δ = some δ1 ∧ ∀ S', Keep S0 S' → (∃ y, f w = some y ∧ cond δ1 S' = .ok true S' ∧ elt δ1 S' = .ok y S') ∨ (f w = none ∧ cond δ1 S' = .ok false S')) :
    ∀ (m i : Nat) (acc : List Va), i + m = ws.length → acc.length + m ≤ 16777216 → compH nth put cond elt S0.length δ kont (m + 1) i (S0 ++ [.lst acc]) = kont (S0 ++ [.lst (acc ++ (ws.drop i).filterMap f)])
  | 0, i, acc, e, hz => by
    have e' : i = ws.length := by omega
    subst e'
    unfold compH
    rw [hn _ _ (Keep.app _ _), List.getElem?_eq_none (Nat.le_refl _), List.drop_length]
    simp
  | m + 1, i, acc, e, hz => by
    have hi : i < ws.length := by omega
    have kp : Keep S0 (S0 ++ [.lst acc]) := Keep.app _ _
    obtain ⟨δ1, k1, k2⟩ := hs ws[i] (List.getElem_mem hi)
    have dr : ws.drop i = ws[i] :: ws.drop (i + 1) := List.drop_eq_getElem_cons hi
    unfold compH
    rw [hn _ _ kp, List.getElem?_eq_getElem hi]
    dsimp only
    rw [k1]
    dsimp only
    rcases k2 _ kp with ⟨y, q1, q2, q3⟩ | ⟨q1, q2⟩
    · rw [q2]
      dsimp only
      rw [q3]
      dsimp only
      rw [get_new]
      dsimp only
      rw [fits_of (by omega), cond_true]
      have st : (S0 ++ [Ob.lst acc]).set S0.length (.lst (acc ++ [y])) = S0 ++ [.lst (acc ++ [y])] := by simp
      rw [st, compH_pure f S0 hn hs m (i + 1) (acc ++ [y]) (by omega) (by rw [List.length_append]; simp; omega), dr, List.filterMap_cons, q1]
      simp
    · rw [q2]
      dsimp only
      rw [compH_pure f S0 hn hs m (i + 1) acc (by omega) (by omega), dr, List.filterMap_cons, q1]
theorem comp2_pure {nth : Nth} {put put1 : XP} {xi1 : XI} {cond1 : XT} {elt : XE} {vs1 : List Nat} {δ : Env} {ws : List Va} (us : Va → List Va) (f : Va → Va → Option Va) (S0 : Sto) (hn : ∀ S' i, Keep S0 S' → nth S' i = some ws[i]?)
    (hs : ∀ w, w ∈ ws → (us w).length ≤ 64 ∧ ∃ δ1 nth1, put w δ = some δ1 ∧ (∀ S', Keep S0 S' → xi1 δ1 S' = .ok ((us w).length + 1, nth1) S') ∧ (∀ S' i, Keep S0 S' → nth1 S' i = some (us w)[i]?) ∧
      ∀ u, u ∈ us w → ∃ δ2, put1 u (wipeE δ1 vs1) = some δ2 ∧ ∀ S', Keep S0 S' → (∃ y, f w u = some y ∧ cond1 δ2 S' = .ok true S' ∧ elt δ2 S' = .ok y S') ∨ (f w u = none ∧ cond1 δ2 S' = .ok false S')) :
    ∀ (m i : Nat) (acc : List Va), i + m = ws.length → acc.length + 64 * m ≤ 16777216 → comp2G nth put xyes xi1 put1 cond1 elt vs1 S0.length δ (m + 1) i (S0 ++ [.lst acc]) = .ok (.loc S0.length) (S0 ++ [.lst (acc ++ (ws.drop i).flatMap fun w => (us w).filterMap (f w))])
  | 0, i, acc, e, hz => by
    have e' : i = ws.length := by omega
    subst e'
    unfold comp2G
    rw [hn _ _ (Keep.app _ _), List.getElem?_eq_none (Nat.le_refl _), List.drop_length]
    simp
  | m + 1, i, acc, e, hz => by
    have hi : i < ws.length := by omega
    have kp : Keep S0 (S0 ++ [.lst acc]) := Keep.app _ _
    obtain ⟨hu, δ1, nth1, k1, k2, k3, k4⟩ := hs ws[i] (List.getElem_mem hi)
    have dr : ws.drop i = ws[i] :: ws.drop (i + 1) := List.drop_eq_getElem_cons hi
    unfold comp2G
    rw [hn _ _ kp, List.getElem?_eq_getElem hi]
    dsimp only
    rw [k1]
    dsimp only
    show (match xi1 δ1 (S0 ++ [.lst acc]) with | .ok a S2 => compH a.2 put1 cond1 elt S0.length (wipeE δ1 vs1) (fun S3 => comp2G nth put xyes xi1 put1 cond1 elt vs1 S0.length δ (m + 1) (i + 1) S3) a.1 0 S2 | _ => .bad) = _
    rw [k2 _ kp]
    dsimp only
    have lf : ((us ws[i]).filterMap (f ws[i])).length ≤ (us ws[i]).length := List.length_filterMap_le _ _
    rw [compH_pure (f ws[i]) S0 k3 k4 (us ws[i]).length 0 acc (by omega) (by omega), List.drop_zero, comp2_pure us f S0 hn hs m (i + 1) _ (by omega) (by rw [List.length_append]; omega), dr, List.flatMap_cons, List.append_assoc]
theorem comp_list {vs : List Nat} {x : XE} {put : XP} {cond : XT} {elt : XE} {δ : Env} {S S0 : Sto} {l : Nat} {ws : List Va} (f : Va → Option Va) (hx : x δ S = .ok (.loc l) S0) (hl : getL S0 l = some ws) (hz : ws.length ≤ 16777216)
    (hs : ∀ w, w ∈ ws → ∃ δ1, put w (wipeE δ vs) = some δ1 ∧ ∀ S', Keep S0 S' → (∃ y, f w = some y ∧ cond δ1 S' = .ok true S' ∧ elt δ1 S' = .ok y S') ∨ (f w = none ∧ cond δ1 S' = .ok false S')) :
    xcomp vs (isq x) put cond elt δ S = .ok (.loc S0.length) (S0 ++ [.lst (ws.filterMap f)]) := by
  rw [xcomp_at (isq_loc hx hl)]
  exact compG_pure f S0 hz (fun S' i kp => nloc_at (kp.getL hl) i) hs
theorem comp2_list {vs vs1 : List Nat} {x : XE} {xi1 : XI} {put put1 : XP} {cond1 : XT} {elt : XE} {δ : Env} {S S0 : Sto} {l : Nat} {ws : List Va} (us : Va → List Va) (f : Va → Va → Option Va) (hx : x δ S = .ok (.loc l) S0) (hl : getL S0 l = some ws) (hz : ws.length ≤ 200000)
    (hs : ∀ w, w ∈ ws → (us w).length ≤ 64 ∧ ∃ δ1 nth1, put w (wipeE δ vs) = some δ1 ∧ (∀ S', Keep S0 S' → xi1 δ1 S' = .ok ((us w).length + 1, nth1) S') ∧ (∀ S' i, Keep S0 S' → nth1 S' i = some (us w)[i]?) ∧
      ∀ u, u ∈ us w → ∃ δ2, put1 u (wipeE δ1 vs1) = some δ2 ∧ ∀ S', Keep S0 S' → (∃ y, f w u = some y ∧ cond1 δ2 S' = .ok true S' ∧ elt δ2 S' = .ok y S') ∨ (f w u = none ∧ cond1 δ2 S' = .ok false S')) :
    xcomp2 vs vs1 (isq x) put xyes xi1 put1 cond1 elt δ S = .ok (.loc S0.length) (S0 ++ [.lst (ws.flatMap fun w => (us w).filterMap (f w))]) := by
  unfold xcomp2
  rw [isq_loc hx hl, bind_ok]
  exact comp2_pure us f S0 (fun S' i kp => nloc_at (kp.getL hl) i) hs ws.length 0 [] (by omega) (by show 0 + 64 * ws.length ≤ _; omega)
/-- all([.. for one in xs]), each is true -/
theorem all_list {v : Nat} {x : XE} {elt : XE} {δ : Env} {S S0 : Sto} {l : Nat} {ws : List Va} (hx : x δ S = .ok (.loc l) S0) (hl : getL S0 l = some ws) (hz : ws.length ≤ 16777216)
    (he : ∀ w, w ∈ ws → ∀ S', Keep S0 S' → elt ((wipeE δ [v]).set v (some w)) S' = .ok (.bl true) S') :
    ∃ S', xcall fAll (acons (xcomp [v] (isq x) (pname v) xyes elt) anil) δ S = .ok (.bl true) S' ∧ Keep S0 S' := by
  have cm := comp_list (vs := [v]) (put := pname v) (cond := xyes) (elt := elt) (fun _ => some (Va.bl true)) hx hl hz (fun w hw => ⟨_, rfl, fun S' kp => .inl ⟨.bl true, rfl, rfl, he w hw S' kp⟩⟩)
  have e : ws.filterMap (fun _ => some (Va.bl true)) = (ws.map fun _ => true).map Va.bl := by
    rw [List.map_map]
    clear cm he hl hz
    induction ws with
    | nil => rfl
    | cons a r ih => simp
  rw [e] at cm
  refine ⟨S0 ++ [Ob.lst ((ws.map fun _ => true).map Va.bl)], call_at (one_at cm) ?_, Keep.app _ _⟩
  unfold fAll
  dsimp only
  rw [getL_new]
  dsimp only
  rw [bools_map]
  dsimp only
  have : ((ws.map fun _ => true).all id) = true := by simp
  rw [this]
/-! ### data, read -/
mutual
theorem toD_pur (S : Sto) : ∀ (w : Va) (n : Nat), pur w = true → (dat w).depth < n → toD S n w = some (dat w)
  | .non, n + 1, _, _ => rfl
  | .bl _, n + 1, _, _ => rfl
  | .int _, n + 1, _, _ => rfl
  | .str _, n + 1, _, _ => rfl
  | .tup ws, n + 1, h, d => by
    have := allD_pur S ws n (by simpa [pur] using h) (by simp only [dat, PyData.depth] at d; omega)
    show (allD (toD S n) ws).map PyData.tuple = _
    rw [this]
    rfl
theorem allD_pur (S : Sto) : ∀ (ws : List Va) (n : Nat), purs ws = true → PyData.depthAll (dats ws) < n → allD (toD S n) ws = some (dats ws)
  | [], _, _, _ => rfl
  | w :: ws, n, h, d => by
    simp only [purs, Bool.and_eq_true] at h
    simp only [dats, PyData.depthAll] at d
    have h1 := toD_pur S w n h.1 (by omega)
    have h2 := allD_pur S ws n h.2 (by omega)
    show (match toD S n w, allD (toD S n) ws with | some d, some ds => some (d :: ds) | _, _ => none) = _
    rw [h1, h2]
    rfl
end
end Rz
namespace Rz
open PySem PySem.Spec PyProof.Rows L2
/-! ### max(xs), ints in a list or a tuple -/
theorem fold_max : ∀ (ns : List Int) (n : Int), n ≤ ns.foldl max n ∧ (∀ y ∈ ns, y ≤ ns.foldl max n) ∧ (ns.foldl max n = n ∨ ns.foldl max n ∈ ns)
  | [], n => ⟨Int.le_refl _, (fun y h => nomatch h), .inl rfl⟩
  | a :: ns, n => by
    obtain ⟨h1, h2, h3⟩ := fold_max ns (max n a)
    have e : (a :: ns).foldl max n = ns.foldl max (max n a) := rfl
    rw [e]
    refine ⟨by omega, fun y hy => ?_, ?_⟩
    · rcases List.mem_cons.mp hy with z | z
      · rw [z]; omega
      · exact h2 y z
    · rcases h3 with z | z
      · rw [z]
        rcases Int.le_total n a with c | c
        · rw [Int.max_eq_right c]; exact .inr List.mem_cons_self
        · rw [Int.max_eq_left c]; exact .inl rfl
      · exact .inr (List.mem_cons_of_mem _ z)
def rMax1 (K : PySem.W.Frag) : List V → Hp → VK → Prop := fun vs H Q => ∃ (a : Addr) (n : Int) (ns : List Int), vs = [V.ref a] ∧ (SqL K H a ((n :: ns).map V.int) ∨ SqT K H a ((n :: ns).map V.int)) ∧ Q (.int (ns.foldl max n)) H
theorem reads_ints {h : Heap} : ∀ {ns : List Int} {its : List Value}, Vals (ns.map V.int) its → ∃ as, ReadsAll h its (ns.map PyData.int) as
  | [], _, r => by cases r; exact ⟨_, .nil⟩
  | n :: ns, _, r => by
    cases r with
    | cons a b =>
      obtain ⟨t, rfl⟩ := a
      obtain ⟨as, h2⟩ := reads_ints b
      exact ⟨_, .cons (.int _ _) h2⟩
theorem alike_int (ns : List Int) : PySem.W.AlikeAll (ns.map PyData.int) := ⟨fun a ha b hb => by
  obtain ⟨x, _, rfl⟩ := List.mem_map.mp ha
  obtain ⟨y, _, rfl⟩ := List.mem_map.mp hb
  rfl, fun a ha => by
  obtain ⟨x, _, rfl⟩ := List.mem_map.mp ha
  exact fun z => nomatch z⟩
section
variable {X : Cx} {g : G} {Wx : WX} {k : Nat} {pos : Pos} {a b c : Expr} {es : List Expr} {x y z : XE} {r : XA}
theorem cr_max1 (hr : Room k X.A) (hc : X.calm = true) : CallR X (.builtin "max") (rMax1 X.K) := by
  intro pins s σ H vs us Q I rv h
  obtain ⟨a, n, ns, rfl, hs, q⟩ := h
  obtain ⟨f1, f2, f3⟩ := fold_max ns n
  rcases hs with hs | hs
  · refine cr_max hc pins s σ H [.ref a] us Q I rv ⟨a, n :: ns, rfl, hs, Nat.succ_pos _, fun m hm ub => ?_⟩
    have : m = ns.foldl max n := by
      have h1 : ns.foldl max n ≤ m := by
        rcases f3 with z | z
        · rw [z]; exact ub n List.mem_cons_self
        · exact ub _ (List.mem_cons_of_mem _ z)
      have h2 : m ≤ ns.foldl max n := by
        rcases List.mem_cons.mp hm with z | z
        · rw [z]; exact f1
        · exact f2 m z
      omega
    rw [this]
    exact q
  · obtain ⟨its, rl, tp, _⟩ := I.tuple hs
    obtain ⟨u, rfl, ru⟩ := Vals.one rv
    obtain rfl : u = Value.ref a := ru
    obtain ⟨as, rd⟩ := reads_ints (h := s.heap) rl
    have un := hr.un
    have dz : PyData.depthAll ((n :: ns).map PyData.int) = 0 := depth_ints _
    refine PySem.W.max_tuple_data (vs := its.toArray) (x := .int n) (xs := ns.map .int) (I.ok.hd hc) tp (by simpa using rd) (alike_int (n :: ns)) (by
      have dz' : PyData.depthAll (.int n :: ns.map PyData.int) = 0 := dz
      rw [dz']
      omega) fun i v h' tk bs hi hv hk => ?_
    rw [PySem.W.maxD_ints] at hv
    cases hv with
    | int _ t => exact ⟨.int _, H, I.kept hk, ⟨_, rfl⟩, q⟩
def intsV : List Va → Option (List Int)
  | [] => some []
  | .int i :: ws => (intsV ws).map (i :: ·)
  | _ => none
theorem intsV_map (ns : List Int) : intsV (ns.map .int) = some ns := by
  induction ns with
  | nil => rfl
  | cons n ns ih => simp [intsV, ih]
theorem intsV_of : ∀ {ws : List Va} {ns : List Int}, intsV ws = some ns → ws = ns.map .int
  | [], ns, h => by cases h; rfl
  | .int i :: ws, ns, h => by
    obtain ⟨ms, e, rfl⟩ := Option.map_eq_some_iff.mp h
    rw [intsV_of e]
    rfl
  | .non :: _, _, h => by cases h
  | .bl _ :: _, _, h => by cases h
  | .str _ :: _, _, h => by cases h
  | .ty _ :: _, _, h => by cases h
  | .tup _ :: _, _, h => by cases h
  | .loc _ :: _, _, h => by cases h
  | .cl _ :: _, _, h => by cases h
def fMax1 (ws : List Va) (S : Sto) : Rs Va := match ws with
  | [w] => match itm w S with
    | some us => match intsV us with
      | some (n :: ns) => .ok (.int (ns.foldl max n)) S
      | _ => .bad
    | none => .bad
  | _ => .bad
theorem rel_ints {ρ : List Addr} {H : Hp} : ∀ {ns : List Int} {vs : List V}, RelL g ρ H (ns.map .int) vs → vs = ns.map .int
  | [], _, r => by cases r; rfl
  | n :: ns, _, r => by
    cases r with
    | cons a b =>
      cases a
      rw [rel_ints b]
      rfl
theorem cs_max1 : CalS g (rMax1 g.K) fMax1 := fun Wx σ ρ S H ws vs Q sm rl h => by
  unfold fMax1 at h
  split at h
  · rename_i w
    cases rl with
    | cons ra rn =>
      cases rn
      cases e : itm w S with
      | none => rw [e] at h; exact h.elim
      | some us =>
        rw [e] at h
        dsimp only at h
        cases e2 : intsV us with
        | none => rw [e2] at h; exact h.elim
        | some ms =>
          rw [e2] at h
          cases ms with
          | nil => exact h.elim
          | cons n ns =>
            obtain ⟨p, ts, rfl, s, rl2⟩ := itm_ok sm ra e
            rw [intsV_of e2] at rl2
            rw [rel_ints rl2] at s
            exact ⟨p, n, ns, rfl, s, h.fin sm (.int _)⟩
  · exact h.elim
theorem se_max1 (o : XO X g Wx k) {p : Pos} (hm : X.mg "max" = none) (ha : SA X g Wx [a] r) (hg : Gl X "max" := by rfl) (he : starEach [a] X.env = (false, eval a X.env) :: starEach [] X.env := by rfl) : SE X g Wx (.Call (.Name "max" p) [a] [] pos) (xcall fMax1 r) :=
  se_callB (cr_max1 o.room o.calm) (o.K ▸ cs_max1) hm ha hg (he := he)
end
end Rz
namespace Rz
open PySem PySem.Spec PyProof.Rows L2 PySem.W
/-! ### dicts: the object -/
mutual
theorem nkV_dat : ∀ (w : Va) (k : NestedKey), nkV w = some k → Sx.numD (dat w) = true ∧ k = Sx.nk (dat w) ∧ pur w = true
  | .non, k, h => by cases h; exact ⟨rfl, rfl, rfl⟩
  | .bl b, k, h => by cases h; exact ⟨rfl, rfl, rfl⟩
  | .int i, k, h => by cases h; exact ⟨rfl, rfl, rfl⟩
  | .str x, k, h => by simp [nkV] at h
  | .ty x, k, h => by simp [nkV] at h
  | .loc x, k, h => by simp [nkV] at h
  | .cl x, k, h => by simp [nkV] at h
  | .tup ws, k, h => by
    simp only [nkV] at h
    obtain ⟨ks, e, rfl⟩ := Option.map_eq_some_iff.mp h
    obtain ⟨h1, h2, h3⟩ := nksV_dat ws ks e
    exact ⟨by simpa [dat, Sx.numD] using h1, by simp [dat, Sx.nk, h2], by simpa [pur] using h3⟩
theorem nksV_dat : ∀ (ws : List Va) (ks : List NestedKey), nkV.nksV ws = some ks → Sx.numDs (dats ws) = true ∧ ks = Sx.nks (dats ws) ∧ purs ws = true
  | [], ks, h => by
    simp only [nkV.nksV] at h
    cases h
    exact ⟨rfl, rfl, rfl⟩
  | w :: ws, ks, h => by
    simp only [nkV.nksV] at h
    cases e1 : nkV w with
    | none => rw [e1] at h; cases h
    | some k =>
      cases e2 : nkV.nksV ws with
      | none => rw [e1, e2] at h; cases h
      | some ls =>
        rw [e1, e2] at h
        cases h
        obtain ⟨a1, a2, a3⟩ := nkV_dat w k e1
        obtain ⟨b1, b2, b3⟩ := nksV_dat ws ls e2
        exact ⟨by simp [dats, Sx.numDs, a1, b1], by simp [dats, Sx.nks, a2, b2], by simp [purs, a3, b3]⟩
end
theorem paired_len {α β : Type} {R : α → β → Prop} : ∀ {xs : List α} {ys : List β}, Paired R xs ys → xs.length = ys.length
  | _, _, .nil => rfl
  | _, _, .cons _ b => by rw [List.length_cons, List.length_cons, paired_len b]
theorem paired_mem {α β : Type} {R : α → β → Prop} : ∀ {xs : List α} {ys : List β}, Paired R xs ys → ∀ y ∈ ys, ∃ x ∈ xs, R x y
  | _, _, .nil, y, h => nomatch h
  | _, _, .cons a b, y, h => by
    rcases List.mem_cons.mp h with z | z
    · exact ⟨_, List.mem_cons_self, z ▸ a⟩
    · obtain ⟨x, m, r⟩ := paired_mem b y z
      exact ⟨x, List.mem_cons_of_mem _ m, r⟩
section
variable {X : Cx} {g : G} {pins : List (Addr × Obj)} {σ : L2.St} {H : Hp} {s : Shared} {ρ : List Addr}
/-- data that is a key, where it stands -/
theorem nk_at (I : Inv X pins σ H s) (hK : g.K = X.K) {w : Va} {b : Addr} {k : NestedKey} (r : Rel g ρ H w (.ref b)) (e : nkV w = some k) (d : k.depth ≤ 8) : (nestedKind X.prog X.w).is s.heap k b := by
  obtain ⟨h1, h2, h3⟩ := nkV_dat w k e
  have dp := dat_ok w _ h3 r
  rw [hK] at dp
  obtain ⟨as, rd⟩ := Dp.reads I (dat w) (.ref b) (.ref b) dp rfl
  refine ⟨?_, d⟩
  rw [h2]
  exact Sx.key_of _ _ _ rd h1
theorem keys_at (I : Inv X pins σ H s) (hK : g.K = X.K) : ∀ {ws : List Va} {L : List (NestedKey × Addr × V)}, RelL g ρ H ws (L.map fun r => V.ref r.2.1) → ws.map nkV = L.map (fun r => some r.1) → (∀ r ∈ L, r.1.depth ≤ 8) → ∀ r ∈ L, (nestedKind X.prog X.w).is s.heap r.1 r.2.1
  | [], [], _, _, _, r, h => nomatch h
  | [], _ :: _, h, _, _, _, _ => nomatch h
  | _ :: _, [], h, _, _, _, _ => nomatch h
  | w :: ws, x :: L, .cons a b, e, d, r, h => by
    rw [List.map_cons, List.map_cons] at e
    obtain ⟨e1, e2⟩ := List.cons.inj e
    rcases List.mem_cons.mp h with z | z
    · rw [z]
      exact nk_at I hK a e1 (d x List.mem_cons_self)
    · exact keys_at I hK b e2 (fun q hq => d q (List.mem_cons_of_mem _ hq)) r z
/-- the dict itself -/
theorem dict_at (I : Inv X pins σ H s) {a : Addr} {L : List (NestedKey × Addr × V)} (h : Rd H a (dN X.prog X.w a L)) (ks : ∀ r ∈ L, (nestedKind X.prog X.w).is s.heap r.1 r.2.1) :
    (a == sysModules) = false ∧ L.length ≤ sizeLine ∧ ∃ xs : List (NestedKey × Addr × Value), Paired (fun (p : NestedKey × Addr × V) (q : NestedKey × Addr × Value) => p.1 = q.1 ∧ p.2.1 = q.2.1 ∧ RelV p.2.2 q.2.2) L xs ∧ s.heap.DictOfH (nestedKind X.prog X.w) a xs := by
  obtain ⟨⟨h1, h2, h3, xs, hp, o, es, ep, h4, h5, h6, h7, h8⟩, _, _⟩ := h.ok I.hok
  refine ⟨h1, h2, xs, hp, o, es, ep, h4, h5, h6, h7, fun x hx => ?_, h8⟩
  obtain ⟨r, hr, e1, e2, _⟩ := paired_mem hp x hx
  rw [← e1, ← e2]
  exact ks r hr
end
/-! lookups -/
def valN (L : List (NestedKey × Addr × V)) (k : NestedKey) : Option V := (L.find? fun x => decide (x.1 = k)).map (·.2.2)
theorem valN_at {k : NestedKey} : ∀ {L : List (NestedKey × Addr × V)} {xs : List (NestedKey × Addr × Value)}, Paired (fun (p : NestedKey × Addr × V) (q : NestedKey × Addr × Value) => p.1 = q.1 ∧ p.2.1 = q.2.1 ∧ RelV p.2.2 q.2.2) L xs →
    (valN L k = none ∧ atKey xs k = none) ∨ ∃ v p, valN L k = some v ∧ atKey xs k = some p ∧ RelV v p.2
  | _, _, .nil => .inl ⟨rfl, rfl⟩
  | _, _, .cons (a := x) (b := y) ⟨e1, e2, e3⟩ b => by
    unfold valN atKey
    rw [List.find?_cons, List.find?_cons]
    by_cases z : x.1 = k
    · rw [decide_eq_true z, decide_eq_true (by rw [← e1]; exact z)]
      exact .inr ⟨_, _, rfl, rfl, e3⟩
    · rw [decide_eq_false z, decide_eq_false (by rw [← e1]; exact z)]
      exact valN_at (k := k) b
end Rz
namespace Rz
open PySem PySem.Spec PyProof.Rows L2 PySem.W
/-! ### d[k], k in d, by values -/
/-- the key k stands at b -/
def KOk (K : PySem.W.Frag) (H : Hp) (k : NestedKey) (b : Addr) : Prop := ∃ d, Dp K H (.ref b) d ∧ Sx.numD d = true ∧ k = Sx.nk d ∧ k.depth ≤ 8
section
variable {X : Cx} {g : G} {pins : List (Addr × Obj)} {σ : L2.St} {H : Hp} {s : Shared} {ρ : List Addr}
theorem KOk.at (I : Inv X pins σ H s) {k : NestedKey} {b : Addr} (h : KOk X.K H k b) : (nestedKind X.prog X.w).is s.heap k b := by
  obtain ⟨d, dp, n, e, dd⟩ := h
  obtain ⟨as, rd⟩ := Dp.reads I d (.ref b) (.ref b) dp rfl
  refine ⟨?_, dd⟩
  rw [e]
  exact Sx.key_of _ _ _ rd n
theorem KOk.of {w : Va} {b : Addr} {k : NestedKey} (r : Rel g ρ H w (.ref b)) (e : nkV w = some k) (d : k.depth ≤ 8) : KOk g.K H k b := by
  obtain ⟨h1, h2, h3⟩ := nkV_dat w k e
  exact ⟨dat w, dat_ok w _ h3 r, h1, h2, d⟩
/-- the dict of L stands at a -/
structure DAt (K : PySem.W.Frag) (P : Program) (w : World) (H : Hp) (a : Addr) (L : List (NestedKey × Addr × V)) : Prop where
  at_ : Rd H a (dN P w a L)
  ks : ∀ r ∈ L, KOk K H r.1 r.2.1
theorem DAt.get (I : Inv X pins σ H s) {a : Addr} {L : List (NestedKey × Addr × V)} (h : DAt X.K X.prog X.w H a L) : (a == sysModules) = false ∧ L.length ≤ sizeLine ∧ ∃ xs : List (NestedKey × Addr × Value), Paired (fun (p : NestedKey × Addr × V) (q : NestedKey × Addr × Value) => p.1 = q.1 ∧ p.2.1 = q.2.1 ∧ RelV p.2.2 q.2.2) L xs ∧ s.heap.DictOfH (nestedKind X.prog X.w) a xs :=
  dict_at I h.at_ fun r hr => (h.ks r hr).at I
def rDGet (K : PySem.W.Frag) (P : Program) (w : World) : R2 := fun x y H Q => ∃ a L b k v, x = .ref a ∧ y = .ref b ∧ DAt K P w H a L ∧ KOk K H k b ∧ valN L k = some v ∧ Q v H
theorem ix_dN {k : Nat} (hr : Room k X.A) : IxR X (rDGet X.K X.prog X.w) := by
  intro value slice pins s σ H x y v u Q I rx ry h hs
  obtain ⟨a, L, b, k, z, rfl, rfl, D, kb, e, q⟩ := h
  obtain rfl : v = Value.ref a := rx
  obtain rfl : u = Value.ref b := ry
  obtain ⟨_, _, xs, hp, hm⟩ := D.get I
  have un := hr.un
  rcases valN_at (k := k) hp with ⟨e1, _⟩ | ⟨z', p, e1, e2, rz⟩
  · rw [e] at e1; cases e1
  · rw [e] at e1
    cases e1
    exact tail_any hm.typeIs slot_dict_getitem.lookup (wpAny_getItem_heap (show X.A.in1.units + 8 < cLine by rw [Around.in1_units]; omega) (kb.at I) hm e2 ⟨z, H, I.tok _, rz, q⟩) hs
def rDIn (K : PySem.W.Frag) (P : Program) (w : World) : R2 := fun x y H Q => ∃ a L b k, y = .ref a ∧ x = .ref b ∧ DAt K P w H a L ∧ KOk K H k b ∧ Q (.bl (valN L k).isSome) H
def rDNin (K : PySem.W.Frag) (P : Program) (w : World) : R2 := fun x y H Q => ∃ a L b k, y = .ref a ∧ x = .ref b ∧ DAt K P w H a L ∧ KOk K H k b ∧ Q (.bl (!(valN L k).isSome)) H
theorem isSome_same {k : NestedKey} {L : List (NestedKey × Addr × V)} {xs : List (NestedKey × Addr × Value)} (hp : Paired (fun (p : NestedKey × Addr × V) (q : NestedKey × Addr × Value) => p.1 = q.1 ∧ p.2.1 = q.2.1 ∧ RelV p.2.2 q.2.2) L xs) : (atKey xs k).isSome = (valN L k).isSome := by
  rcases valN_at (k := k) hp with ⟨e1, e2⟩ | ⟨z', p, e1, e2, rz⟩
  · rw [e1, e2]; rfl
  · rw [e1, e2]; rfl
theorem op_inN {k : Nat} (hr : Room k X.A) : OpR X (compareOp .In) (rDIn X.K X.prog X.w) := by
  intro pins s σ H x y v u Q I rx ry h
  obtain ⟨a, L, b, k, rfl, rfl, D, kb, q⟩ := h
  obtain rfl : v = Value.ref b := rx
  obtain rfl : u = Value.ref a := ry
  obtain ⟨hd, _, xs, hp, hm⟩ := D.get I
  have un := hr.un
  refine wpAny_in_heap (show X.A.in1.units + 8 < cLine by rw [Around.in1_units]; omega) (kb.at I) hd hm ?_
  rw [isSome_same hp]
  exact ⟨.bl _, H, I.tok _, rfl, q⟩
theorem op_ninN {k : Nat} (hr : Room k X.A) : OpR X (compareOp .NotIn) (rDNin X.K X.prog X.w) := by
  intro pins s σ H x y v u Q I rx ry h
  obtain ⟨a, L, b, k, rfl, rfl, D, kb, q⟩ := h
  obtain rfl : v = Value.ref b := rx
  obtain rfl : u = Value.ref a := ry
  obtain ⟨hd, _, xs, hp, hm⟩ := D.get I
  have un := hr.un
  refine notIn_keyed (kvs := pairsH xs) (show X.A.in1.units + 8 < cLine by rw [Around.in1_units]; omega) (kb.at I) hd ⟨xs, hm, rfl⟩ ?_
  rw [valueAt_pairsH, Option.isSome_map, isSome_same hp]
  exact ⟨.bl _, H, I.tok _, rfl, q⟩
end
/-! ### in the plain semantics -/
section
variable {g : G}
@[simp] def dctAt (w : Va) (S : Sto) : Option (List (Va × Va)) := match w with
  | .loc l => match S[l]? with
    | some (.dct kvs) => some kvs
    | some (.frd kvs) => some kvs
    | _ => none
  | _ => none
@[simp] def dctW (w : Va) (S : Sto) : Option (List (Va × Va)) := match w with
  | .loc l => match S[l]? with
    | some (.dct kvs) => some kvs
    | _ => none
  | _ => none
/-- the key of a tuple of data -/
@[simp] def keyT (w : Va) : Option NestedKey := match w with
  | .tup ws => match nkV (.tup ws) with
    | some k => if k.depth ≤ 8 then some k else none
    | none => none
  | _ => none
def valD (kvs : List (Va × Va)) (k : NestedKey) : Option Va := (kvs.find? fun p => decide (nkV p.1 = some k)).map (·.2)
theorem keyT_ok {ρ : List Addr} {H : Hp} {w : Va} {v : V} {k : NestedKey} (r : Rel g ρ H w v) (h : keyT w = some k) : ∃ b, v = .ref b ∧ KOk g.K H k b ∧ nkV w = some k := by
  cases r with
  | @tup ws vs a hs rl =>
    simp only [keyT] at h
    cases e : nkV (.tup ws) with
    | none => rw [e] at h; cases h
    | some k' =>
      rw [e] at h
      dsimp only at h
      by_cases d : k'.depth ≤ 8
      · rw [if_pos d] at h
        cases h
        exact ⟨a, rfl, KOk.of (.tup hs rl) e d, rfl⟩
      · rw [if_neg d] at h
        cases h
  | _ => cases h
theorem valD_ok {ρ : List Addr} {H : Hp} {k : NestedKey} : ∀ {kvs : List (Va × Va)} {L : List (NestedKey × Addr × V)}, RelL g ρ H (kvs.map Prod.snd) (L.map fun r => r.2.2) → kvs.map (fun p => nkV p.1) = L.map (fun r => some r.1) →
    (valD kvs k = none ∧ valN L k = none) ∨ ∃ w v, valD kvs k = some w ∧ valN L k = some v ∧ Rel g ρ H w v
  | [], [], _, _ => .inl ⟨rfl, rfl⟩
  | [], _ :: _, h, _ => nomatch h
  | _ :: _, [], h, _ => nomatch h
  | p :: kvs, x :: L, .cons a b, e => by
    rw [List.map_cons, List.map_cons] at e
    obtain ⟨e1, e2⟩ := List.cons.inj e
    unfold valD valN
    rw [List.find?_cons, List.find?_cons, e1]
    by_cases z : x.1 = k
    · rw [decide_eq_true (by rw [z]), decide_eq_true z]
      exact .inr ⟨_, _, rfl, rfl, a⟩
    · rw [decide_eq_false (fun q => z (Option.some.inj q)), decide_eq_false z]
      exact valD_ok (k := k) b e2
theorem dct_ok {ρ : List Addr} {S : Sto} {H : Hp} {w : Va} {v : V} {kvs : List (Va × Va)} (sm : Sim g ρ S H) (r : Rel g ρ H w v) (h : dctAt w S = some kvs) : ∃ l p L, w = .loc l ∧ v = .ref p ∧ ρ[l]? = some p ∧ Rd H p (dN g.P g.w p L) ∧ RelL g ρ H (kvs.map Prod.fst) (L.map fun r => V.ref r.2.1) ∧ RelL g ρ H (kvs.map Prod.snd) (L.map fun r => r.2.2) ∧ kvs.map (fun p => nkV p.1) = L.map (fun r => some r.1) ∧ ∀ r ∈ L, r.1.depth ≤ 8 := by
  cases r with
  | @loc l p hp =>
    have h' : (match S[l]? with | some (.dct kvs) => some kvs | some (.frd kvs) => some kvs | _ => none) = some kvs := h
    split at h'
    · rename_i ks e
      cases h'
      obtain ⟨L, e1, e2, e3, e4, e5⟩ := sm.ats l _ p e hp
      exact ⟨l, p, L, rfl, rfl, hp, .inl e1, e2, e3, e4, e5⟩
    · rename_i ks e
      cases h'
      obtain ⟨o, L, e1, e2, e3, e4, e5⟩ := sm.ats l _ p e hp
      exact ⟨l, p, L, rfl, rfl, hp, .inr ⟨o, e1⟩, e2, e3, e4, e5⟩
    · cases h'
  | _ => cases h
theorem dctW_ok {ρ : List Addr} {S : Sto} {H : Hp} {w : Va} {v : V} {kvs : List (Va × Va)} (sm : Sim g ρ S H) (r : Rel g ρ H w v) (h : dctW w S = some kvs) : ∃ l p L, w = .loc l ∧ v = .ref p ∧ ρ[l]? = some p ∧ S[l]? = some (.dct kvs) ∧ H p = some (dN g.P g.w p L) ∧ RelL g ρ H (kvs.map Prod.fst) (L.map fun r => V.ref r.2.1) ∧ RelL g ρ H (kvs.map Prod.snd) (L.map fun r => r.2.2) ∧ kvs.map (fun p => nkV p.1) = L.map (fun r => some r.1) ∧ ∀ r ∈ L, r.1.depth ≤ 8 := by
  cases r with
  | @loc l p hp =>
    have h' : (match S[l]? with | some (.dct kvs) => some kvs | _ => none) = some kvs := h
    split at h'
    · rename_i ks e
      cases h'
      obtain ⟨L, e1, e2, e3, e4, e5⟩ := sm.ats l _ p e hp
      exact ⟨l, p, L, rfl, rfl, hp, e, e1, e2, e3, e4, e5⟩
    · cases h'
  | _ => cases h
end
end Rz
namespace Rz
open PySem PySem.Spec PyProof.Rows L2 PySem.W
/-! ### d[k], k in d, {} -/
@[simp] def oDix (a b : Va) (S : Sto) : Rs Va := match dctAt a S, keyT b with
  | some kvs, some k => match valD kvs k with
    | some w => .ok w S
    | none => .bad
  | _, _ => .bad
@[simp] def cDin (a b : Va) (S : Sto) : Rs Bool := match dctAt b S, keyT a with
  | some kvs, some k => .ok (valD kvs k).isSome S
  | _, _ => .bad
@[simp] def cDnin (a b : Va) (S : Sto) : Rs Bool := match dctAt b S, keyT a with
  | some kvs, some k => .ok (!(valD kvs k).isSome) S
  | _, _ => .bad
section
variable {g : G}
theorem dat_keys {ρ : List Addr} {H : Hp} {p : Addr} {kvs : List (Va × Va)} {L : List (NestedKey × Addr × V)} (h1 : Rd H p (dN g.P g.w p L)) (h2 : RelL g ρ H (kvs.map Prod.fst) (L.map fun r => V.ref r.2.1)) (h3 : kvs.map (fun p => nkV p.1) = L.map fun r => some r.1) (d : ∀ r ∈ L, r.1.depth ≤ 8) : DAt g.K g.P g.w H p L := by
  refine ⟨h1, ?_⟩
  clear h1
  induction kvs generalizing L with
  | nil =>
    cases L with
    | nil => exact fun r hr => nomatch hr
    | cons x L => cases h2
  | cons q kvs ih =>
    cases L with
    | nil => cases h2
    | cons x L =>
      cases h2 with
      | cons a b =>
        rw [List.map_cons, List.map_cons] at h3
        obtain ⟨e1, e2⟩ := List.cons.inj h3
        intro r hr
        rcases List.mem_cons.mp hr with z | z
        · rw [z]
          exact KOk.of a e1 (d x List.mem_cons_self)
        · exact ih b e2 (fun r hr => d r (List.mem_cons_of_mem _ hr)) r z
theorem dct_at {ρ : List Addr} {S : Sto} {H : Hp} {w : Va} {v : V} {kvs : List (Va × Va)} (sm : Sim g ρ S H) (r : Rel g ρ H w v) (h : dctAt w S = some kvs) : ∃ l p L, w = .loc l ∧ v = .ref p ∧ ρ[l]? = some p ∧ DAt g.K g.P g.w H p L ∧ RelL g ρ H (kvs.map Prod.fst) (L.map fun r => V.ref r.2.1) ∧ RelL g ρ H (kvs.map Prod.snd) (L.map fun r => r.2.2) ∧ kvs.map (fun p => nkV p.1) = L.map (fun r => some r.1) ∧ ∀ r ∈ L, r.1.depth ≤ 8 := by
  obtain ⟨l, p, L, e1, e2, e3, e5, e6, e7, e8, e9⟩ := dct_ok sm r h
  exact ⟨l, p, L, e1, e2, e3, dat_keys e5 e6 e8 e9, e6, e7, e8, e9⟩
theorem dctW_at {ρ : List Addr} {S : Sto} {H : Hp} {w : Va} {v : V} {kvs : List (Va × Va)} (sm : Sim g ρ S H) (r : Rel g ρ H w v) (h : dctW w S = some kvs) : ∃ l p L, w = .loc l ∧ v = .ref p ∧ ρ[l]? = some p ∧ S[l]? = some (.dct kvs) ∧ H p = some (dN g.P g.w p L) ∧ DAt g.K g.P g.w H p L ∧ RelL g ρ H (kvs.map Prod.fst) (L.map fun r => V.ref r.2.1) ∧ RelL g ρ H (kvs.map Prod.snd) (L.map fun r => r.2.2) ∧ kvs.map (fun p => nkV p.1) = L.map (fun r => some r.1) ∧ ∀ r ∈ L, r.1.depth ≤ 8 := by
  obtain ⟨l, p, L, e1, e2, e3, e4, e5, e6, e7, e8, e9⟩ := dctW_ok sm r h
  exact ⟨l, p, L, e1, e2, e3, e4, e5, dat_keys (.inl e5) e6 e8 e9, e6, e7, e8, e9⟩
theorem os_dix : OpS g (rDGet g.K g.P g.w) oDix := fun Wx σ ρ S H a b x y Q sm ra rb h => by
  unfold oDix at h
  cases e1 : dctAt a S with
  | none => rw [e1] at h; exact h.elim
  | some kvs =>
    cases e2 : keyT b with
    | none => rw [e1, e2] at h; exact h.elim
    | some k =>
      rw [e1, e2] at h
      dsimp only at h
      obtain ⟨l, p, L, rfl, rfl, hp, D, r1, r2, e, dd⟩ := dct_at sm ra e1
      obtain ⟨q, rfl, kb, _⟩ := keyT_ok rb e2
      rcases valD_ok (k := k) r2 e with ⟨z, _⟩ | ⟨w, v, z1, z2, rv⟩
      · rw [z] at h; exact h.elim
      · rw [z1] at h
        exact ⟨p, L, q, k, v, rfl, rfl, D, kb, z2, wpR.fin (a := w) h sm rv⟩
theorem ob_din : OpB g (rDIn g.K g.P g.w) cDin := fun Wx σ ρ S H a b x y Q sm ra rb h => by
  unfold cDin at h
  cases e1 : dctAt b S with
  | none => rw [e1] at h; exact h.elim
  | some kvs =>
    cases e2 : keyT a with
    | none => rw [e1, e2] at h; exact h.elim
    | some k =>
      rw [e1, e2] at h
      dsimp only at h
      obtain ⟨l, p, L, rfl, rfl, hp, D, r1, r2, e, dd⟩ := dct_at sm rb e1
      obtain ⟨q, rfl, kb, _⟩ := keyT_ok ra e2
      refine ⟨p, L, q, k, rfl, rfl, D, kb, ?_⟩
      rcases valD_ok (k := k) r2 e with ⟨z1, z2⟩ | ⟨w, v, z1, z2, rv⟩
      · rw [z1] at h; rw [z2]; exact h.fin sm rfl
      · rw [z1] at h; rw [z2]; exact h.fin sm rfl
theorem ob_dnin : OpB g (rDNin g.K g.P g.w) cDnin := fun Wx σ ρ S H a b x y Q sm ra rb h => by
  unfold cDnin at h
  cases e1 : dctAt b S with
  | none => rw [e1] at h; exact h.elim
  | some kvs =>
    cases e2 : keyT a with
    | none => rw [e1, e2] at h; exact h.elim
    | some k =>
      rw [e1, e2] at h
      dsimp only at h
      obtain ⟨l, p, L, rfl, rfl, hp, D, r1, r2, e, dd⟩ := dct_at sm rb e1
      obtain ⟨q, rfl, kb, _⟩ := keyT_ok ra e2
      refine ⟨p, L, q, k, rfl, rfl, D, kb, ?_⟩
      rcases valD_ok (k := k) r2 e with ⟨z1, z2⟩ | ⟨w, v, z1, z2, rv⟩
      · rw [z1] at h; rw [z2]; exact h.fin sm rfl
      · rw [z1] at h; rw [z2]; exact h.fin sm rfl
end
section
variable {X : Cx} {g : G} {Wx : WX} {k : Nat} {pos : Pos} {a b c : Expr} {es : List Expr} {x y z : XE} {r : XA}
theorem se_dix (o : XO X g Wx k) (ha : SE X g Wx a x) (hb : SE X g Wx b y) (hs : PlainIx b := by intro _ _; rfl) : SE X g Wx (.Subscript a b pos) (xbin oDix x y) :=
  pe_imp (pe_ix (ix_dN o.room) ha hb hs) (by have q := two_in (Wx := Wx) (x := x) (y := y) (os_dix (g := g)); rw [o.K, o.gP, o.gw] at q; exact q)
theorem se_din (o : XO X g Wx k) (ha : SE X g Wx a x) (hb : SE X g Wx b y) (hm : behindInMarks .In b = false := by rfl) : SE X g Wx (.Compare a [.In] [b] pos) (xboo (xbinB cDin x y)) := se_cmp (op_inN o.room) (by have q := ob_din (g := g); rw [o.K, o.gP, o.gw] at q; exact q) ha hb hm
theorem sq_din (o : XO X g Wx k) (ha : SE X g Wx a x) (hb : SE X g Wx b y) (hm : behindInMarks .In b = false := by rfl) : SQ X g Wx (.Compare a [.In] [b] pos) (xbinB cDin x y) := sq_cmp (op_inN o.room) (by have q := ob_din (g := g); rw [o.K, o.gP, o.gw] at q; exact q) ha hb hm
theorem se_dnin (o : XO X g Wx k) (ha : SE X g Wx a x) (hb : SE X g Wx b y) (hm : behindInMarks .NotIn b = false := by rfl) : SE X g Wx (.Compare a [.NotIn] [b] pos) (xboo (xbinB cDnin x y)) := se_cmp (op_ninN o.room) (by have q := ob_dnin (g := g); rw [o.K, o.gP, o.gw] at q; exact q) ha hb hm
theorem sq_dnin (o : XO X g Wx k) (ha : SE X g Wx a x) (hb : SE X g Wx b y) (hm : behindInMarks .NotIn b = false := by rfl) : SQ X g Wx (.Compare a [.NotIn] [b] pos) (xbinB cDnin x y) := sq_cmp (op_ninN o.room) (by have q := ob_dnin (g := g); rw [o.K, o.gP, o.gw] at q; exact q) ha hb hm
/-- {} -/
theorem dN_new {H : Hp} (h : Heap) (hb : sysModules < h.objs.size) : ObjOk X.prog X.w H (h.push { cls := .type "dict", data := .dict #[] }) h.objs.size (dN X.prog X.w h.objs.size []) :=
  ⟨⟨beq_eq_false_iff_ne.mpr (Ne.symm (Nat.ne_of_lt hb)), Nat.zero_le _, (fun r hr => nomatch hr), [], .nil, _, #[], 0, Heap.get?_push_size _ rfl, ⟨rfl, rfl, rfl⟩, rfl, rfl, List.nodup_nil⟩, ⟨_, Heap.get?_push_size _ rfl⟩, fun h1 h2 ⟨u1, u2, u3, xs, u4, o, es, ep, u5, u6⟩ kp => ⟨u1, u2, u3, xs, u4, o, es, ep, kp o u5, u6⟩⟩
def tDNewN (P : Program) (w : World) : TE := fun _ H Q => ∀ p, H p = none → Q (.ref p) (upd H p (dN P w p []))
theorem pe_dnewN : PE X (.Dict [] [] pos) (tDNewN X.prog X.w) := ⟨fun pins s σ H Q I h =>
  wpAny_Dict_empty ⟨.ref s.heap.objs.size, _, I.laid (a := s.heap.objs.size) (o := dN X.prog X.w s.heap.objs.size []) (t' := s.toks) (fun _ _ q => Heap.get?_push_of_some _ q) (Nat.le_refl _) (dN_new s.heap I.big), rfl, h _ (I.hok.fresh (Nat.le_refl _))⟩⟩
@[simp] def xdict0 : XE := fun _ S => .ok (.loc S.length) (S ++ [.dct []])
theorem se_dict0 (o : XO X g Wx k) : SE X g Wx (.Dict [] [] pos) xdict0 :=
  pe_imp pe_dnewN fun σ H Q ⟨δ, S, ρ, sm, se, h⟩ => fun p hp => by
    obtain ⟨s2, e2⟩ := sm.laid (o := .dct []) (u := dN g.P g.w p []) hp (fun ρ' H' e q => ⟨[], q, .nil, .nil, rfl, fun r hr => nomatch hr⟩) rfl
    rw [o.gP, o.gw] at s2 e2
    exact wpR.fin_at (a := Va.loc S.length) h e2 s2 (.loc (by rw [sm.len]; simp))
end
end Rz
namespace Rz
open PySem PySem.Spec PyProof.Rows L2 PySem.W
/-! ### d[k] = v -/
def putN (k : NestedKey) (v : V) (x : NestedKey × Addr × V) : NestedKey × Addr × V := if x.1 = k then (x.1, x.2.1, v) else x
def storN (L : List (NestedKey × Addr × V)) (k : NestedKey) (b : Addr) (v : V) : List (NestedKey × Addr × V) := if (valN L k).isSome then L.map (putN k v) else L ++ [(k, b, v)]
def putD (k : NestedKey) (w : Va) (p : Va × Va) : Va × Va := if nkV p.1 = some k then (p.1, w) else p
def stD (kvs : List (Va × Va)) (kw : Va) (k : NestedKey) (w : Va) : List (Va × Va) := if (valD kvs k).isSome then kvs.map (putD k w) else kvs ++ [(kw, w)]
abbrev PR : NestedKey × Addr × V → NestedKey × Addr × Value → Prop := fun p q => p.1 = q.1 ∧ p.2.1 = q.2.1 ∧ RelV p.2.2 q.2.2
theorem paired_map {k : NestedKey} {v : V} {u : Value} (r : RelV v u) : ∀ {L : List (NestedKey × Addr × V)} {xs : List (NestedKey × Addr × Value)}, Paired PR L xs → Paired PR (L.map (putN k v)) (xs.map (putAt k u))
  | _, _, .nil => .nil
  | _, _, .cons (a := x) (b := y) ⟨e1, e2, e3⟩ b => by
    refine .cons ?_ (paired_map r b)
    unfold putN putAt
    by_cases z : x.1 = k
    · rw [if_pos z, if_pos (by rw [← e1]; exact z)]
      exact ⟨e1, e2, r⟩
    · rw [if_neg z, if_neg (by rw [← e1]; exact z)]
      exact ⟨e1, e2, e3⟩
theorem paired_stor {k : NestedKey} {b : Addr} {v : V} {u : Value} (r : RelV v u) {L : List (NestedKey × Addr × V)} {xs : List (NestedKey × Addr × Value)} (hp : Paired PR L xs) : Paired PR (storN L k b v) (storedH xs k b u) := by
  have e := isSome_same (k := k) hp
  unfold storN storedH
  rw [e]
  cases (valN L k).isSome with
  | true => exact paired_map r hp
  | false => exact hp.snoc ⟨rfl, rfl, r⟩
theorem stor_len (L : List (NestedKey × Addr × V)) (k : NestedKey) (b : Addr) (v : V) : (storN L k b v).length ≤ L.length + 1 := by
  unfold storN
  split
  · rw [List.length_map]; omega
  · rw [List.length_append]; exact Nat.le_refl _
theorem stor_key {L : List (NestedKey × Addr × V)} {k : NestedKey} {b : Addr} {v : V} (h : ∀ r ∈ L, r.1.depth ≤ 8) (d : k.depth ≤ 8) : ∀ r ∈ storN L k b v, r.1.depth ≤ 8 := fun r hr => by
  unfold storN at hr
  split at hr
  · obtain ⟨x, hx, rfl⟩ := List.mem_map.mp hr
    unfold putN
    split
    · exact h x hx
    · exact h x hx
  · rcases List.mem_append.mp hr with z | z
    · exact h r z
    · rw [List.mem_singleton.mp z]; exact d
def rSetN (K : PySem.W.Frag) (P : Program) (w : World) : V → V → V → Hp → (Hp → Prop) → Prop := fun o i v H Q => ∃ p L b k, o = .ref p ∧ i = .ref b ∧ H p = some (dN P w p L) ∧ DAt K P w H p L ∧ KOk K H k b ∧ L.length < sizeLine ∧ (∀ r ∈ L, r.1.depth ≤ 8) ∧ k.depth ≤ 8 ∧ Q (upd H p (dN P w p (storN L k b v)))
theorem set_dN {X : Cx} {k : Nat} (hr : Room k X.A) : PSet X (rSetN X.K X.prog X.w) := by
  intro pins s σ H o i v ov iv u Q I ro ri rv h
  obtain ⟨p, L, b, k, rfl, rfl, hw, D, kb, lt, dd, dk, q⟩ := h
  obtain rfl : ov = Value.ref p := ro
  obtain rfl : iv = Value.ref b := ri
  obtain ⟨hd, hl, xs, hp, hm⟩ := D.get I
  have un := hr.un
  refine wpAny_setItem_heap (show X.A.in1.units + 8 < cLine by rw [Around.in1_units]; omega) (kb.at I) hm (fun h' hm' hs => ?_) (by rw [← paired_len hp]; exact hl)
  obtain ⟨ob, es, ep, e1, e2, e3, e4, e5, e6⟩ := hm'
  have sl := stor_len L k b v
  exact ⟨_, I.write (x := p) (e := p) (o := dN X.prog X.w p (storN L k b v)) (by rw [hw]; trivial) (.inl rfl) (fun c y hc hy => (hs.2 c hc).trans hy) ⟨_, e1⟩
    ⟨⟨hd, by omega, stor_key dd dk, _, paired_stor rv hp, ob, es, ep, e1, e2, e3, e4, e6⟩, ⟨_, e1⟩, fun h1 h2 ⟨u1, u2, u3, ys, u4, o', es', ep', u5, u6⟩ kp => ⟨u1, u2, u3, ys, u4, o', es', ep', kp o' u5, u6⟩⟩, q⟩
/-! in the plain semantics -/
section
variable {g : G}
theorem stD_ok {ρ : List Addr} {H : Hp} {k : NestedKey} {kw w : Va} {b : Addr} {v : V} (rk : Rel g ρ H kw (.ref b)) (ek : nkV kw = some k) (rv : Rel g ρ H w v) {kvs : List (Va × Va)} {L : List (NestedKey × Addr × V)} (r1 : RelL g ρ H (kvs.map Prod.fst) (L.map fun r => V.ref r.2.1)) (r2 : RelL g ρ H (kvs.map Prod.snd) (L.map fun r => r.2.2)) (e : kvs.map (fun p => nkV p.1) = L.map fun r => some r.1) :
    RelL g ρ H ((stD kvs kw k w).map Prod.fst) ((storN L k b v).map fun r => V.ref r.2.1) ∧ RelL g ρ H ((stD kvs kw k w).map Prod.snd) ((storN L k b v).map fun r => r.2.2) ∧ (stD kvs kw k w).map (fun p => nkV p.1) = (storN L k b v).map fun r => some r.1 := by
  have mp : ∀ {kvs : List (Va × Va)} {L : List (NestedKey × Addr × V)}, RelL g ρ H (kvs.map Prod.fst) (L.map fun r => V.ref r.2.1) → RelL g ρ H (kvs.map Prod.snd) (L.map fun r => r.2.2) → kvs.map (fun p => nkV p.1) = L.map (fun r => some r.1) →
      RelL g ρ H ((kvs.map (putD k w)).map Prod.fst) ((L.map (putN k v)).map fun r => V.ref r.2.1) ∧ RelL g ρ H ((kvs.map (putD k w)).map Prod.snd) ((L.map (putN k v)).map fun r => r.2.2) ∧ (kvs.map (putD k w)).map (fun p => nkV p.1) = (L.map (putN k v)).map fun r => some r.1 := fun {kvs} => by
    induction kvs with
    | nil =>
      intro L h1 h2 h3
      cases L with
      | nil => exact ⟨.nil, .nil, rfl⟩
      | cons x L => cases h1
    | cons p kvs ih =>
      intro L h1 h2 h3
      cases L with
      | nil => cases h1
      | cons x L =>
        cases h1 with
        | cons a1 b1 =>
          cases h2 with
          | cons a2 b2 =>
            rw [List.map_cons, List.map_cons] at h3
            obtain ⟨e1, e2⟩ := List.cons.inj h3
            obtain ⟨i1, i2, i3⟩ := ih b1 b2 e2
            simp only [List.map_cons]
            by_cases z : x.1 = k
            · have z2 : nkV p.1 = some k := by rw [e1, z]
              have f1 : putD k w p = (p.1, w) := if_pos z2
              have f2 : putN k v x = (x.1, x.2.1, v) := if_pos z
              rw [f1, f2]
              exact ⟨.cons a1 i1, .cons rv i2, by rw [i3]; simp only [e1]⟩
            · have z2 : ¬ nkV p.1 = some k := fun q => z (by rw [e1] at q; exact Option.some.inj q)
              have f1 : putD k w p = p := if_neg z2
              have f2 : putN k v x = x := if_neg z
              rw [f1, f2]
              exact ⟨.cons a1 i1, .cons a2 i2, by rw [i3, e1]⟩
  have same : (valD kvs k).isSome = (valN L k).isSome := by
    rcases valD_ok (k := k) r2 e with ⟨z1, z2⟩ | ⟨w', v', z1, z2, _⟩
    · rw [z1, z2]; rfl
    · rw [z1, z2]; rfl
  unfold stD storN
  rw [same]
  cases (valN L k).isSome with
  | true => exact mp r1 r2 e
  | false =>
    simp only [Bool.false_eq_true, if_false, List.map_append]
    exact ⟨r1.app (.cons rk .nil), r2.app (.cons rv .nil), by rw [e]; simp only [List.map_cons, List.map_nil, ek]⟩
end
end Rz
namespace Rz
open PySem PySem.Spec PyProof.Rows L2 PySem.W
def oDput (u j w : Va) (δ : Env) (S : Sto) : Out := match u with
  | .loc l => match dctW (.loc l) S, keyT j with
    | some kvs, some k => bif decide (k.depth ≤ 8) && fits (kvs.length + 1) then .nx δ (S.set l (.dct (stD kvs j k w))) else .bad
    | _, _ => .bad
  | _ => .bad
@[simp] def sdsub (c i a : XE) : XS := fun δ S => (a δ S).out δ fun w S1 => (c δ S1).out δ fun u S2 => (i δ S2).out δ fun j S3 => oDput u j w δ S3
section
variable {X : Cx} {g : G} {Wx : WX} {k : Nat} {pos : Pos} {a b e : Expr} {es : List Expr} {x y z : XE} {r : XA}
theorem ss_dsub (o : XO X g Wx k) {p' : Pos} (he : SE X g Wx e z) (ha : SE X g Wx a x) (hb : SE X g Wx b y) (hs : swapsWithSole [.Subscript a b p'] e pos.line X.env = pure false := by rfl) (hw : swappedStores [.Subscript a b p'] e X.env = pure none := by rfl)
    (h1 : (assignEach [.Subscript a b p'] X.env).map (·.2) = [assign (.Subscript a b p') X.env] := by rfl)
    (h2 : ∀ v, assign (.Subscript a b p') X.env v = (do
      let ov ← holding [v] (eval a X.env)
      let iv ← holding [v, ov] (eval b X.env)
      standAt p'
      holding [v, ov, iv] (setItem ov iv v)
      release [v, ov, iv] []) := by intro _; rfl) : SS X g Wx (.Assign [.Subscript a b p'] e pos) (sdsub x y z) :=
  ps_imp (ps_asg he (pg_sub ha hb (set_dN o.room) h2) hs hw h1) fun D σ H ⟨δ, S, ρ, sm, se, h⟩ => ⟨δ, S, ρ, sm, se, wpR.imp (wpR.out (rel := Rel g) se h) fun v H1 ⟨ρ1, w, S1, e1, s1, r1, h1⟩ =>
    ⟨δ, S1, ρ1, s1, se.mono e1, wpR.imp (wpR.out (rel := Rel g) (se.mono e1) h1) fun ov H2 ⟨ρ2, u, S2, e2, s2, r2, h2⟩ =>
    ⟨δ, S2, ρ2, s2, se.mono (e1.trans e2), wpR.imp (wpR.out (rel := Rel g) (se.mono (e1.trans e2)) h2) fun iv H3 ⟨ρ3, j, S3, e3, s3, r3, h3⟩ => by
      have ru := r2.mono e3
      have rv := r1.mono (e2.trans e3)
      have se3 := se.mono ((e1.trans e2).trans e3)
      cases u with
      | loc l =>
        have h4 : wpS g Wx ρ3 H3 D (match dctW (.loc l) S3, keyT j with | some kvs, some k => bif decide (k.depth ≤ 8) && fits (kvs.length + 1) then .nx δ (S3.set l (.dct (stD kvs j k w))) else .bad | _, _ => .bad) := h3
        cases q1 : dctW (.loc l) S3 with
        | none => rw [q1] at h4; exact h4.elim
        | some kvs =>
          cases q2 : keyT j with
          | none => rw [q1, q2] at h4; exact h4.elim
          | some k =>
            rw [q1, q2] at h4
            dsimp only at h4
            by_cases c : (decide (k.depth ≤ 8) && fits (kvs.length + 1)) = true
            · rw [c] at h4
              rw [Bool.and_eq_true, decide_eq_true_eq, fits_iff] at c
              obtain ⟨l', p, L, el, rfl, hp, hS, hw, DA, t1, t2, t3, dd⟩ := dctW_at s3 ru q1
              cases el
              obtain ⟨b', rfl, kb, nk⟩ := keyT_ok r3 q2
              have ll : L.length = kvs.length := by
                have := congrArg List.length t3
                rw [List.length_map, List.length_map] at this
                exact this.symm
              obtain ⟨s4, e4⟩ := s3.put (o' := .dct (stD kvs j k w)) (u := dN g.P g.w p (storN L k b' v)) hS hp rfl rfl fun H' e' q' => by
                obtain ⟨u1, u2, u3⟩ := stD_ok (r3.mono e') nk (rv.mono e') (t1.mono e') (t2.mono e') t3
                exact ⟨_, q', u1, u2, u3, stor_key dd c.1⟩
              have fin := h4 _ _ σ e4 s4 (se3.mono e4)
              rw [o.K, o.gP, o.gw] at DA
              rw [o.gP, o.gw] at hw
              rw [o.K] at kb
              rw [o.gP, o.gw] at fin
              exact ⟨p, L, b', k, rfl, rfl, hw, DA, kb, by omega, dd, c.1, fin⟩
            · rw [Bool.not_eq_true _ |>.mp c] at h4
              exact h4.elim
      | _ => exact h3.elim⟩⟩⟩
end
end Rz
namespace Rz
open PySem PySem.Spec PyProof.Rows L2
/-! ### min(xs), ints in a list or a tuple -/
theorem fold_min : ∀ (ns : List Int) (n : Int), ns.foldl min n ≤ n ∧ (∀ y ∈ ns, ns.foldl min n ≤ y) ∧ (ns.foldl min n = n ∨ ns.foldl min n ∈ ns)
  | [], n => ⟨Int.le_refl _, (fun y h => nomatch h), .inl rfl⟩
  | a :: ns, n => by
    obtain ⟨h1, h2, h3⟩ := fold_min ns (min n a)
    have e : (a :: ns).foldl min n = ns.foldl min (min n a) := rfl
    rw [e]
    refine ⟨by omega, fun y hy => ?_, ?_⟩
    · rcases List.mem_cons.mp hy with z | z
      · rw [z]; omega
      · exact h2 y z
    · rcases h3 with z | z
      · rw [z]
        rcases Int.le_total n a with c | c
        · rw [Int.min_eq_left c]; exact .inl rfl
        · rw [Int.min_eq_right c]; exact .inr List.mem_cons_self
      · exact .inr (List.mem_cons_of_mem _ z)
def rMin1 (K : PySem.W.Frag) : List V → Hp → VK → Prop := fun vs H Q => ∃ (a : Addr) (n : Int) (ns : List Int), vs = [V.ref a] ∧ (SqL K H a ((n :: ns).map V.int) ∨ SqT K H a ((n :: ns).map V.int)) ∧ Q (.int (ns.foldl min n)) H
section
variable {X : Cx} {g : G} {Wx : WX} {k : Nat} {pos : Pos} {a b c : Expr} {es : List Expr} {x y z : XE} {r : XA}
theorem cr_min1 (hr : Room k X.A) (hc : X.calm = true) : CallR X (.builtin "min") (rMin1 X.K) := by
  intro pins s σ H vs us Q I rv h
  obtain ⟨a, n, ns, rfl, hs, q⟩ := h
  obtain ⟨f1, f2, f3⟩ := fold_min ns n
  rcases hs with hs | hs
  · refine cr_min hc pins s σ H [.ref a] us Q I rv ⟨a, n :: ns, rfl, hs, Nat.succ_pos _, fun m hm ub => ?_⟩
    have : m = ns.foldl min n := by
      have h1 : m ≤ ns.foldl min n := by
        rcases f3 with z | z
        · rw [z]; exact ub n List.mem_cons_self
        · exact ub _ (List.mem_cons_of_mem _ z)
      have h2 : ns.foldl min n ≤ m := by
        rcases List.mem_cons.mp hm with z | z
        · rw [z]; exact f1
        · exact f2 m z
      omega
    rw [this]
    exact q
  · obtain ⟨its, rl, tp, _⟩ := I.tuple hs
    obtain ⟨u, rfl, ru⟩ := Vals.one rv
    obtain rfl : u = Value.ref a := ru
    obtain ⟨as, rd⟩ := reads_ints (h := s.heap) rl
    have un := hr.un
    have dz : PyData.depthAll ((n :: ns).map PyData.int) = 0 := depth_ints _
    refine PySem.W.min_tuple_data (vs := its.toArray) (x := .int n) (xs := ns.map .int) (I.ok.hd hc) tp (by simpa using rd) (alike_int (n :: ns)) (by
      have dz' : PyData.depthAll (.int n :: ns.map PyData.int) = 0 := dz
      rw [dz']
      omega) fun i v h' tk bs hi hv hk => ?_
    rw [PySem.W.minD_ints] at hv
    cases hv with
    | int _ t => exact ⟨.int _, H, I.kept hk, ⟨_, rfl⟩, q⟩
def fMin1 (ws : List Va) (S : Sto) : Rs Va := match ws with
  | [w] => match itm w S with
    | some us => match intsV us with
      | some (n :: ns) => .ok (.int (ns.foldl min n)) S
      | _ => .bad
    | none => .bad
  | _ => .bad
theorem cs_min1 : CalS g (rMin1 g.K) fMin1 := fun Wx σ ρ S H ws vs Q sm rl h => by
  unfold fMin1 at h
  split at h
  · rename_i w
    cases rl with
    | cons ra rn =>
      cases rn
      cases e : itm w S with
      | none => rw [e] at h; exact h.elim
      | some us =>
        rw [e] at h
        dsimp only at h
        cases e2 : intsV us with
        | none => rw [e2] at h; exact h.elim
        | some ms =>
          rw [e2] at h
          cases ms with
          | nil => exact h.elim
          | cons n ns =>
            obtain ⟨p, ts, rfl, s, rl2⟩ := itm_ok sm ra e
            rw [intsV_of e2] at rl2
            rw [rel_ints rl2] at s
            exact ⟨p, n, ns, rfl, s, h.fin sm (.int _)⟩
  · exact h.elim
theorem se_min1 (o : XO X g Wx k) {p : Pos} (hm : X.mg "min" = none) (ha : SA X g Wx [a] r) (hg : Gl X "min" := by rfl) (he : starEach [a] X.env = (false, eval a X.env) :: starEach [] X.env := by rfl) : SE X g Wx (.Call (.Name "min" p) [a] [] pos) (xcall fMin1 r) :=
  se_callB (cr_min1 o.room o.calm) (o.K ▸ cs_min1) hm ha hg (he := he)
/-! ### dicts with ints as keys -/
@[simp] def xdictI0 : XE := fun _ S => .ok (.loc S.length) (S ++ [.dci []])
theorem se_dictI0 (o : XO X g Wx k) : SE X g Wx (.Dict [] [] pos) xdictI0 :=
  pe_imp pe_dnewK fun σ H Q ⟨δ, S, ρ, sm, se, h⟩ => fun p hp => by
    obtain ⟨s2, e2⟩ := sm.laid (o := .dci []) (u := .dK []) hp (fun ρ' H' e q => ⟨[], q, rfl, .nil⟩) rfl
    exact wpR.fin_at (a := Va.loc S.length) h e2 s2 (.loc (by rw [sm.len]; simp))
def valI (kvs : List (Int × Va)) (k : Int) : Option Va := (kvs.find? fun p => decide (p.1 = k)).map (·.2)
def putI (k : Int) (w : Va) (p : Int × Va) : Int × Va := if p.1 = k then (p.1, w) else p
def stI (kvs : List (Int × Va)) (k : Int) (w : Va) : List (Int × Va) := if (kvs.any fun p => decide (p.1 = k)) = true then kvs.map (putI k w) else kvs ++ [(k, w)]
@[simp] def dciAt (w : Va) (S : Sto) : Option (List (Int × Va)) := match w with
  | .loc l => match S[l]? with
    | some (.dci kvs) => some kvs
    | _ => none
  | _ => none
theorem dci_ok {ρ : List Addr} {S : Sto} {H : Hp} {w : Va} {v : V} {kvs : List (Int × Va)} (sm : Sim g ρ S H) (r : Rel g ρ H w v) (h : dciAt w S = some kvs) : ∃ l p L, w = .loc l ∧ v = .ref p ∧ ρ[l]? = some p ∧ S[l]? = some (.dci kvs) ∧ H p = some (.dK L) ∧ L.map Prod.fst = kvs.map (fun p => Sum.inl p.1) ∧ RelL g ρ H (kvs.map Prod.snd) (L.map Prod.snd) := by
  cases r with
  | @loc l p hp =>
    have h' : (match S[l]? with | some (.dci kvs) => some kvs | _ => none) = some kvs := h
    split at h'
    · rename_i ks e
      cases h'
      obtain ⟨L, e1, e2, e3⟩ := sm.ats l _ p e hp
      exact ⟨l, p, L, rfl, rfl, hp, e, e1, e2, e3⟩
    · cases h'
  | _ => cases h
theorem valI_ok {ρ : List Addr} {H : Hp} {k : Int} : ∀ {kvs : List (Int × Va)} {L : List (L2.Key × V)}, L.map Prod.fst = kvs.map (fun p => Sum.inl p.1) → RelL g ρ H (kvs.map Prod.snd) (L.map Prod.snd) →
    (valI kvs k = none ∧ valV L (Sum.inl k) = none) ∨ ∃ w v, valI kvs k = some w ∧ valV L (Sum.inl k) = some v ∧ Rel g ρ H w v
  | [], [], _, _ => .inl ⟨rfl, rfl⟩
  | [], _ :: _, h, _ => nomatch h
  | _ :: _, [], h, _ => nomatch h
  | p :: kvs, x :: L, e, .cons a b => by
    rw [List.map_cons, List.map_cons] at e
    obtain ⟨e1, e2⟩ := List.cons.inj e
    unfold valI valV
    rw [List.find?_cons, List.find?_cons, e1]
    by_cases z : p.1 = k
    · rw [decide_eq_true z, decide_eq_true (by rw [z])]
      exact .inr ⟨_, _, rfl, rfl, a⟩
    · rw [decide_eq_false z, decide_eq_false (fun q => z (Sum.inl.inj q))]
      exact valI_ok (k := k) e2 b
theorem any_same {k : Int} : ∀ {kvs : List (Int × Va)} {L : List (L2.Key × V)}, L.map Prod.fst = kvs.map (fun p => Sum.inl p.1) → (L.any fun kv => decide (kv.1 = Sum.inl k)) = (kvs.any fun p => decide (p.1 = k))
  | [], [], _ => rfl
  | [], _ :: _, h => nomatch h
  | _ :: _, [], h => nomatch h
  | p :: kvs, x :: L, e => by
    rw [List.map_cons, List.map_cons] at e
    obtain ⟨e1, e2⟩ := List.cons.inj e
    rw [List.any_cons, List.any_cons, any_same e2, e1]
    by_cases z : p.1 = k
    · rw [decide_eq_true z, decide_eq_true (by rw [z])]
    · rw [decide_eq_false z, decide_eq_false (fun q => z (Sum.inl.inj q))]
theorem map_same {ρ : List Addr} {H : Hp} {k : Int} {w : Va} {v : V} (r : Rel g ρ H w v) : ∀ {kvs : List (Int × Va)} {L : List (L2.Key × V)}, L.map Prod.fst = kvs.map (fun p => Sum.inl p.1) → RelL g ρ H (kvs.map Prod.snd) (L.map Prod.snd) →
    (L.map fun kv => if kv.1 = Sum.inl k then (kv.1, v) else kv).map Prod.fst = (kvs.map (putI k w)).map (fun p => (Sum.inl p.1 : L2.Key)) ∧ RelL g ρ H ((kvs.map (putI k w)).map Prod.snd) ((L.map fun kv => if kv.1 = Sum.inl k then (kv.1, v) else kv).map Prod.snd)
  | [], [], _, _ => ⟨rfl, .nil⟩
  | [], _ :: _, h, _ => nomatch h
  | _ :: _, [], h, _ => nomatch h
  | p :: kvs, x :: L, e, .cons a b => by
    rw [List.map_cons, List.map_cons] at e
    obtain ⟨e1, e2⟩ := List.cons.inj e
    obtain ⟨i1, i2⟩ := map_same r e2 b
    simp only [List.map_cons]
    by_cases z : p.1 = k
    · have f1 : putI k w p = (p.1, w) := if_pos z
      rw [if_pos (show x.1 = Sum.inl k by rw [e1, z]), f1]
      exact ⟨by simp only [e1, i1], .cons r i2⟩
    · have f1 : putI k w p = p := if_neg z
      rw [if_neg (show ¬ x.1 = Sum.inl k by rw [e1]; exact fun q => z (Sum.inl.inj q)), f1]
      exact ⟨by rw [e1, i1], .cons a i2⟩
theorem stI_ok {ρ : List Addr} {H : Hp} {k : Int} {w : Va} {v : V} (r : Rel g ρ H w v) {kvs : List (Int × Va)} {L : List (L2.Key × V)} (e : L.map Prod.fst = kvs.map (fun p => Sum.inl p.1)) (rl : RelL g ρ H (kvs.map Prod.snd) (L.map Prod.snd)) :
    (putK L (Sum.inl k) v).map Prod.fst = (stI kvs k w).map (fun p => (Sum.inl p.1 : L2.Key)) ∧ RelL g ρ H ((stI kvs k w).map Prod.snd) ((putK L (Sum.inl k) v).map Prod.snd) := by
  unfold putK stI
  rw [any_same e]
  by_cases c : (kvs.any fun p => decide (p.1 = k)) = true
  · rw [if_pos c, if_pos c]
    exact map_same r e rl
  · rw [if_neg c, if_neg c]
    simp only [List.map_append]
    exact ⟨by rw [e]; rfl, rl.app (.cons r .nil)⟩
/-- d[k] -/
@[simp] def oIix (a b : Va) (S : Sto) : Rs Va := match dciAt a S, b with
  | some kvs, .int k => match valI kvs k with
    | some w => .ok w S
    | none => .bad
  | _, _ => .bad
theorem se_iix (o : XO X g Wx k) (ha : SE X g Wx a x) (hb : SE X g Wx b y) (hs : NoSl b := by intro _ _; rfl) : SE X g Wx (.Subscript a b pos) (xbin oIix x y) :=
  pe_imp (pe_dget (hu_of o.room) ha hb hs) fun σ H Q ⟨δ, S, ρ, sm, se, h⟩ => ⟨δ, S, ρ, sm, se, wpR.imp (wpR.bind (rel := Rel g) h) fun v H1 ⟨ρ1, w, S1, e1, s1, r1, h1⟩ =>
    ⟨δ, S1, ρ1, s1, se.mono e1, wpR.imp (wpR.bind (rel := Rel g) h1) fun u H2 ⟨ρ2, j, S2, e2, s2, r2, h2⟩ => by
      unfold oIix at h2
      cases q : dciAt w S2 with
      | none => rw [q] at h2; exact h2.elim
      | some kvs =>
        rw [q] at h2
        cases r2 with
        | int i =>
          dsimp only at h2
          obtain ⟨l, p, L, rfl, rfl, hp, hS, hH, t1, t2⟩ := dci_ok s2 (r1.mono e2) q
          rcases valI_ok (k := i) t1 t2 with ⟨z1, z2⟩ | ⟨w', v', z1, z2, rv⟩
          · rw [z1] at h2; exact h2.elim
          · rw [z1] at h2
            exact ⟨p, v', rfl, .inl ⟨L, Sum.inl i, .inl hH, rfl, z2.symm⟩, wpR.fin (a := w') h2 s2 rv⟩
        | _ => exact h2.elim⟩⟩
/-- d[k] = v -/
def oIput (u j w : Va) (δ : Env) (S : Sto) : Out := match u with
  | .loc l => match dciAt (.loc l) S, j with
    | some kvs, .int k => bif fits (kvs.length + 1) then .nx δ (S.set l (.dci (stI kvs k w))) else .bad
    | _, _ => .bad
  | _ => .bad
@[simp] def sisub (c i a : XE) : XS := fun δ S => (a δ S).out δ fun w S1 => (c δ S1).out δ fun u S2 => (i δ S2).out δ fun j S3 => oIput u j w δ S3
theorem ss_isub (o : XO X g Wx k) {p' : Pos} {e : Expr} (he : SE X g Wx e z) (ha : SE X g Wx a x) (hb : SE X g Wx b y) (hs : swapsWith e (some (.Subscript a b p')) pos.line X.env = pure false := by rfl) : SS X g Wx (.Assign [.Subscript a b p'] e pos) (sisub x y z) :=
  ps_imp (ps_dput (hu_of o.room) ha hb he hs) fun D σ H ⟨δ, S, ρ, sm, se, h⟩ => ⟨δ, S, ρ, sm, se, wpR.imp (wpR.out (rel := Rel g) se h) fun v H1 ⟨ρ1, w, S1, e1, s1, r1, h1⟩ =>
    ⟨δ, S1, ρ1, s1, se.mono e1, wpR.imp (wpR.out (rel := Rel g) (se.mono e1) h1) fun ov H2 ⟨ρ2, u, S2, e2, s2, r2, h2⟩ =>
    ⟨δ, S2, ρ2, s2, se.mono (e1.trans e2), wpR.imp (wpR.out (rel := Rel g) (se.mono (e1.trans e2)) h2) fun iv H3 ⟨ρ3, j, S3, e3, s3, r3, h3⟩ => by
      have ru := r2.mono e3
      have rv := r1.mono (e2.trans e3)
      have se3 := se.mono ((e1.trans e2).trans e3)
      cases u with
      | loc l =>
        have h4 := h3
        unfold oIput at h4
        dsimp only at h4
        cases q1 : dciAt (.loc l) S3 with
        | none => rw [q1] at h4; exact h4.elim
        | some kvs =>
          rw [q1] at h4
          cases r3 with
          | int i =>
            dsimp only at h4
            by_cases c : fits (kvs.length + 1) = true
            · rw [c] at h4
              rw [fits_iff] at c
              obtain ⟨l', p, L, el, rfl, hp, hS, hH, t1, t2⟩ := dci_ok s3 ru q1
              cases el
              have ll : L.length = kvs.length := by
                have := congrArg List.length t1
                rw [List.length_map, List.length_map] at this
                exact this
              obtain ⟨s4, e4⟩ := s3.put (o' := .dci (stI kvs i w)) (u := .dK (putK L (Sum.inl i) v)) hS hp rfl rfl fun H' e' q' => by
                obtain ⟨u1, u2⟩ := stI_ok (k := i) (rv.mono e') t1 (t2.mono e')
                exact ⟨_, q', u1, u2⟩
              have fin := h4 _ _ σ e4 s4 (se3.mono e4)
              exact ⟨p, _, rfl, .inl ⟨L, Sum.inl i, hH, rfl, by omega, rfl⟩, fin⟩
            · rw [Bool.not_eq_true _ |>.mp c] at h4
              exact h4.elim
          | _ => exact h4.elim
      | _ => exact h3.elim⟩⟩⟩
/-- sorted(d) -/
def sortZ (ks : List Int) : List Int := ks.mergeSort fun a b => decide (a ≤ b)
theorem sortZ_eq {ys ks : List Int} (h1 : ys.Perm ks) (h2 : ys.Pairwise (· ≤ ·)) : ys = sortZ ks := by
  refine List.Perm.eq_of_pairwise (fun a b _ _ h h' => Int.le_antisymm h h') h2 ?_ (h1.trans (List.mergeSort_perm ks _).symm)
  exact (List.pairwise_mergeSort (fun a b c h1 h2 => by simp only [decide_eq_true_eq] at *; omega) (fun a b => by simp only [Bool.or_eq_true, decide_eq_true_eq]; omega) ks).imp fun h => of_decide_eq_true h
def fSrtI (ws : List Va) (S : Sto) : Rs Va := match ws with
  | [w] => match dciAt w S with
    | some kvs => bif decide (kvs.length < 64) then .ok (.loc S.length) (S ++ [.lst ((sortZ (kvs.map Prod.fst)).map .int)]) else .bad
    | none => .bad
  | _ => .bad
def rSrtI : List V → Hp → VK → Prop := fun xs H Q => ∃ (a : Addr) (kvs : List (L2.Key × V)) (ks : List Int), xs = [V.ref a] ∧ Rd H a (HO.dK kvs) ∧ List.map (fun x => x.fst) kvs = List.map Sum.inl ks ∧ ks.length < 64 ∧ ∀ (ys : List Int) (p : Addr), ys.Perm ks → List.Pairwise (fun x1 x2 => x1 ≤ x2) ys → H p = none → Q (V.ref p) (upd H p (HO.lst (List.map V.int ys)))
theorem cs_srtI : CalS g rSrtI fSrtI := fun Wx σ ρ S H ws vs Q sm rl h => by
  unfold fSrtI at h
  split at h
  · rename_i w
    cases rl with
    | cons ra rn =>
      cases rn
      cases e : dciAt w S with
      | none => rw [e] at h; exact h.elim
      | some kvs =>
        rw [e] at h
        dsimp only at h
        by_cases z : decide (kvs.length < 64) = true
        · rw [z] at h
          obtain ⟨l, p, L, rfl, rfl, hp, hS, hH, t1, t2⟩ := dci_ok sm ra e
          refine ⟨p, L, kvs.map Prod.fst, rfl, .inl hH, by rw [List.map_map]; exact t1, by rw [List.length_map]; exact of_decide_eq_true z, fun ys q h1 h2 hq => ?_⟩
          obtain rfl := sortZ_eq h1 h2
          obtain ⟨s1, e1⟩ := sm.laid (o := .lst ((sortZ (kvs.map Prod.fst)).map .int)) (u := .lst ((sortZ (kvs.map Prod.fst)).map V.int)) hq (fun ρ' H' e q => ⟨_, q, RelL.ints _⟩) rfl
          exact wpR.fin_at (a := Va.loc S.length) h e1 s1 (.loc (by rw [sm.len]; simp))
        · rw [Bool.not_eq_true _ |>.mp z] at h
          exact h.elim
  · exact h.elim
theorem se_srtI (o : XO X g Wx k) {p : Pos} (hm : X.mg "sorted" = none) (ha : SA X g Wx [a] r) (hg : Gl X "sorted" := by rfl) (he : starEach [a] X.env = (false, eval a X.env) :: starEach [] X.env := by rfl) : SE X g Wx (.Call (.Name "sorted" p) [a] [] pos) (xcall fSrtI r) :=
  se_callB (call_sortedDI o.calm) cs_srtI hm ha hg (he := he)
end
end Rz
namespace Rz
open PySem PySem.Spec PyProof.Rows L2
/-! ### x in a tuple, data -/
def cInT (a b : Va) (S : Sto) : Rs Bool := match toD S 64 a, toD S 64 b with
  | some d, some (.tuple ds) => bif d.layable0 && (PyData.tuple ds).layable0 && ds.all (fun y => SeqAt.noMix y d) then .ok (ds.any fun z => PyData.eqv z d) S else .bad
  | _, _ => .bad
def rInT (K : PySem.W.Frag) : R2 := fun x y H Q => ∃ d ds, Dp K H x d ∧ Dp K H y (.tuple ds) ∧ d.layable0 = true ∧ (PyData.tuple ds).layable0 = true ∧ (∀ y ∈ ds, SeqAt.noMix y d = true) ∧ Q (.bl (ds.any fun z => z.eqv d)) H
section
variable {X : Cx} {g : G} {Wx : WX} {k : Nat} {pos : Pos} {a b c : Expr} {x y z : XE}
theorem op_inT (hr : Room k X.A) : OpR X (compareOp .In) (rInT X.K) := by
  intro pins s σ H x y v u Q I rx ry h
  obtain ⟨d, ds, h1, h2, h3, h4, h5, q⟩ := h
  obtain ⟨as, r1⟩ := Dp.reads I d x v h1 rx
  obtain ⟨bs, r2⟩ := Dp.reads I _ y u h2 ry
  have un := hr.un
  refine in_tuple_dataS r2 r1 h4 h3 (by omega) h5 ?_
  rw [← any_eqv_countIn d ds h5]
  exact ⟨.bl _, H, I, rfl, q⟩
theorem ob_inT : OpB g (rInT g.K) cInT := fun Wx σ ρ S H a b x y Q sm ra rb h => by
  unfold cInT at h
  split at h
  · rename_i d ds e1 e2
    by_cases z : (d.layable0 && (PyData.tuple ds).layable0 && ds.all (fun y => SeqAt.noMix y d)) = true
    · rw [z] at h
      rw [Bool.and_eq_true, Bool.and_eq_true] at z
      exact ⟨d, ds, toD_ok sm 64 a x d e1 ra, toD_ok sm 64 b y _ e2 rb, z.1.1, z.1.2, List.all_eq_true.mp z.2, h.fin sm rfl⟩
    · rw [Bool.not_eq_true _ |>.mp z] at h
      exact h.elim
  · exact h.elim
theorem se_inT (o : XO X g Wx k) (ha : SE X g Wx a x) (hb : SE X g Wx b y) (hm : behindInMarks .In b = false := by rfl) : SE X g Wx (.Compare a [.In] [b] pos) (xboo (xbinB cInT x y)) := se_cmp (op_inT o.room) (by have q := ob_inT (g := g); rw [o.K] at q; exact q) ha hb hm
theorem sq_inT (o : XO X g Wx k) (ha : SE X g Wx a x) (hb : SE X g Wx b y) (hm : behindInMarks .In b = false := by rfl) : SQ X g Wx (.Compare a [.In] [b] pos) (xbinB cInT x y) := sq_cmp (op_inT o.room) (by have q := ob_inT (g := g); rw [o.K] at q; exact q) ha hb hm
end
end Rz
namespace Rz
open PySem PySem.Spec PyProof.Rows L2
/-! ### an exception that a clause keeps -/
theorem exH_ok {P : Program} {w : World} {H : Hp} {hp : Heap} {cls : Value} {a : Addr} {ob : Obj} (e : hp.get? a = some ob) (z : Zc cls none ob) (f : ∃ fs, ob.data = .fields fs) : ObjOk P w H hp a (exH cls a) :=
  ⟨let ⟨fs, q⟩ := f; ⟨ob, fs, e, z, q⟩, ⟨ob, e⟩, fun h1 h2 ⟨o1, f1, q1, q2, q3⟩ kp => ⟨o1, f1, kp o1 q1, q2, q3⟩⟩
section
variable {X : Cx} {pins : List (Addr × Obj)} {σ : L2.St} {H : Hp} {s : Shared}
theorem track_it (I : Inv X pins σ H s) {a : Addr} {ob : Obj} {o : HO} (e : s.heap.get? a = some ob) (nc : ∀ v, ob.data ≠ .cell v) (n0 : X.s_0.heap.get? a = none) (na : H a = none) (nL : a ≠ X.env.locals)
    (np : ∀ p ∈ X.pn ++ pins, p.1 ≠ a) (ok : ObjOk X.prog X.w (upd H a o) s.heap a o) : Inv X pins σ (upd H a o) s := by
  have other : ∀ {b : Addr} {q : Obj}, X.s_0.heap.get? b = some q → b ≠ a := fun {b q} y z => by
    subst z
    rw [n0] at y
    cases y
  have held : ∀ {b : Addr} {u : HO}, H b = some u → b ≠ a := fun {b u} y z => by
    subst z
    rw [na] at y
    cases y
  refine ⟨I.ok, I.os, I.bare, { I.base with free := fun b q y1 y2 y3 => ?_, tups := fun b xs y => ?_, frzs := fun b q u y => ?_, tbls := fun b ps y => ?_ }, I.loc, I.cell, ?_, fun x c y => ?_, fun p hp => ?_, HOk.laidN I.hok (fun _ _ y => y) na ok, I.len⟩
  · rw [upd_ne (other y1)]
    exact I.base.free b q y1 y2 y3
  · have y' := I.base.tups b xs y
    rw [upd_ne (held y')]
    exact y'
  · have y' := I.base.frzs b q u y
    rw [upd_ne (held y')]
    exact y'
  · obtain ⟨more, y'⟩ := I.base.tbls b ps y
    exact ⟨more, by rw [upd_ne (held y')]; exact y'⟩
  · rw [upd_ne nL.symm]
    exact I.free
  · have ca : c ≠ a := fun z => by
      subst z
      obtain ⟨v, oc, h1, h3⟩ := I.cell x c y
      rw [e] at h1
      cases h1
      exact nc _ h3
    rw [upd_ne ca]
    exact I.freeC x c y
  · obtain ⟨h1, h2, h3⟩ := I.pin p hp
    exact ⟨h1, by rw [upd_ne (np p hp)]; exact h2, h3⟩
end
/-- what a raised exception must meet where the clause keeps it: its class is caught, it has no dict, and the suite goes on with it at a new address -/
def wKeep (K : PySem.W.Frag) (c : Value) (i : Nat) (ts : Addr → TS) (D : Ends) : WX := fun cls d σ H =>
  PySem.W.exmOne K cls c = some true ∧ d = none ∧
    ∀ z, H z = none → ts z { nx := fun σ2 H2 => H2 z = none → D.nx (σ2.set i none) (upd H2 z (exH cls z)), rt := fun _ _ => False } (σ.set i (some (.ref z))) H
section
variable {X : Cx} {x n : Str} {c : Value} {i : Nat} {body suite : List Stmt} {st : Stmt} {p1 p2 p3 : Pos} {tb : WX → TS} {ts : Addr → TS}
theorem ps_keep (hs : X.stack = X.env :: X.outer) (hf : X.env.frame = some X.env.locals) (hx : X.ex = []) (hN : X.N.Nodup) (hi : X.N[i]? = some n) (hl : X.env.kindOf n = some .local) (hc : Names X x c)
    (inB : ∀ (W : WX) (pn : List (Addr × Obj)) (xe : Value → Shared → Prop), Takes (X.tr pn xe) W → PassesOwn (model X.prog X.w) X.A X.env xe → PSs (X.tr pn xe) body (tb W))
    (inS : ∀ (z : Addr) (pn : List (Addr × Obj)), PSs (X.suite z pn) (st :: suite) (ts z)) :
    PS X (.Try body [.ExceptHandler (some (.Name x p1)) (some n) (st :: suite) p2] [] [] p3) fun D σ H => tb (wKeep X.K c i ts D) D σ H := ⟨fun pins s σ H D I h => by
  have good := I.ok
  have around : X.A.frames = some (X.env :: X.outer) := good.frames.trans (congrArg some hs)
  let after : Value → Shared → Prop := fun u q => wpAny (model X.prog X.w) X.A (noteFrame u X.env)
    (fun _ q1 => wpAny (model X.prog X.w) X.A (setFlight u none)
      (fun _ q2 => wpAny (model X.prog X.w) X.A (handleBy u X.env [.ExceptHandler (some (.Name x p1)) (some n) (st :: suite) p2]) (SP X pins D) X.xe q2) X.xe q1) X.xe q
  have caught : ∀ u q, L2.XE (X.tr (X.pn ++ pins) after) (wKeep X.K c i ts D) u q → after u q := fun u q xx => by
    obtain ⟨z, B, qI, pins1, σ1, H1, cls, d, eu, J0, old, up0, sky0, nz, hos, hbare, match1, dn, go⟩ := xx
    subst eu
    subst dn
    have J : Inv X pins σ1 H1 qI := J0.ofTry good
    have sky1 : Sky B (X.env :: X.outer) z (Zc cls none) X.env.locals q.heap := by
      rw [← hs]
      exact sky0
    refine Sky.land Zc.steady around hf sky1 fun g1 f1 u1 => ?_
    obtain ⟨ob1, fs1, e1, z1, d1⟩ := f1.there
    have apart : z ∉ frs (X.env :: X.outer) := fun m => by
      obtain ⟨_, o2, e2, no⟩ := f1.2.2.1.mem m
      rw [e1] at e2
      cases e2
      exact no _ d1
    have nL : z ≠ X.env.locals := fun q => apart (List.mem_filterMap.mpr ⟨X.env, List.mem_cons_self, hf.trans (congrArg some q.symm)⟩)
    have nF : z ∉ X.fs := fun m => by
      obtain ⟨en, me, qe⟩ := List.mem_filterMap.mp m
      exact apart (List.mem_filterMap.mpr ⟨en, List.mem_cons_of_mem _ me, qe⟩)
    have apartX : z ∉ frs X.stack := by rw [hs]; exact apart
    have notOld : ∀ {o2 : Obj}, qI.heap.get? z = some o2 → False := fun {o2} y => by
      have := old z o2 y apartX
      rw [f1.2.1] at this
      cases this
    have n0 : X.s_0.heap.get? z = none := by
      cases y : X.s_0.heap.get? z with
      | none => rfl
      | some o2 =>
        obtain ⟨o3, y3⟩ := J.base.there z o2 y (by rw [hx]; exact fun m => nomatch m)
        exact (notOld y3).elim
    have np : ∀ p ∈ X.pn ++ pins, p.1 ≠ z := fun p hp y => by
      obtain ⟨y1, _⟩ := J.pin p hp
      rw [y] at y1
      exact notOld y1
    have J1 : Inv X pins σ1 H1 { q with heap := g1 } := J.landed old f1.1 (up0.trans u1) hos hbare
    have S1 := J1.suite e1 d1 nz nL nF
    refine wpAny_handleBy_cons (codeAny_handlers_test ?_) (by intro y; cases y)
    have kind : PySem.W.Looks (model X.prog X.w) g1 (typeOf (.ref z)) cls := fun A Q E t k y => wpAny_typeOf_ref (k _ _ e1) (by rw [z1.1]; exact y)
    have fits := PySem.W.exm_one (M := model X.prog X.w) J1.kIn kind match1
    have name : ∀ {Q E : Value → Shared → Prop}, Q c { q with heap := g1 } → wpAny (model X.prog X.w) (X.A.mark (some (.ref z))) (eval (.Name x p1) X.env) Q E { q with heap := g1 } := fun {Q E} y => by
      obtain ⟨a1, a2, a3⟩ := hc
      rcases a3 with a3 | ⟨a3, a4, a5⟩
      · exact ld_glob (X := X.suite z ((z, ob1) :: (X.pn ++ pins))) S1 a1 a3 y a2
      · exact ld_blt (X := X.suite z ((z, ob1) :: (X.pn ++ pins))) S1 a1 a3 a4 y a5 a2
    refine name (fits.here (codeAny_handlers_suite_as (HandSPX.lands_againZ f1 fun g2 f2 u2 => ?_)))
    obtain ⟨ob2, fs2, e2, z2, d2⟩ := f2.there
    have J2 : Inv X pins σ1 H1 { q with heap := g2 } := J.landed old f2.1 ((up0.trans u1).trans u2) hos hbare
    refine store_ok (X := X.suite z ((z, ob2) :: (X.pn ++ pins))) (v := .ref z) (J2.suite e2 d2 nz nL nF) hN hi (.inl hl) rfl (fun q3 S3 => ?_) (.inr hl)
    refine wpAny_mono ((inS z ((z, ob2) :: (X.pn ++ pins))).run [] q3 _ H1 _ S3 (go z nz)) (fun f q4 y => ?_) fun _ _ y => y.elim
    cases f with
    | next =>
      obtain ⟨σ4, H4, S4, y4⟩ := y
      obtain ⟨p4, n4, _⟩ := S4.pin (z, ob2) (List.mem_append_left _ List.mem_cons_self)
      have J4 : Inv X pins σ4 (upd H4 z (exH cls z)) q4 := track_it (S4.unsuite good) p4 (fun v w => by rw [d2] at w; cases w) n0 n4 nL np (exH_ok p4 z2 ⟨_, d2⟩)
      exact gone_ok J4 hN hi hl fun q5 J5 => ⟨_, _, J5, y4 n4⟩
    | brk =>
      obtain ⟨_, _, _, y4⟩ := y
      exact y4.elim
    | cont =>
      obtain ⟨_, _, _, y4⟩ := y
      exact y4.elim
    | ret u =>
      obtain ⟨_, _, _, _, _, y4⟩ := y
      exact y4.elim
  have run1 := (inB (wKeep X.K c i ts D) (X.pn ++ pins) after caught PassesOwn.looking).run [] s σ H D (I.toTry after) h
  refine wpAny_Try_except (wpAny_mono run1 (fun f q y => ?_) fun _ _ y => y)
  cases f with
  | next =>
    obtain ⟨σ1, H1, J1, y1⟩ := y
    exact wpAny_execs_nil ⟨σ1, H1, J1.ofTry good, y1⟩
  | brk =>
    obtain ⟨σ1, H1, J1, y1⟩ := y
    exact ⟨σ1, H1, J1.ofTry good, y1⟩
  | cont =>
    obtain ⟨σ1, H1, J1, y1⟩ := y
    exact ⟨σ1, H1, J1.ofTry good, y1⟩
  | ret u =>
    obtain ⟨v, σ1, H1, J1, r1, y1⟩ := y
    exact ⟨v, σ1, H1, J1.ofTry good, r1, y1⟩⟩
end
end Rz
namespace Rz
open PySem PySem.Spec PyProof.Rows L2
/-! ### len(set(xs)), xs a list of ints, some of them twice -/
/-- the ints, each once, in the order in which they come -/
def onceZ (ns : List Int) : List Int := firstMet (fun i => ns.getD i 0) ns.length
theorem ints_size {H : Hp} {s : Shared} {ns : List Int} {vs : List Value} (r : Vals (ns.map V.int) vs) : vs.toArray.size = ns.length := by
  rw [List.size_toArray]
  have := r.length
  rw [List.length_map] at this
  exact this.symm
section
variable {X : Cx} {g : G} {Wx : WX} {k : Nat} {pos p p2 q : Pos} {a : Expr} {x : XE} {r : XA} {ta : TE}
theorem pe_onceZ (calm : X.calm = true) (m1 : X.mg "len" = none) (m2 : X.mg "set" = none) (in1 : Gl X "len") (in2 : Gl X "set") (ha : PE X a ta) (one : starEach [a] X.env = (false, eval a X.env) :: starEach [] X.env) :
    PE X (.Call (.Name "len" p) [.Call (.Name "set" p2) [a] [] q] [] pos) fun σ H Q => ta σ H fun v H1 => ∃ (b : Addr) (ns : List Int), v = .ref b ∧ ns.length ≤ 4000 ∧ SqL X.K H1 b (ns.map V.int) ∧ Q (.int ((onceZ ns).length : Nat)) H1 := ⟨fun pins s σ H Q I h => by
  refine Call_ (ld_blt I in1 m1 boot_len (callWith_builtin1 (args_cons ?_ rfl) rfl rfl))
  refine Call_ (ld_blt I in2 m2 boot_set (callWith_type1 (args_cons (thn (ha.run pins s σ H _ I h) fun v t y => args_nil ?_) one) one rfl))
  obtain ⟨w, H1, J, rv, b, ns, ew, small, at1, fin⟩ := y
  subst ew
  cases rv
  obtain ⟨its, vals, plain, _⟩ := J.list at1
  have count := ints_size (H := H1) (s := t) vals
  refine call_set_list (J.ok.hd calm) plain.isList (by simpa using RZ.intsAre_vals vals) (by rw [count]; unfold scanBound; omega) fun g2 tk2 made kept => args_nil ?_
  rw [count] at made
  obtain ⟨ob, es, ep, tt, y1, y2, y3, _, _, _, y4, y5⟩ := made
  have le := firstMet_length_le (fun i => ns.getD i 0) ns.length
  have J2 : Inv X pins σ H1 { t with heap := g2, toks := tk2 } := J.kept fun c o e => kept c o (Heap.lt_size e) e
  exact call_len_set y1 y2 y3 y4 (by rw [y5]; omega) ⟨.int ((onceZ ns).length : Nat), H1, J2.tok _, ⟨_, by rw [y5]; rfl⟩, fin⟩⟩
def fOnce (ws : List Va) (S : Sto) : Rs Va := match ws with
  | [w] => match itL w S with
    | some us => match intsV us with
      | some ns => bif decide (ns.length ≤ 4000) then .ok (.int ((onceZ ns).length : Nat)) S else .bad
      | none => .bad
    | none => .bad
  | _ => .bad
theorem se_once (o : XO X g Wx k) (m1 : X.mg "len" = none) (m2 : X.mg "set" = none) (ha : SE X g Wx a x) (in1 : Gl X "len" := by rfl) (in2 : Gl X "set" := by rfl) (one : starEach [a] X.env = (false, eval a X.env) :: starEach [] X.env := by rfl) :
    SE X g Wx (.Call (.Name "len" p) [.Call (.Name "set" p2) [a] [] q] [] pos) (xcall fOnce (acons x anil)) := by
  refine pe_imp (pe_onceZ o.calm m1 m2 in1 in2 ha one) fun σ H Q ⟨δ, S, ρ, sm, se, h⟩ => ⟨δ, S, ρ, sm, se, ?_⟩
  unfold xcall acons at h
  cases e0 : x δ S with
  | bad => rw [e0] at h; exact h.elim
  | ex c fs S1 => rw [e0] at h; exact h
  | ok w S1 =>
    rw [e0] at h
    intro ρ1 H1 v e1 s1 r1
    have h1 : wpR g Wx σ (Rel g) ρ H (fOnce [w] S1) Q := h
    unfold fOnce at h1
    dsimp only at h1
    cases e : itL w S1 with
    | none => rw [e] at h1; exact h1.elim
    | some us =>
      rw [e] at h1
      dsimp only at h1
      cases e2 : intsV us with
      | none => rw [e2] at h1; exact h1.elim
      | some ns =>
        rw [e2] at h1
        dsimp only at h1
        by_cases z : decide (ns.length ≤ 4000) = true
        · rw [z] at h1
          obtain ⟨b, ts, rfl, sq, rl⟩ := itL_ok s1 r1 e
          rw [intsV_of e2] at rl
          rw [rel_ints rl, o.K] at sq
          exact ⟨b, ns, rfl, of_decide_eq_true z, sq, wpR.fin_at (a := Va.int ((onceZ ns).length : Nat)) h1 e1 s1 (.int _)⟩
        · rw [Bool.not_eq_true _ |>.mp z] at h1
          exact h1.elim
end
/-! what it is -/
theorem once_of (f : Nat → Int) : ∀ n, (firstMet f n).Nodup ∧ ∀ y, y ∈ firstMet f n ↔ ∃ i, i < n ∧ y = f i
  | 0 => ⟨List.nodup_nil, fun y => ⟨(fun h => nomatch h), fun ⟨i, h, _⟩ => absurd h (Nat.not_lt_zero i)⟩⟩
  | n + 1 => by
    obtain ⟨h1, h2⟩ := once_of f n
    have mem : ((firstMet f n).any (· == f n)) = decide (f n ∈ firstMet f n) := by
      rw [Bool.eq_iff_iff]
      simp
    rw [firstMet_succ]
    show (if (firstMet f n).any (· == f n) = true then firstMet f n else firstMet f n ++ [f n]).Nodup ∧ ∀ y, y ∈ (if (firstMet f n).any (· == f n) = true then firstMet f n else firstMet f n ++ [f n]) ↔ ∃ i, i < n + 1 ∧ y = f i
    rw [mem]
    by_cases c : f n ∈ firstMet f n
    · rw [decide_eq_true c, if_pos rfl]
      refine ⟨h1, fun y => ⟨fun h => let ⟨i, hi, e⟩ := (h2 y).mp h; ⟨i, by omega, e⟩, fun ⟨i, hi, e⟩ => ?_⟩⟩
      by_cases q : i = n
      · rw [e, q]; exact c
      · exact (h2 y).mpr ⟨i, by omega, e⟩
    · rw [decide_eq_false c, if_neg (by decide)]
      refine ⟨?_, fun y => ?_⟩
      · rw [List.nodup_append]
        exact ⟨h1, by simp, fun a ha b hb z => c (by rw [List.mem_singleton.mp hb] at z; rw [← z]; exact ha)⟩
      · rw [List.mem_append, h2, List.mem_singleton]
        exact ⟨fun z => z.elim (fun ⟨i, hi, e⟩ => ⟨i, by omega, e⟩) fun z => ⟨n, by omega, z⟩, fun ⟨i, hi, e⟩ => by
          by_cases q : i = n
          · exact .inr (by rw [e, q])
          · exact .inl ⟨i, by omega, e⟩⟩
theorem once_nd (ns : List Int) : (onceZ ns).Nodup ∧ ∀ y, y ∈ onceZ ns ↔ y ∈ ns := by
  obtain ⟨h1, h2⟩ := once_of (fun i => ns.getD i 0) ns.length
  refine ⟨h1, fun y => (h2 y).trans ⟨fun ⟨i, hi, e⟩ => ?_, fun h => ?_⟩⟩
  · rw [e]
    show ns.getD i 0 ∈ ns
    rw [List.getD_eq_getElem?_getD, List.getElem?_eq_getElem hi]
    exact List.getElem_mem hi
  · obtain ⟨i, hi, e⟩ := List.getElem_of_mem h
    refine ⟨i, hi, ?_⟩
    show y = ns.getD i 0
    rw [List.getD_eq_getElem?_getD, List.getElem?_eq_getElem hi]
    exact e.symm
end Rz
namespace Rz
open PySem PySem.Spec PyProof.Rows L2
/-! ### a part of a tuple, not all of it -/
def allOf (n : Nat) (lo hi : Option Int) : Bool := decide (HT.sIx n 0 lo = 0 ∧ HT.sIx n n hi = n)
def oCutT (w : Va) (lo hi : Option Int) (S : Sto) : Rs Va := match w with
  | .tup ws => bif allOf ws.length lo hi then .bad else ltup (cutA ws lo hi) S
  | _ => .bad
@[simp] def xsliceT (x : XE) (p q : XPt) : XE := fun δ S => (x δ S).bind fun w S1 => (p δ S1).bind fun lo S2 => (q δ S2).bind fun hi S3 => oCutT w lo hi S3
section
variable {X : Cx} {g : G} {Wx : WX} {k : Nat} {pos : Pos} {a : Expr} {x : XE}
theorem se_sliceT (o : XO X g Wx k) {lo hi : Option Expr} {p q : XPt} {p2 : Pos} (he : SE X g Wx a x) (hl : SO X g Wx lo p) (hu : SO X g Wx hi q) : SE X g Wx (.Subscript a (.Slice lo hi none p2) pos) (xsliceT x p q) :=
  pe_imp (pe_slice sl_tup he hl hu) fun σ H Q ⟨δ, S, ρ, sm, se, h⟩ => ⟨δ, S, ρ, sm, se, wpR.imp (wpR.bind (rel := Rel g) h) fun v H1 ⟨ρ1, w, S1, e1, s1, r1, h1⟩ =>
    ⟨δ, S1, ρ1, s1, se.mono e1, wpR.imp (wpR.bind (rel := relO) h1) fun lo H2 ⟨ρ2, lo', S2, e2, s2, r2, h2⟩ =>
    ⟨δ, S2, ρ2, s2, se.mono (e1.trans e2), wpR.imp (wpR.bind (rel := relO) h2) fun hi H3 ⟨ρ3, hi', S3, e3, s3, r3, h3⟩ => by
      cases r2
      cases r3
      have r4 := r1.mono (e2.trans e3)
      cases r4 with
      | @tup ws vs b sq rl =>
        have h4 : wpR g Wx σ (Rel g) ρ3 H3 (bif allOf ws.length lo hi then .bad else ltup (cutA ws lo hi) S3) Q := h3
        have hlen := rl.length
        by_cases z : allOf ws.length lo hi = true
        · rw [z] at h4
          exact h4.elim
        · rw [Bool.not_eq_true _ |>.mp z] at h4
          have e : RelL g ρ3 H3 (cutA ws lo hi) (cutV vs lo hi) := by
            unfold cutA cutV
            rw [← hlen]
            exact RelL.take _ (RelL.drop _ rl)
          refine ⟨b, vs, rfl, o.K ▸ sq, fun y => z ?_, (new_tup s3 e h4).2⟩
          unfold allOf
          rw [hlen]
          exact decide_eq_true y
      | _ => exact h3.elim⟩⟩⟩
end
end Rz
namespace Rz
open PySem PySem.Spec PyProof.Rows L2
/-! ### isinstance of a kept exception -/
/-- which class is below which -/
structure ExTb (K : PySem.W.Frag) (g : G) (tbl : Nat → Nat → Option Bool) : Prop where
  cl : ∀ c d b, tbl c d = some b → ExcC K (g.cls c) ∧ PySem.W.kitOne K (.ref (g.cls c)) (.ref (g.cls d)) = some b
def rIsX (K : PySem.W.Frag) : List V → Hp → VK → Prop := fun xs H Q => ∃ (a D : Addr) (c : V) (cv : Value) (b : Bool), xs = [.ref a, c] ∧ H a = some (exH (.ref D) a) ∧ ExcC K D ∧ (∀ u, RelV c u → u = cv) ∧ PySem.W.kitOne K (.ref D) cv = some b ∧ Q (.bl b) H
theorem call_isX {X : Cx} : CallR X (.builtin "isinstance") (rIsX X.K) := fun pins s σ H xs us Q I r h => by
  obtain ⟨a, D, c, cv, b, e0, at1, ex, only, kit, q⟩ := h
  subst e0
  match us, r with
  | [_, w], .cons r1 (.cons r2 .nil) =>
    cases r1
    have ew := only w r2
    subst ew
    obtain ⟨⟨ob, fs, y1, ⟨y2, y3⟩, y4⟩, _, _⟩ := I.hok a _ at1
    have inst : PySem.W.InstAt s.heap a ob D none := by
      cases ob with
      | mk oc od oda osl =>
        dsimp only at y2 y3 y4
        subst y2 y3 y4
        exact ⟨y1, rfl, rfl, trivial⟩
    exact PySem.W.kia_one (PySem.W.handS_kitx_exc ex.hg ex.hk ex.hs ex.hd ex.ha ex.hn ex.ht ex.hm) I.kIn inst kit (fun z => nomatch z) fun t => ⟨.bl b, H, I.kept (t' := t) fun _ _ z => z, rfl, q⟩
def fIsX (tbl : Nat → Nat → Option Bool) (ws : List Va) (S : Sto) : Rs Va := match ws with
  | [.loc l, .cl d] => match S[l]? with
    | some (.exo c []) => match tbl c d with
      | some b => .ok (.bl b) S
      | none => .bad
    | _ => .bad
  | _ => .bad
theorem cs_isX {g : G} {tbl : Nat → Nat → Option Bool} (h0 : ExTb g.K g tbl) : CalS g (rIsX g.K) (fIsX tbl) := fun Wx σ ρ S H ws vs Q sm rl h => by
  unfold fIsX at h
  split at h
  · rename_i l d
    split at h
    · rename_i c e
      cases e2 : tbl c d with
      | none => rw [e2] at h; exact h.elim
      | some b =>
        rw [e2] at h
        obtain ⟨x1, x2⟩ := h0.cl c d b e2
        cases rl with
        | cons ra rn =>
          cases rn with
          | cons rb rn =>
            cases rn
            cases rb
            cases ra with
            | @loc _ p hp =>
              obtain ⟨_, at1⟩ := sm.ats l _ p e hp
              exact ⟨p, g.cls c, _, _, b, rfl, at1, x1, (fun u y => y), x2, h.fin sm (.bl b)⟩
    · exact h.elim
  · exact h.elim
section
variable {X : Cx} {g : G} {Wx : WX} {k : Nat} {pos : Pos} {a b c : Expr} {r : XA}
theorem se_isX (o : XO X g Wx k) {tbl : Nat → Nat → Option Bool} {p : Pos} (T : ExTb X.K g tbl) (hm : X.mg "isinstance" = none) (ha : SA X g Wx [a, b] r) (hg : Gl X "isinstance" := by rfl) (he : starEach [a, b] X.env = (false, eval a X.env) :: starEach [b] X.env := by rfl) (hpl : (backTo pos (starEach [b] X.env)).any (·.1) = false := by rfl) :
    SE X g Wx (.Call (.Name "isinstance" p) [a, b] [] pos) (xcall (fIsX tbl) r) := se_callB call_isX (o.K ▸ cs_isX (o.K ▸ T)) hm ha hg (he := he) (hpl := hpl)
end
/-! ### try: .. except C as e: k = e -/
def stry (exm : Nat → Bool) (k i : Nat) (body : XS) : XS := fun δ S => match body δ S with
  | .ex c [] δ' S' => if exm c = true ∧ i < δ'.length then .nx (((δ'.set i (some (.loc S'.length))).set k (some (.loc S'.length))).set i none) (S' ++ [.exo c []]) else .bad
  | .ex _ (_ :: _) _ _ => .bad
  | o => o
section
variable {X : Cx} {g : G} {Wx : WX} {kk : Nat} {B : List Stmt} {x n m : Str} {i k c0 : Nat} {p1 p2 p3 p4 p5 p6 : Pos} {body : XS} {exm : Nat → Bool}
theorem ss_try (o : XO X g Wx kk) (hc : Names X x (.ref (g.cls c0))) (ex : ∀ c, exm c = true → PySem.W.exmOne X.K (.ref (g.cls c)) (.ref (g.cls c0)) = some true)
    (inB : ∀ (W : WX) (pn : List (Addr × Obj)) (xe : Value → Shared → Prop), XO (X.tr pn xe) g W kk → SB (X.tr pn xe) g W B body) (hik : i ≠ k := by decide)
    (hs : X.stack = X.env :: X.outer := by rfl) (hf : X.env.frame = some X.env.locals := by rfl) (hx : X.ex = [] := by rfl) (hi : X.N[i]? = some n := by rfl) (hk : X.N[k]? = some m := by rfl) (hl : X.env.kindOf n = some .local := by rfl) (hlk : Loc X.env.scope m := by first | exact Or.inl rfl | exact Or.inr rfl)
    (hfk : X.fn m = true ∨ X.env.scope.names.lookup m = some .local := by first | exact .inl rfl | exact .inr rfl) (vs : Vis X.env.scope n := by first | exact Or.inl rfl | exact Or.inr (Or.inl rfl) | exact Or.inr (Or.inr rfl)) (d1 : (n == ("__debug__" : Str)) = false := by decide) (d2 : (n == ("__classdict__" : Str)) = false := by decide)
    (sw : swapsWith (.Name n p5) (some (.Name m p4)) p6.line X.env = pure false := by rfl) :
    SS X g Wx (.Try B [.ExceptHandler (some (.Name x p1)) (some n) [.Assign [.Name m p4] (.Name n p5) p6] p2] [] [] p3) (stry exm k i body) := by
  refine ps_imp (ps_keep (i := i) hs hf hx o.nd hi hl hc (tb := fun W => tS g W body) (ts := fun _ => _) (fun W pn xe tk po => inB W pn xe ⟨o.K, o.nd, o.calm, o.room, o.grd, tk, po, o.gP, o.gw⟩)
    fun z pn => pss_one (ps_asg (X := X.suite z pn) (pe_var hi vs d1 d2) (pg_name (i := k) o.nd hk hlk hfk) (by first | exact sw | rfl))) fun D σ H ⟨δ, S, ρ, sm, se, h⟩ => ⟨δ, S, ρ, sm, se, ?_⟩
  unfold stry at h
  cases e : body δ S with
  | nx δ' S' => rw [e] at h; exact h
  | rt w S' => rw [e] at h; exact h
  | bk δ' S' => rw [e] at h; exact h
  | ct δ' S' => rw [e] at h; exact h
  | bad => rw [e] at h; exact h
  | ex c fs δ' S' =>
    rw [e] at h
    cases fs with
    | cons f fs => exact h.elim
    | nil =>
      dsimp only at h
      by_cases q : exm c = true ∧ i < δ'.length
      · rw [if_pos q] at h
        intro ρ1 H1 σ1 d e1 s1 se1 xd
        have dn : d = none := by
          rcases xd with ⟨_, y⟩ | ⟨_, _, y, _⟩
          · exact y
          · exact absurd rfl y
        refine ⟨ex c q.1, dn, fun z hz => ?_⟩
        have il : i < σ1.length := by rw [← se1.1]; exact q.2
        refine ⟨.ref z, List.getElem?_set_self il, fun _ => ?_⟩
        obtain ⟨s2, e2⟩ := s1.laid (o := .exo c []) (u := exH (.ref (g.cls c)) z) hz (fun ρ' H' _ y => ⟨rfl, y⟩) rfl
        have rz : Rel g (ρ1 ++ [z]) (upd H1 z (exH (.ref (g.cls c)) z)) (.loc S'.length) (.ref z) := .loc (by rw [s1.len]; simp)
        exact h _ _ _ (e1.trans e2) s2 ((((se1.mono e2).put rz).put rz).drop)
      · rw [if_neg q] at h
        exact h.elim
end
end Rz
namespace Rz
open PySem PySem.Spec PyProof.Rows L2
/-! ### xs.count(b), xs.index(b), bools -/
theorem reads_bools {h : Heap} : ∀ {bs : List Bool} {its : List Value}, Vals (bs.map V.bl) its → ∃ as, ReadsAll h its (bs.map PyData.bool) as
  | [], _, r => by
    cases r
    exact ⟨_, .nil⟩
  | b :: bs, _, r => by
    cases r with
    | cons a q =>
      cases a
      obtain ⟨as, h2⟩ := reads_bools q
      exact ⟨_, .cons (.bool _) h2⟩
theorem count_bools (k : Bool) : ∀ bs : List Bool, countIn (.bool k) (bs.map PyData.bool) = ((bs.count k : Nat) : Int)
  | [] => rfl
  | b :: bs => by
    have ih := count_bools k bs
    rw [List.map_cons, List.count_cons, PySem.Spec.countIn.eq_2, ih]
    have e : (if same (PyData.bool b) (PyData.bool k) = true then (1 : Int) else 0) = if (b == k) = true then 1 else 0 := by cases b <;> cases k <;> rfl
    rw [e]
    by_cases c : (b == k) = true
    · rw [if_pos c, if_pos c]; omega
    · rw [if_neg c, if_neg c]; omega
def rCntB (K : PySem.W.Frag) : V → List V → Hp → VK → Prop := fun x xs H Q => ∃ (p : Addr) (bs : List Bool) (k : Bool), x = .ref p ∧ xs = [.bl k] ∧ SqL K H p (bs.map V.bl) ∧ Q (.int (bs.count k : Nat)) H
theorem mt_cntB {X : Cx} : MtR X "list.count" (rCntB X.K) := fun pins s σ H x xs v us Q I rx rxs h => by
  obtain ⟨p, bs, k, e1, e2, at1, q⟩ := h
  subst e1 e2
  cases rx
  obtain ⟨u, eu, ru⟩ := rxs.one
  subst eu
  cases ru
  obtain ⟨its, vals, plain, _⟩ := I.list at1
  obtain ⟨as, rd⟩ := reads_bools (h := s.heap) vals
  refine count_list_bools plain.isList rd (by rw [List.all_eq_true]; intro y hy; obtain ⟨b, _, rfl⟩ := List.mem_map.mp hy; rfl) ?_
  rw [count_bools]
  exact ⟨.int (bs.count k : Nat), H, I.tok _, ⟨_, rfl⟩, q⟩
section
variable {g : G}
def oCnt (w : Va) (ws : List Va) (S : Sto) : Rs Va := match w, ws with
  | .loc l, [.bl k] => match getL S l with
    | some us => match bools us with
      | some bs => .ok (.int (bs.count k : Nat)) S
      | none => .bad
    | none => .bad
  | _, _ => .bad
def oIdx (w : Va) (ws : List Va) (S : Sto) : Rs Va := match w, ws with
  | .loc l, [.bl k] => match getL S l with
    | some us => match bools us with
      | some bs => if k ∈ bs then .ok (.int (bs.idxOf k : Nat)) S else .bad
      | none => .bad
    | none => .bad
  | _, _ => .bad
theorem bools_eq : ∀ {us : List Va} {bs : List Bool}, bools us = some bs → us = bs.map .bl
  | [], bs, h => by cases h; rfl
  | .bl b :: us, bs, h => by
    unfold bools at h
    cases e : bools us with
    | none => rw [e] at h; cases h
    | some cs => rw [e] at h; cases h; rw [bools_eq e]; rfl
  | .non :: _, _, h => by cases h
  | .int _ :: _, _, h => by cases h
  | .str _ :: _, _, h => by cases h
  | .ty _ :: _, _, h => by cases h
  | .tup _ :: _, _, h => by cases h
  | .loc _ :: _, _, h => by cases h
  | .cl _ :: _, _, h => by cases h
theorem rel_bools {ρ : List Addr} {H : Hp} : ∀ {bs : List Bool} {vs : List V}, RelL g ρ H (bs.map .bl) vs → vs = bs.map .bl
  | [], _, r => by cases r; rfl
  | b :: bs, _, r => by
    cases r with
    | cons a q =>
      cases a
      rw [rel_bools q]
      rfl
theorem ms_cnt : MetS g (rCntB g.K) oCnt := fun Wx σ ρ S H w v ws vs Q sm r rl h => by
  unfold oCnt at h
  split at h
  · rename_i l k
    cases e : getL S l with
    | none => rw [e] at h; exact h.elim
    | some us =>
      rw [e] at h
      dsimp only at h
      cases e2 : bools us with
      | none => rw [e2] at h; exact h.elim
      | some bs =>
        rw [e2] at h
        cases rl with
        | cons ra rn =>
          cases rn
          cases ra
          cases r with
          | @loc _ p hp =>
            obtain ⟨ts, sq, z⟩ := getL_at sm e hp
            rw [bools_eq e2] at z
            rw [rel_bools z] at sq
            exact ⟨p, bs, k, rfl, rfl, sq, h.fin sm (.int _)⟩
  · exact h.elim
theorem ms_idx : MetS g (rIndex g.K) oIdx := fun Wx σ ρ S H w v ws vs Q sm r rl h => by
  unfold oIdx at h
  split at h
  · rename_i l k
    cases e : getL S l with
    | none => rw [e] at h; exact h.elim
    | some us =>
      rw [e] at h
      dsimp only at h
      cases e2 : bools us with
      | none => rw [e2] at h; exact h.elim
      | some bs =>
        rw [e2] at h
        dsimp only at h
        by_cases km : k ∈ bs
        · rw [if_pos km] at h
          cases rl with
          | cons ra rn =>
            cases rn
            cases ra
            cases r with
            | @loc _ p hp =>
              obtain ⟨ts, sq, z⟩ := getL_at sm e hp
              rw [bools_eq e2] at z
              rw [rel_bools z] at sq
              have il := List.idxOf_lt_length_of_mem km
              refine ⟨p, bs.map V.bl, .bl k, bs.idxOf k, .bl k, rfl, rfl, sq, rfl, List.all_eq_true.mpr fun y hy => ?_, ?_, ?_, fun m z' hm hz => ?_, h.fin sm (.int _)⟩
              · obtain ⟨b, _, rfl⟩ := List.mem_map.mp hy
                rfl
              · rw [List.getElem?_map, List.getElem?_eq_getElem il, List.getElem_idxOf il]
                rfl
              · cases k <;> rfl
              · rw [List.getElem?_map] at hz
                obtain ⟨b, hb, rfl⟩ := Option.map_eq_some_iff.mp hz
                obtain ⟨ml, eb⟩ := List.getElem?_eq_some_iff.mp hb
                have ne := List.not_of_lt_findIdx (p := (· == k)) hm
                have ne2 : b ≠ k := fun y => by
                  rw [← eb] at y
                  simp [y] at ne
                cases b <;> cases k <;> first | rfl | exact absurd rfl ne2
        · rw [if_neg km] at h
          exact h.elim
  · exact h.elim
end
section
variable {X : Cx} {g : G} {Wx : WX} {k : Nat} {pos : Pos} {a b : Expr} {x : XE} {r : XA}
theorem se_cnt (o : XO X g Wx k) {ap : Pos} (ha : SE X g Wx a x) (hr : SA X g Wx [b] r) (hbase : attributeBase a "count" X.env (eval a X.env) = eval a X.env := by rfl)
    (hfew : ((backTo pos (starEach [b] X.env)).all (fun x => !x.1) && (backToKw pos (keywordEach [] X.env)).all (fun x => x.1.isSome) && decide ([b].length + ([] : List Keyword).length + (if ([] : List Keyword).isEmpty then 0 else 1) < 30)) = true := by rfl)
    (hline : (ap.endLine == pos.line) = true := by rfl) (hs : starEach [b] X.env = (false, eval b X.env) :: starEach [] X.env := by rfl) : SE X g Wx (.Call (.Attribute a "count" ap) [b] [] pos) (xmetL oCnt x r) :=
  pe_imp (pe_bm PySem.F.plainAttrs_list PySem.F.slot_list_count PySem.F.type_list_count mt_cntB ha hr hbase hfew hline hs) (by have e := o.K; have q := metL_in (Wx := Wx) (x := x) (r := r) (ms_cnt (g := g)); rw [e] at q; exact q)
theorem se_idx (o : XO X g Wx k) {ap : Pos} (ha : SE X g Wx a x) (hr : SA X g Wx [b] r) (hbase : attributeBase a "index" X.env (eval a X.env) = eval a X.env := by rfl)
    (hfew : ((backTo pos (starEach [b] X.env)).all (fun x => !x.1) && (backToKw pos (keywordEach [] X.env)).all (fun x => x.1.isSome) && decide ([b].length + ([] : List Keyword).length + (if ([] : List Keyword).isEmpty then 0 else 1) < 30)) = true := by rfl)
    (hline : (ap.endLine == pos.line) = true := by rfl) (hs : starEach [b] X.env = (false, eval b X.env) :: starEach [] X.env := by rfl) : SE X g Wx (.Call (.Attribute a "index" ap) [b] [] pos) (xmetL oIdx x r) :=
  pe_imp (pe_bm PySem.F.plainAttrs_list PySem.F.slot_list_index PySem.F.type_list_index mt_index ha hr hbase hfew hline hs) (by have e := o.K; have q := metL_in (Wx := Wx) (x := x) (r := r) (ms_idx (g := g)); rw [e] at q; exact q)
end
end Rz
namespace Rz
open PySem PySem.Spec PyProof.Rows L2
/-! ### repr of data with empty dicts in it -/
def SMod (base : Heap) : Prop := ∃ o, base.get? sysModules = some o
theorem sm_of {base : Heap} (h : ∃ mm, base.Ns sysModules mm) : SMod base := let ⟨_, o, _, _, e, _⟩ := h; ⟨o, e⟩
mutual
/-- data, empty dicts too -/
inductive Dx (K : PySem.W.Frag) (H : Hp) : V → PyData → Prop
  | non : Dx K H .non .none
  | bl (b : Bool) : Dx K H (.bl b) (.bool b)
  | int (i : Int) : Dx K H (.int i) (.int i)
  | str (y : Str) : Dx K H (.str y) (.str y)
  | lst {p : Addr} {vs : List V} {es : List PyData} (at1 : H p = some (.lst vs)) (all : DxAll K H vs es) : Dx K H (.ref p) (.list es)
  | tup {p : Addr} {vs : List V} {es : List PyData} (at1 : SqT K H p vs) (all : DxAll K H vs es) : Dx K H (.ref p) (.tuple es)
  | dk {p : Addr} (at1 : H p = some (.dK [])) : Dx K H (.ref p) (.dict [])
inductive DxAll (K : PySem.W.Frag) (H : Hp) : List V → List PyData → Prop
  | nil : DxAll K H [] []
  | cons {v : V} {vs : List V} {e : PyData} {es : List PyData} (one : Dx K H v e) (rest : DxAll K H vs es) : DxAll K H (v :: vs) (e :: es)
end
section
variable {X : Cx} {pins : List (Addr × Obj)} {σ : L2.St} {H : Hp} {s : Shared}
theorem not_mod (I : Inv X pins σ H s) (M : SMod X.base) {p : Addr} (e : H p ≠ none) : sysModules ≠ p := fun z => by
  obtain ⟨o, h1⟩ := M
  exact e (z ▸ (I.bs _ _ h1).2)
mutual
theorem Dx.reads (I : Inv X pins σ H s) (M : SMod X.base) : ∀ (e : PyData) (v : V) (u : Value), Dx X.K H v e → RelV v u → ∃ as, Reads s.heap u e as ∧ sysModules ∉ as
  | .none, _, _, h, r => by cases h; cases r; exact ⟨_, .none, by simp⟩
  | .bool b, _, _, h, r => by cases h; cases r; exact ⟨_, .bool b, by simp⟩
  | .int i, _, _, h, r => by cases h; obtain ⟨t, rfl⟩ := r; exact ⟨_, .int i t, by simp⟩
  | .str y, _, _, h, r => by cases h; obtain ⟨t, rfl⟩ := r; exact ⟨_, .str y t, by simp⟩
  | .list es, _, _, h, r => by
    cases h with
    | lst at1 all =>
      cases r
      obtain ⟨its, vals, ⟨o, n, y1, y2, _, y3⟩, _⟩ := I.list (.of at1)
      obtain ⟨as, q1, q2⟩ := DxAll.reads I M es _ its all vals
      exact ⟨_, .list y1 y2 y3 q1, fun m => by
        rcases List.mem_cons.mp m with z | z
        · exact not_mod I M (by rw [at1]; simp) z
        · exact q2 z⟩
  | .tuple es, _, _, h, r => by
    cases h with
    | tup at1 all =>
      cases r
      obtain ⟨its, vals, ⟨o, y1, y2, n, y3⟩, _⟩ := I.tuple at1
      obtain ⟨as, q1, q2⟩ := DxAll.reads I M es _ its all vals
      exact ⟨_, .tuple y1 y2 y3 q1, q2⟩
  | .dict kvs, _, _, h, r => by
    cases h with
    | dk at1 =>
      cases r
      obtain ⟨_, y0, vs, kv, o, es, ep, y1, y2, y3, _, y4, _⟩ := dk_rd I.hok (.inl at1)
      cases kv
      have e0 : es.toList = [] := by
        cases q : es.toList with
        | nil => rfl
        | cons a l => rw [q] at y4; cases y4
      exact ⟨_, .dict (as := []) (bs := []) y1 y2.1 y3 (by rw [e0]; exact .nil) (by rw [e0]; exact .nil), fun m => by
        have e9 := List.mem_singleton.mp (show sysModules ∈ [_] from m)
        rw [← e9] at y0
        simp at y0⟩
theorem DxAll.reads (I : Inv X pins σ H s) (M : SMod X.base) : ∀ (es : List PyData) (vs : List V) (us : List Value), DxAll X.K H vs es → Vals vs us → ∃ as, ReadsAll s.heap us es as ∧ sysModules ∉ as
  | [], _, _, h, r => by cases h; cases r; exact ⟨_, .nil, by simp⟩
  | e :: es, _, _, h, r => by
    cases h with
    | cons h1 h2 =>
      cases r with
      | cons r1 r2 =>
        obtain ⟨as, q1, z1⟩ := Dx.reads I M e _ _ h1 r1
        obtain ⟨bs, q2, z2⟩ := DxAll.reads I M es _ _ h2 r2
        exact ⟨_, .cons q1 q2, fun m => (List.mem_append.mp m).elim z1 z2⟩
end
end
def rReprX (K : PySem.W.Frag) : List V → Hp → VK → Prop := fun xs H Q => ∃ v e, xs = [v] ∧ Dx K H v e ∧ e.showable = true ∧ e.depth ≤ 100 ∧ e.shown.length ≤ sizeLine ∧ Q (.str e.shown) H
section
variable {X : Cx} {g : G} {Wx : WX} {k : Nat} {pos : Pos} {a : Expr} {r : XA}
theorem call_reprX (o : XO X g Wx k) (M : SMod X.base) : CallR X (.builtin "repr") (rReprX X.K) := fun pins s σ H xs us Q I rv h => by
  obtain ⟨v, e, e0, dx, h1, h2, h3, q⟩ := h
  subst e0
  obtain ⟨u, rfl, ru⟩ := vals1 rv
  obtain ⟨as, rd, nm⟩ := Dx.reads I M e v u dx ru
  have un := o.room.un
  have far : ∀ p : Addr, u = .ref p → wpAny (model X.prog X.w) X.A (PySem.call (.builtin "repr") [u]) (EP X pins σ Q) X.xe s := fun p y => by
    subst y
    exact repr_of_reads' rd h1 (fun _ => nm) o.grd (by omega) (fun _ _ y => y) (fun g2 w2 t2 kept => ⟨.str e.shown, H, I.kept (t' := t2) kept, ⟨_, rfl⟩, q⟩) h3
  cases dx with
  | non => cases ru; exact PySem.P.repr_of_none ⟨.str _, H, I.tok _, ⟨_, rfl⟩, q⟩
  | bl b => cases ru; exact PySem.P.repr_of_bool ⟨.str _, H, I.tok _, ⟨_, rfl⟩, by cases b <;> exact q⟩
  | int i => obtain ⟨t, rfl⟩ := ru; exact PySem.P.repr_of_int (by simpa [PyData.showable] using h1) ⟨.str _, H, I.tok _, ⟨_, rfl⟩, q⟩
  | str y => obtain ⟨t, rfl⟩ := ru; exact PySem.P.repr_of_str ⟨.str _, H, I.tok _, ⟨_, rfl⟩, q⟩ h3
  | lst _ _ => exact far _ ru
  | tup _ _ => exact far _ ru
  | dk _ => exact far _ ru
def toX (S : Sto) : Nat → Va → Option PyData
  | 0, _ => none
  | n + 1, w => match w with
    | .non => some .none
    | .bl b => some (.bool b)
    | .int i => some (.int i)
    | .str y => some (.str y)
    | .tup ws => (allD (toX S n) ws).map .tuple
    | .loc l => match S[l]? with
      | some (.lst ws) => (allD (toX S n) ws).map .list
      | some (.dci []) => some (.dict [])
      | _ => none
    | _ => none
theorem allX_ok {ρ : List Addr} {H : Hp} {f : Va → Option PyData} (hf : ∀ w v d, f w = some d → Rel g ρ H w v → Dx g.K H v d) : ∀ {ws : List Va} {vs : List V} {ds : List PyData}, allD f ws = some ds → RelL g ρ H ws vs → DxAll g.K H vs ds
  | [], _, _, h, r => by
    cases h
    cases r
    exact .nil
  | w :: ws, _, ds, h, r => by
    cases r with
    | cons ra rb =>
      have h' : (match f w, allD f ws with | some d, some ds => some (d :: ds) | _, _ => none) = some ds := h
      cases e1 : f w with
      | none => rw [e1] at h'; cases h'
      | some d =>
        cases e2 : allD f ws with
        | none => rw [e1, e2] at h'; cases h'
        | some es =>
          rw [e1, e2] at h'
          cases h'
          exact .cons (hf _ _ _ e1 ra) (allX_ok hf e2 rb)
theorem toX_ok {ρ : List Addr} {S : Sto} {H : Hp} (sm : Sim g ρ S H) : ∀ (n : Nat) (w : Va) (v : V) (d : PyData), toX S n w = some d → Rel g ρ H w v → Dx g.K H v d
  | 0, _, _, _, h, _ => nomatch h
  | n + 1, w, v, d, h, r => by
    cases r with
    | non => cases h; exact .non
    | bl b => cases h; exact .bl b
    | int i => cases h; exact .int i
    | str y => cases h; exact .str y
    | ty m => cases h
    | cl m => cases h
    | @tup ws vs p sq rl =>
      obtain ⟨es, e, rfl⟩ := Option.map_eq_some_iff.mp (show (allD (toX S n) ws).map PyData.tuple = some d from h)
      exact .tup sq (allX_ok (toX_ok sm n) e rl)
    | @loc l p hp =>
      have h' : (match S[l]? with | some (.lst ws) => (allD (toX S n) ws).map PyData.list | some (.dci []) => some (.dict []) | _ => none) = some d := h
      split at h'
      · rename_i ws e0
        obtain ⟨es, e, rfl⟩ := Option.map_eq_some_iff.mp h'
        obtain ⟨vs, at1, rl⟩ := sm.ats l _ p e0 hp
        exact .lst at1 (allX_ok (toX_ok sm n) e rl)
      · rename_i e0
        cases h'
        obtain ⟨L, at1, e2, _⟩ := sm.ats l _ p e0 hp
        have : L = [] := List.map_eq_nil_iff.mp e2
        subst this
        exact .dk at1
      · cases h'
def fReprX (ws : List Va) (S : Sto) : Rs Va := match ws with
  | [w] => match toX S 64 w with
    | some d => bif d.showable && decide (d.depth ≤ 100) && decide (d.shown.length ≤ sizeLine) then .ok (.str d.shown) S else .bad
    | none => .bad
  | _ => .bad
theorem cs_reprX : CalS g (rReprX g.K) fReprX := fun Wx σ ρ S H ws vs Q sm rl h => by
  unfold fReprX at h
  split at h
  · rename_i w
    cases rl with
    | cons ra rn =>
      cases rn
      cases e : toX S 64 w with
      | none => rw [e] at h; exact h.elim
      | some d =>
        rw [e] at h
        dsimp only at h
        by_cases z : (d.showable && decide (d.depth ≤ 100) && decide (d.shown.length ≤ sizeLine)) = true
        · rw [z] at h
          rw [Bool.and_eq_true, Bool.and_eq_true, decide_eq_true_eq, decide_eq_true_eq] at z
          exact ⟨_, d, rfl, toX_ok sm 64 w _ d e ra, z.1.1, z.1.2, z.2, wpR.fin (a := Va.str d.shown) h sm (.str _)⟩
        · rw [Bool.not_eq_true _ |>.mp z] at h
          exact h.elim
  · exact h.elim
theorem se_reprX (o : XO X g Wx k) (M : SMod X.base) {p : Pos} (hm : X.mg "repr" = none) (ha : SA X g Wx [a] r) (hg : Gl X "repr" := by rfl) (he : starEach [a] X.env = (false, eval a X.env) :: starEach [] X.env := by rfl) : SE X g Wx (.Call (.Name "repr" p) [a] [] pos) (xcall fReprX r) :=
  se_callB (call_reprX o M) (o.K ▸ cs_reprX) hm ha hg (he := he)
end
/-! how long such a repr is -/
mutual
def szX : PyData → Nat
  | .none => 4
  | .bool _ => 5
  | .int _ => 250
  | .str x => 10 * x.length + 2
  | .list xs => szXL xs + 3
  | .tuple xs => szXL xs + 3
  | .dict _ => 2
def szXL : List PyData → Nat
  | [] => 0
  | x :: xs => szX x + 2 + szXL xs
end
mutual
def okX : PyData → Bool
  | .none => true
  | .bool _ => true
  | .int i => decide (i.natAbs.log2 < 200)
  | .str x => x.cps.toList.all fun c => decide (c < 16 ^ 8)
  | .list xs => okXL xs
  | .tuple xs => okXL xs
  | .dict kvs => kvs.isEmpty
def okXL : List PyData → Bool
  | [] => true
  | x :: xs => okX x && okXL xs
end
mutual
theorem shownX_le : ∀ d : PyData, okX d = true → d.shown.length ≤ szX d ∧ d.showable = true
  | .none, _ => ⟨by decide, by simp [PyData.showable]⟩
  | .bool b, _ => ⟨by cases b <;> decide, by simp [PyData.showable]⟩
  | .int i, h => by
    have h' : i.natAbs.log2 < 200 := by simpa [okX] using h
    refine ⟨?_, by simp [PyData.showable]; omega⟩
    have := PySem.int_text_length_le (a := i) (by decide : 0 < 200) h'
    simp only [PyData.shown, szX]
    have e : (Str.ofString (toString i)).length ≤ 201 := by rw [PySem.ofString_length]; exact this
    show (Str.ofString (toString i)).length ≤ 250
    omega
  | .str x, h => by
    have h' : ∀ c ∈ x.cps.toList, c < 16 ^ 8 := fun c hc => by
      have q : (x.cps.toList.all fun c => decide (c < 16 ^ 8)) = true := by simpa only [okX] using h
      exact of_decide_eq_true (List.all_eq_true.mp q c hc)
    refine ⟨?_, by simp [PyData.showable]⟩
    have := StrLaws.reprText_len x h'
    simp only [PyData.shown, szX]
    omega
  | .list xs, h => by
    have h' : okXL xs = true := by simpa [okX] using h
    obtain ⟨h1, h2⟩ := shownXL_le xs h'
    refine ⟨?_, by simpa [PyData.showable] using h2⟩
    have := listText_le (PyData.shownAll xs)
    simp only [PyData.shown, szX]
    omega
  | .tuple xs, h => by
    have h' : okXL xs = true := by simpa [okX] using h
    obtain ⟨h1, h2⟩ := shownXL_le xs h'
    refine ⟨?_, by simpa [PyData.showable] using h2⟩
    have := tupleText_le (PyData.shownAll xs)
    simp only [PyData.shown, szX]
    omega
  | .dict [], _ => ⟨by simp only [PyData.shown, PyData.shownKv, szX]; decide, by simp [PyData.showable, PyData.showableKv]⟩
  | .dict (_ :: _), h => by simp [okX] at h
theorem shownXL_le : ∀ ds : List PyData, okXL ds = true → piled (PyData.shownAll ds) ≤ szXL ds ∧ PyData.showableAll ds = true
  | [], _ => ⟨by simp [PyData.shownAll, piled, szXL], by simp [PyData.showableAll]⟩
  | d :: ds, h => by
    have h' : okX d = true ∧ okXL ds = true := by simpa [okXL] using h
    obtain ⟨a1, a2⟩ := shownX_le d h'.1
    obtain ⟨b1, b2⟩ := shownXL_le ds h'.2
    refine ⟨?_, by simp [PyData.showableAll, a2, b2]⟩
    have p : piled (PyData.shownAll (d :: ds)) = d.shown.length + 2 + piled (PyData.shownAll ds) := by simp [PyData.shownAll, piled]
    simp only [szXL]
    omega
end
theorem fReprX_eq {w : Va} {S : Sto} {d : PyData} (h : toX S 64 w = some d) (h1 : okX d = true) (h2 : szX d ≤ 16777216) (h3 : d.depth ≤ 100) : fReprX [w] S = .ok (.str d.shown) S := by
  obtain ⟨a1, a2⟩ := shownX_le d h1
  have hz : sizeLine = 16777216 := sizeLine_eq
  unfold fReprX
  dsimp only
  rw [h]
  dsimp only
  rw [a2]
  have e : (true && decide (d.depth ≤ 100) && decide (d.shown.length ≤ sizeLine)) = true := by simp; omega
  rw [e]
  rfl
/-! facts of classes of errors -/
theorem kit_sub {K : PySem.W.Frag} {D C : Addr} {b : Bool} (hc : PySem.W.isClsIn K C = true) (ht : PySem.W.typeIn K (.ref C) = some (.type "type")) (h : PySem.W.subIn K (.ref D) (.ref C) = some b) (ne : (Value.ref D == Value.ref C) = false) : PySem.W.kitOne K (.ref D) (.ref C) = some b := by
  have hc' : (PySem.W.clsIn K C).isSome = true := hc
  unfold PySem.W.kitOne PySem.W.kitCls
  rw [ne]
  simp [hc', ht, h]
theorem ne_sub {K : PySem.W.Frag} {D C : Addr} (h : PySem.W.subIn K (.ref D) (.ref C) = some false) (h2 : PySem.W.subIn K (.ref C) (.ref C) = some true) : (Value.ref D == Value.ref C) = false := by
  cases e : (Value.ref D == Value.ref C) with
  | false => rfl
  | true =>
    have : D = C := Value.ref.inj (beq_iff_eq.mp e)
    rw [this, h2] at h
    cases h
/-- raised classes R, asked classes A, none below another -/
def subTb (R A : List Nat) (c d : Nat) : Option Bool := if c ∈ R ∧ d ∈ A then some (decide (c = d)) else none
def exmTb (R : List Nat) (c : Nat) : Bool := decide (c ∈ R)
theorem tb_mk {K : PySem.W.Frag} {g : G} {R A : List Nat} (hR : ∀ c ∈ R, ExcC K (g.cls c)) (hq : ∀ c ∈ R, ∀ d ∈ A, c ≠ d → PySem.W.kitOne K (.ref (g.cls c)) (.ref (g.cls d)) = some false) : ExTb K g (subTb R A) := ⟨fun c d b h => by
  unfold subTb at h
  by_cases q : c ∈ R ∧ d ∈ A
  · rw [if_pos q] at h
    cases h
    refine ⟨hR c q.1, ?_⟩
    by_cases e : c = d
    · rw [decide_eq_true e, e]
      exact kit_me
    · rw [decide_eq_false e]
      exact hq c q.1 d q.2 e
  · rw [if_neg q] at h
    cases h⟩
end Rz
namespace Rz
open PySem PySem.Spec PyProof.Rows L2 PySem.W
/-! ### a dict that is locked while an expression or a statement runs -/
section
variable {g : G} {ρ ρ' : List Addr} {H H' : Hp}
theorem Rel.tup' (t : ∀ a vs, SqT g.K H a vs → SqT g.K H' a vs) {w : Va} {v : V} (h : Rel g ρ H w v) : Rel g ρ H' w v :=
  Rel.rec (motive_1 := fun w v _ => Rel g ρ H' w v) (motive_2 := fun ws vs _ => RelL g ρ H' ws vs) .non (fun b => .bl b) (fun i => .int i) (fun x => .str x) (fun n => .ty n)
    (fun s _ ih => .tup (t _ _ s) ih) (fun s => .loc s) (fun c => .cl c) .nil (fun _ _ a b => .cons a b) h
theorem RelL.tup' (t : ∀ a vs, SqT g.K H a vs → SqT g.K H' a vs) : ∀ {ws : List Va} {vs : List V}, RelL g ρ H ws vs → RelL g ρ H' ws vs
  | _, _, .nil => .nil
  | _, _, .cons a b => .cons (a.tup' t) (RelL.tup' t b)
theorem SimE.tup' (t : ∀ a vs, SqT g.K H a vs → SqT g.K H' a vs) {δ : Env} {σ : L2.St} (h : SimE g ρ H δ σ) : SimE g ρ H' δ σ := ⟨h.1, fun i w q => let ⟨v, h1, h2⟩ := h.2 i w q; ⟨v, h1, h2.tup' t⟩⟩
theorem At.tup' {a : Addr} (t : ∀ a vs, SqT g.K H a vs → SqT g.K H' a vs) (k : ∀ u, H a = some u → H' a = some u) {o : Ob} (h : At g ρ H a o) : At g ρ H' a o := by
  cases o with
  | lst ws => obtain ⟨vs, q, r⟩ := h; exact ⟨vs, k _ q, r.tup' t⟩
  | frl ws =>
    rcases h with ⟨o, vs, q, r⟩ | ⟨vs, q, r⟩
    · exact .inl ⟨o, vs, k _ q, r.tup' t⟩
    · exact .inr ⟨vs, q, r.tup' t⟩
  | dct kvs => obtain ⟨L, q, r1, r2, z⟩ := h; exact ⟨L, k _ q, r1.tup' t, r2.tup' t, z⟩
  | frd kvs => obtain ⟨o, L, q, r1, r2, z⟩ := h; exact ⟨o, L, k _ q, r1.tup' t, r2.tup' t, z⟩
  | dci kvs => obtain ⟨L, q, z, r⟩ := h; exact ⟨L, k _ q, z, r.tup' t⟩
  | dcs kvs => obtain ⟨L, q, z, r⟩ := h; exact ⟨L, k _ q, z, r.tup' t⟩
  | ins c fs => obtain ⟨dx, fs', q, z, r⟩ := h; exact ⟨dx, fs', k _ q, z, r.tup' t⟩
  | exo c fs => exact ⟨h.1, k _ h.2⟩
/-- the lock is taken off -/
theorem Sim.unlock {S : Sto} {l : Nat} {p : Addr} {od : Obj} {u : HO} {kvs : List (Va × Va)} (s : Sim g ρ S H) (hS : S[l]? = some (.frd kvs)) (hp : ρ[l]? = some p) (hH : H p = some (.frz od u)) :
    Sim g ρ (S.set l (.dct kvs)) (upd H p u) ∧ ∀ a vs, SqT g.K H a vs → SqT g.K (upd H p u) a vs := by
  obtain ⟨o, L, q, r1, r2, z1, z2⟩ := s.ats l _ p hS hp
  have eu : u = dN g.P g.w p L := by
    rw [hH] at q
    have := Option.some.inj q
    injection this
  have t : ∀ a vs, SqT g.K H a vs → SqT g.K (upd H p u) a vs := fun a vs x => by
    rcases x with (x | ⟨ob, x⟩) | x
    · refine .inl (.inl ?_)
      rw [upd_ne (fun y => by rw [y, hH] at x; cases x)]
      exact x
    · refine .inl (.inr ⟨ob, ?_⟩)
      rw [upd_ne (fun y => by rw [y, hH, eu] at x; exact nomatch (show HO.frz od (HO.ext _) = HO.frz ob (HO.tup vs) from Option.some.inj x))]
      exact x
    · exact .inr x
  refine ⟨⟨by rw [List.length_set]; exact s.len, fun i j a b c h1 h2 h3 h4 h5 h6 => ?_, fun j b a h1 h2 => ?_, tabs_upd s.tabs hH (fun ps z => nomatch z) fun c q z => by unfold LamX.CodeO at z; cases z⟩, t⟩
  · have back : ∀ {j : Nat} {c : Ob}, (S.set l (.dct kvs))[j]? = some c → isFr c = false → ∃ b, S[j]? = some b ∧ isFr b = false := fun {j c} q q2 => by
      by_cases hj : j = l
      · subst hj
        exact ⟨_, hS, rfl⟩
      · rw [List.getElem?_set_ne (Ne.symm hj)] at q
        exact ⟨c, q, q2⟩
    obtain ⟨b', y1, y2⟩ := back h3 h5
    obtain ⟨c', y3, y4⟩ := back h4 h6
    exact s.inj i j a b' c' h1 h2 y1 y3 y2 y4
  · by_cases hj : j = l
    · subst hj
      rw [hp] at h2
      cases h2
      rw [List.getElem?_set_self (List.getElem?_eq_some_iff.mp hS).1] at h1
      cases h1
      exact ⟨L, by rw [upd_same, eu], r1.tup' t, r2.tup' t, z1, z2⟩
    · rw [List.getElem?_set_ne (Ne.symm hj)] at h1
      have z0 := s.ats j b a h1 h2
      by_cases hb : isFr b = true
      · cases b with
        | frl ws =>
          rcases z0 with ⟨ob, vs, z, r⟩ | ⟨vs, z, r⟩
          · refine .inl ⟨ob, vs, ?_, r.tup' t⟩
            rw [upd_ne (fun y => by rw [y, hH, eu] at z; exact nomatch (show HO.frz od (HO.ext _) = HO.frz ob (HO.lst vs) from Option.some.inj z))]
            exact z
          · exact .inr ⟨vs, z, r.tup' t⟩
        | _ => cases hb
      · have hb' : isFr b = false := by simpa using hb
        refine z0.tup' t fun y q => ?_
        have n : a ≠ p := fun z => by
          subst z
          exact hj (s.inj j l a b (.frd kvs) h2 hp h1 hS hb' rfl)
        rw [upd_ne n]
        exact q
end
def unlS (l : Nat) (S : Sto) : Option Sto := match S[l]? with
  | some (.frd kvs) => some (S.set l (.dct kvs))
  | _ => none
def xlock (x e : XE) : XE := fun δ S => match x δ S with
  | .ok (.loc l) _ => match S[l]? with
    | some (.dct kvs) => match e δ (S.set l (.frd kvs)) with
      | .ok w S' => match unlS l S' with
        | some S2 => .ok w S2
        | none => .bad
      | _ => .bad
    | some (.frd _) => e δ S
    | _ => .bad
  | _ => .bad
def slock (x : XE) (s : XS) : XS := fun δ S => match x δ S with
  | .ok (.loc l) _ => match S[l]? with
    | some (.dct kvs) => match s δ (S.set l (.frd kvs)) with
      | .nx δ' S' => match unlS l S' with
        | some S2 => .nx δ' S2
        | none => .bad
      | .rt w S' => match unlS l S' with
        | some S2 => .rt w S2
        | none => .bad
      | _ => .bad
    | some (.frd _) => s δ S
    | _ => .bad
  | _ => .bad
section
variable {X : Cx} {g : G} {Wx : WX} {k : Nat} {pos : Pos}
theorem unlS_some {l : Nat} {S S2 : Sto} (h : unlS l S = some S2) : ∃ kvs, S[l]? = some (.frd kvs) ∧ S2 = S.set l (.dct kvs) := by
  unfold unlS at h
  split at h
  · rename_i kvs e
    cases h
    exact ⟨kvs, e, rfl⟩
  · cases h
/-- from the lock to its end -/
theorem ext_lock {ρ ρ' : List Addr} {H H' : Hp} {p : Addr} {od : Obj} {u : HO} (hu : H p = some u) (nt : ∀ vs, u ≠ .tup vs) (nf : ∀ o w, u ≠ .frz o w) (e1 : Ext g ρ (upd H p (.frz od u)) ρ' H') (t : ∀ a vs, SqT g.K H' a vs → SqT g.K (upd H' p u) a vs)
    (e0 : Ext g ρ H ρ (upd H p (.frz od u))) : Ext g ρ H ρ' (upd H' p u) :=
  ⟨e1.pre, fun a vs x => t a vs (e1.tup a vs (e0.tup a vs x)), fun b o w x => by
    have n : b ≠ p := fun y => by
      rw [y, hu] at x
      exact nf o w (Option.some.inj x)
    rw [upd_ne n]
    exact e1.frz b o w (e0.frz b o w x)⟩
theorem se_lock {e : Expr} {x ex : XE} (h : SE X g Wx e ex) : SE X g Wx e (xlock x ex) := by
  refine ⟨fun pins s σ H Q I ⟨δ, S, ρ, sm, se, hw⟩ => ?_⟩
  unfold xlock at hw
  split at hw
  · rename_i l _ _
    split at hw
    · rename_i kvs hS
      obtain ⟨p, hp⟩ : ∃ p, ρ[l]? = some p := ⟨_, List.getElem?_eq_getElem (by rw [← sm.len]; exact (List.getElem?_eq_some_iff.mp hS).1)⟩
      obtain ⟨L, q, r1, r2, z⟩ := sm.ats l _ p hS hp
      refine (pe_lock h).run pins s σ H Q I ⟨p, dN g.P g.w p L, q, trivial, fun od => ?_⟩
      obtain ⟨s1, e1⟩ := sm.put (o' := .frd kvs) (u := .frz od (dN g.P g.w p L)) hS hp rfl rfl fun H' e q => ⟨od, L, q, r1.mono e, r2.mono e, z⟩
      refine ⟨δ, _, ρ, s1, se.mono e1, ?_⟩
      cases he : ex δ (S.set l (.frd kvs)) with
      | bad => rw [he] at hw; exact hw.elim
      | ex c fs S' => rw [he] at hw; exact hw.elim
      | ok w S' =>
        rw [he] at hw
        dsimp only at hw
        cases hu : unlS l S' with
        | none => rw [hu] at hw; exact hw.elim
        | some S2 =>
          rw [hu] at hw
          obtain ⟨kvs', y1, rfl⟩ := unlS_some hu
          intro ρ' H' v e2 s2 rv
          have hz := e2.frz p od _ upd_same
          obtain ⟨s3, t3⟩ := s2.unlock y1 (e2.at hp) hz
          exact ⟨hz, hw ρ' _ v (ext_lock q (fun vs z => nomatch (show HO.ext _ = HO.tup vs from z)) (fun o w z => nomatch (show HO.ext _ = HO.frz o w from z)) e2 t3 e1) s3 (rv.tup' t3)⟩
    · exact h.run pins s σ H Q I ⟨δ, S, ρ, sm, se, hw⟩
    · exact hw.elim
  · exact hw.elim
theorem ss_lock {st : Stmt} {x : XE} {sx : XS} (h : SS X g Wx st sx) : SS X g Wx st (slock x sx) := by
  refine ⟨fun pins s σ H D I ⟨δ, S, ρ, sm, se, hw⟩ => ?_⟩
  unfold slock at hw
  split at hw
  · rename_i l _ _
    split at hw
    · rename_i kvs hS
      obtain ⟨p, hp⟩ : ∃ p, ρ[l]? = some p := ⟨_, List.getElem?_eq_getElem (by rw [← sm.len]; exact (List.getElem?_eq_some_iff.mp hS).1)⟩
      obtain ⟨L, q, r1, r2, z⟩ := sm.ats l _ p hS hp
      refine (ps_lock h).run pins s σ H D I ⟨p, dN g.P g.w p L, q, trivial, fun od => ?_⟩
      obtain ⟨s1, e1⟩ := sm.put (o' := .frd kvs) (u := .frz od (dN g.P g.w p L)) hS hp rfl rfl fun H' e q => ⟨od, L, q, r1.mono e, r2.mono e, z⟩
      refine ⟨δ, _, ρ, s1, se.mono e1, ?_⟩
      cases he : sx δ (S.set l (.frd kvs)) with
      | bad => rw [he] at hw; exact hw.elim
      | ex c fs δ' S' => rw [he] at hw; exact hw.elim
      | bk δ' S' => rw [he] at hw; exact hw.elim
      | ct δ' S' => rw [he] at hw; exact hw.elim
      | nx δ' S' =>
        rw [he] at hw
        dsimp only at hw
        cases hu : unlS l S' with
        | none => rw [hu] at hw; exact hw.elim
        | some S2 =>
          rw [hu] at hw
          obtain ⟨kvs', y1, rfl⟩ := unlS_some hu
          intro ρ' H' σ' e2 s2 se2
          have hz := e2.frz p od _ upd_same
          obtain ⟨s3, t3⟩ := s2.unlock y1 (e2.at hp) hz
          exact ⟨hz, hw ρ' _ σ' (ext_lock q (fun vs z => nomatch (show HO.ext _ = HO.tup vs from z)) (fun o w z => nomatch (show HO.ext _ = HO.frz o w from z)) e2 t3 e1) s3 (se2.tup' t3)⟩
      | rt w S' =>
        rw [he] at hw
        dsimp only at hw
        cases hu : unlS l S' with
        | none => rw [hu] at hw; exact hw.elim
        | some S2 =>
          rw [hu] at hw
          obtain ⟨kvs', y1, rfl⟩ := unlS_some hu
          intro ρ' H' v e2 s2 rv
          have hz := e2.frz p od _ upd_same
          obtain ⟨s3, t3⟩ := s2.unlock y1 (e2.at hp) hz
          exact ⟨hz, hw ρ' _ v (ext_lock q (fun vs z => nomatch (show HO.ext _ = HO.tup vs from z)) (fun o w z => nomatch (show HO.ext _ = HO.frz o w from z)) e2 t3 e1) s3 (rv.tup' t3)⟩
    · exact h.run pins s σ H D I ⟨δ, S, ρ, sm, se, hw⟩
    · exact hw.elim
  · exact hw.elim
end
end Rz
namespace Rz
open PySem PySem.Spec PyProof.Rows L2 PySem.W
/-! ### walks of a locked dict: its keys, its pairs -/
section
variable {X : Cx} {pins : List (Addr × Obj)} {σ : L2.St} {H : Hp} {s : Shared} {d : Addr} {o : Obj} {L : List (NestedKey × Addr × V)}
theorem Inv.frzN (I : Inv X pins σ H s) (h : H d = some (.frz o (dN X.prog X.w d L))) :
    (d == sysModules) = false ∧ s.heap.get? d = some o ∧ o.ExactDict ∧ ∃ (es : Array DictEntry) (ep : Nat), o.data = .dict es ep ∧ es.size = L.length ∧ L.length ≤ sizeLine ∧
      ∀ (i : Nat) (r : NestedKey × Addr × V), L[i]? = some r → ∃ (en : DictEntry), es[i]? = some en ∧ en.key = .ref r.2.1 ∧ RelV r.2.2 en.val := by
  obtain ⟨hd, ⟨h1, h2, h3, xs, pr, o', es, ep, ho, hx, hdt, he, _⟩, _⟩ := I.hok d _ h
  rw [hd] at ho
  cases ho
  refine ⟨h1, hd, hx, es, ep, hdt, ?_, h2, fun i r e => ?_⟩
  · have l1 : es.size = xs.length := size_of_entries he
    have l2 : L.length = xs.length := paired_len pr
    omega
  · obtain ⟨b, hb, e1, e2, e3⟩ := paired_get pr e
    have q := entry_at he i
    rw [hb] at q
    exact ⟨_, q, by rw [e2]; rfl, e3⟩
end
def Itn (P : Program) (w : World) (d : Addr) (o : Obj) (L : List (NestedKey × Addr × V)) : It :=
  ⟨fun i H => H d = some (.frz o (dN P w d L)) ∧ i < L.length, fun i H x H' => H' = H ∧ ∃ r, L[i]? = some r ∧ x = .ref r.2.1, fun i H => H d = some (.frz o (dN P w d L)) ∧ L.length ≤ i⟩
def Itp (P : Program) (w : World) (d : Addr) (o : Obj) (L : List (NestedKey × Addr × V)) : It :=
  ⟨fun i H => H d = some (.frz o (dN P w d L)) ∧ i < L.length, fun i H x H' => ∃ T r, L[i]? = some r ∧ x = .ref T ∧ H T = none ∧ H' = upd H T (.tup [.ref r.2.1, r.2.2]), fun i H => H d = some (.frz o (dN P w d L)) ∧ L.length ≤ i⟩
section
variable {P : Program} {w : World} {K : PySem.W.Frag} {tg : Expr} {d : Addr} {o : Obj} {es : Array DictEntry} {ep : Nat} {L : List (NestedKey × Addr × V)}
theorem turn_keysN (it : Addr) (hod : o.data = .dict es ep) : Turn P w K tg (Itn P w d o L) [it] it (fun i h => h.IsKeyIter it d i L.length ep) where
  mem := by simp
  obj := fun i h st b hb => by
    have e : b = it := by simpa using hb
    subst e
    obtain ⟨oi, e, c, dd⟩ := st
    exact ⟨oi, e, fun v z => by rw [dd] at z; cases z⟩
  keep := fun i h h' st k => st.at fun oi e => k it (by simp) oi e
  item := by
    intro X hP hw hK hc i pins s σ H E I hf st hg
    subst hP hw hK
    obtain ⟨hd, hi⟩ := hg
    obtain ⟨f0, f1, f2, f3, f4, f5⟩ := hf it (by simp)
    obtain ⟨hs, hgd, hx, es', ep', hdt, hsz, _, ent⟩ := Inv.frzN I hd
    obtain ⟨rfl, rfl⟩ := dict_ep hod hdt
    obtain ⟨r, hkv⟩ : ∃ p, L[i]? = some p := ⟨L[i], List.getElem?_eq_getElem hi⟩
    obtain ⟨en, hen, hkey, _⟩ := ent i r hkv
    refine next_key_item st hgd hdt hsz hen fun h' st' sb => ?_
    have I1 : Inv X pins σ H { s with heap := h' } := I.turned (t' := s.toks) (fun b ob hb e => (sb.2 b hb).trans e) f0 f1 f3 f4 f5
    obtain ⟨oi, e, c, dd⟩ := id st'
    exact ⟨en.key, rfl, go_of (s := { s with heap := h' }) e c dd (by decide) ⟨.ref r.2.1, H, I1, hkey, ⟨rfl, r, hkv, rfl⟩, st', fun b hb => (hf b hb).1⟩⟩
  done := by
    intro X hP hw hK hc i pins s σ H E I hf st hg
    subst hP hw hK
    obtain ⟨hd, hi⟩ := hg
    obtain ⟨f0, f1, f2, f3, f4, f5⟩ := hf it (by simp)
    obtain ⟨hs, hgd, hx, es', ep', hdt, hsz, _, ent⟩ := Inv.frzN I hd
    obtain ⟨rfl, rfl⟩ := dict_ep hod hdt
    exact next_key_end (I.ok.hd hc) st hgd hdt hsz hi fun h' eb => ⟨rfl, I.turned (t' := s.toks) (fun b ob hb e => eb b ob hb e) f0 f1 f3 f4 f5⟩
  self := fun A i s Q E st h => by
    refine wpAny_pyIter_slot st.typeIs F.slot_dict_keyiterator_iter (wpAny_call_entry F.slot_dict_keyiterator_iter st.typeIs F.entry_dict_keyiterator_iter ?_ (F.args_dict_keyiterator_iter_1 _))
    show wpAny _ _ (ret (.ref it)) _ _ s
    exact wpAny_pure ⟨_, rfl, "dict_keyiterator", _, st.typeIs, F.slot_dict_keyiterator_next.lookup, h⟩
theorem turn_itemsN {elts : List Expr} {kk : Nat} {tpos : Pos} (it : Addr) (hod : o.data = .dict es ep) :
    Turn P w K (.Tuple elts kk tpos) (Itp P w d o L) [it] it (fun i h => ∃ ok ov, IsItemIter h it d i L.length ep ok ov) where
  mem := by simp
  obj := fun i h st b hb => by
    have e : b = it := by simpa using hb
    subst e
    obtain ⟨ok, ov, e⟩ := st
    exact ⟨_, e, fun v z => nomatch z⟩
  keep := fun i h h' st k => let ⟨ok, ov, e⟩ := st; ⟨ok, ov, k it (by simp) _ e⟩
  item := by
    intro X hP hw hK hc i pins s σ H E I hf st hg
    subst hP hw hK
    obtain ⟨hd, hi⟩ := hg
    obtain ⟨hs, hgd, hx, es', ep', hdt, hsz, _, ent⟩ := Inv.frzN I hd
    obtain ⟨rfl, rfl⟩ := dict_ep hod hdt
    obtain ⟨r, hkv⟩ : ∃ p, L[i]? = some p := ⟨L[i], List.getElem?_eq_getElem hi⟩
    obtain ⟨en, hen, hkey, ru⟩ := ent i r hkv
    obtain ⟨ok, ov, he⟩ := st
    rw [← hsz] at he
    have hlt : it < s.heap.objs.size := Heap.lt_size he
    obtain ⟨hi2, een⟩ := Array.getElem?_eq_some_iff.mp hen
    refine DT.nextI he ⟨o, hgd, hx, hdt⟩ hi2 fun h' ho hT hz hk => ?_
    rw [een] at ho hT
    refine ⟨_, rfl, wpAny_letOwnedTupleGo_items (s := { s with heap := h' }) ho fun h'' he' sb => ?_⟩
    have hT2 : h''.get? s.heap.objs.size = some { cls := .type "tuple", data := .seq #[en.key, en.val] } := (sb.2 _ (Nat.ne_of_gt hlt)).trans hT
    have new : ObjOk X.prog X.w (upd H s.heap.objs.size (.tup [.ref r.2.1, r.2.2])) h'' s.heap.objs.size (.tup [.ref r.2.1, r.2.2]) :=
      ⟨by show 2 ≤ sizeLine; decide, [en.key, en.val], .cons hkey (.cons ru .nil), ⟨_, hT2, rfl, _, rfl⟩⟩
    have I1 : Inv X pins σ (upd H s.heap.objs.size (.tup [.ref r.2.1, r.2.2])) { s with heap := h'' } :=
      I.turnedNew (t' := s.toks) (ch := [it]) (fun b ob hb e => (sb.2 b (by simpa using hb)).trans (hk b ob (by simpa using hb) e)) hf (Nat.le_refl _) new
    refine ⟨.ref s.heap.objs.size, _, I1, rfl, ⟨_, r, hkv, rfl, I.hok.fresh (Nat.le_refl _), rfl⟩, ⟨en.key, en.val, ?_⟩, fun b hb => ?_⟩
    · rw [← hsz]; exact he'
    · have e : b = it := by simpa using hb
      rw [e, upd_ne (Nat.ne_of_lt hlt)]
      exact (hf it (by simp)).1
  done := by
    intro X hP hw hK hc i pins s σ H E I hf st hg
    subst hP hw hK
    obtain ⟨hd, hi⟩ := hg
    obtain ⟨f0, f1, f2, f3, f4, f5⟩ := hf it (by simp)
    obtain ⟨hs, hgd, hx, es', ep', hdt, hsz, _, ent⟩ := Inv.frzN I hd
    obtain ⟨rfl, rfl⟩ := dict_ep hod hdt
    obtain ⟨ok, ov, he⟩ := st
    rw [← hsz] at he
    exact DT.endI (I.ok.hd hc) he ⟨o, hgd, hx, hdt⟩ (by omega) fun h' eb => ⟨rfl, I.turned (t' := s.toks) (fun b ob hb e => eb b ob hb e) f0 f1 f3 f4 f5⟩
  self := fun A i s Q E st h => let ⟨_, _, e⟩ := st; PySem.W.kcp_self e h
end
def iKeysN (P : Program) (w : World) (td : TE) : TI := fun σ H R => td σ H fun x H1 => ∃ d o L, x = .ref d ∧ H1 d = some (.frz o (dN P w d L)) ∧ R (Itn P w d o L) H1
def iItemsN (P : Program) (w : World) (td : TE) : TI := fun σ H R => td σ H fun x H1 => ∃ d o L, x = .ref d ∧ H1 d = some (.frz o (dN P w d L)) ∧ R (Itp P w d o L) H1
section
variable {X : Cx} {tg e : Expr} {td : TE} {apos cpos : Pos}
theorem pi_keysN (he : PE X e td) : PI X tg e (iKeysN X.prog X.w td) := by
  refine ⟨fun pins s σ H R I h => ?_⟩
  refine thn (he.run pins s σ H _ I h) fun u s1 ⟨x, H1, I1, rx, d, o, L, ex, hd, q⟩ => ?_
  subst ex
  obtain rfl : u = Value.ref d := rx
  obtain ⟨hs, hgd, hx, es, ep, hdt, hsz, _, ent⟩ := Inv.frzN I1 hd
  refine iter_keys hs hgd hx hdt (pi_one (tk := s1.toks) I1 _ (turn_keysN _ hdt) ⟨_, Heap.get?_push_size _ rfl, rfl, ?_⟩ q)
  rw [hsz] <;> rfl
theorem pi_itemsN {elts : List Expr} {kk : Nat} {tpos : Pos} (he : PE X e td) (hbase : attributeBase e "items" X.env (eval e X.env) = eval e X.env := by rfl) (hline : (apos.endLine == cpos.line) = true := by rfl) :
    PI X (.Tuple elts kk tpos) (.Call (.Attribute e "items" apos) [] [] cpos) (iItemsN X.prog X.w td) := by
  refine ⟨fun pins s σ H R I h => ?_⟩
  refine wpAny_Call_method (T := "dict") (id := "dict.items") hbase rfl hline F.plainAttrs_dict F.slot_dict_items F.type_dict_items (thn (he.run pins s σ H _ I h) fun u s1 ⟨x, H1, I1, rx, d, o, L, ex, hd, q⟩ => ?_)
  subst ex
  obtain rfl : u = Value.ref d := rx
  obtain ⟨hs, hgd, hx, es, ep, hdt, hsz, _, ent⟩ := Inv.frzN I1 hd
  have hty : s1.TypeIs (.ref d) "dict" := ⟨o, hgd, hx.1⟩
  refine ⟨hty, ?_, ?_⟩
  · exact fun a ea => by cases ea; exact ⟨o, hgd, hx.2.1⟩
  have raw : DT.Raw s1.heap d es ep := ⟨o, hgd, hx, hdt⟩
  have I2 : Inv X pins σ H1 { s1 with heap := s1.heap.push { cls := .type "dict_items", data := .fields #[.ref d] } } := I1.kept (t' := s1.toks) fun b o q => Heap.get?_push_of_some _ q
  have fin : wpAny (model X.prog X.w) X.A (pyIter (.ref s1.heap.objs.size)) (PIE X pins σ (.Tuple elts kk tpos) R) X.xe { s1 with heap := s1.heap.push { cls := .type "dict_items", data := .fields #[.ref d] } } := by
    refine DT.iterI (d := d) ⟨_, Heap.get?_push_size _ rfl, rfl, rfl⟩ (raw.push _) (pi_one (tk := s1.toks) I2 _ (turn_itemsN _ hdt) ⟨.none, .none, ?_⟩ q)
    rw [← hsz]
    exact Heap.get?_push_size _ rfl
  show wpAny _ _ (callWith cpos (.builtin "dict.items") [.ref d] [] []) _ X.xe s1
  exact method_meetsIn F.slot_dict_items F.entry_dict_items rfl (PySem.evalArgs_none ⟨rfl, hty, F.args_dict_items_1 _, _, DT.meetsItems (es := es) (ep := ep) hs, raw, fin⟩)
end
/-! in the plain semantics -/
@[simp] def ikeys (x : XE) : XI := fun δ S => (x δ S).bind fun w S1 => match w with
  | .loc l => match S1[l]? with
    | some (.frd kvs) => .ok (kvs.length + 1, nseq (kvs.map Prod.fst)) S1
    | _ => .bad
  | _ => .bad
@[simp] def iitems (x : XE) : XI := fun δ S => (x δ S).bind fun w S1 => match w with
  | .loc l => match S1[l]? with
    | some (.frd kvs) => .ok (kvs.length + 1, nseq (kvs.map fun p => .tup [p.1, p.2])) S1
    | _ => .bad
  | _ => .bad
section
variable {g : G}
theorem rel_refs {ρ : List Addr} {H : Hp} {ws : List Va} {L : List (NestedKey × Addr × V)} {i : Nat} {w : Va} (h : RelL g ρ H ws (L.map fun r => V.ref r.2.1)) (e : ws[i]? = some w) : ∃ r, L[i]? = some r ∧ Rel g ρ H w (.ref r.2.1) := by
  obtain ⟨v, h1, h2⟩ := h.get e
  rw [List.getElem?_map] at h1
  obtain ⟨r, e1, rfl⟩ := Option.map_eq_some_iff.mp h1
  exact ⟨r, e1, h2⟩
theorem nth_keys {ρ : List Addr} {H : Hp} {d : Addr} {o : Obj} {kvs : List (Va × Va)} {L : List (NestedKey × Addr × V)} (hd : H d = some (.frz o (dN g.P g.w d L))) (h1 : RelL g ρ H (kvs.map Prod.fst) (L.map fun r => V.ref r.2.1)) : NthOk g ρ H (nseq (kvs.map Prod.fst)) (Itn g.P g.w d o L) := fun i S ρ1 H1 e sm => by
  have hd1 := e.frz _ _ _ hd
  have ll : (kvs.map Prod.fst).length = L.length := by rw [h1.length, List.length_map]
  refine ⟨fun h => ⟨hd1, ?_⟩, fun w h => ?_⟩
  · have h' : (kvs.map Prod.fst)[i]? = none := Option.some.inj h
    rw [← ll]
    exact List.getElem?_eq_none_iff.mp h'
  · have h' : (kvs.map Prod.fst)[i]? = some w := Option.some.inj h
    obtain ⟨r, e1, rw_⟩ := rel_refs (h1.mono e) h'
    refine ⟨⟨hd1, by rw [← ll]; exact (List.getElem?_eq_some_iff.mp h').1⟩, fun x H' y => ?_⟩
    obtain ⟨rfl, r', e2, rfl⟩ := y
    rw [e1] at e2
    cases e2
    exact ⟨.refl, sm, rw_⟩
theorem nth_items {ρ : List Addr} {H : Hp} {d : Addr} {o : Obj} {kvs : List (Va × Va)} {L : List (NestedKey × Addr × V)} (hd : H d = some (.frz o (dN g.P g.w d L))) (h1 : RelL g ρ H (kvs.map Prod.fst) (L.map fun r => V.ref r.2.1)) (h2 : RelL g ρ H (kvs.map Prod.snd) (L.map fun r => r.2.2)) :
    NthOk g ρ H (nseq (kvs.map fun p => .tup [p.1, p.2])) (Itp g.P g.w d o L) := fun i S ρ1 H1 e sm => by
  have hd1 := e.frz _ _ _ hd
  have ll : kvs.length = L.length := by
    have := h1.length
    rw [List.length_map, List.length_map] at this
    exact this
  refine ⟨fun h => ⟨hd1, ?_⟩, fun w h => ?_⟩
  · have h' : (kvs.map fun p => Va.tup [p.1, p.2])[i]? = none := Option.some.inj h
    rw [← ll]
    have := List.getElem?_eq_none_iff.mp h'
    rw [List.length_map] at this
    exact this
  · have h' : (kvs.map fun p => Va.tup [p.1, p.2])[i]? = some w := Option.some.inj h
    rw [List.getElem?_map] at h'
    obtain ⟨kv, e0, rfl⟩ := Option.map_eq_some_iff.mp h'
    obtain ⟨r, e1, rk⟩ := rel_refs (h1.mono e) (i := i) (w := kv.1) (by rw [List.getElem?_map, e0]; rfl)
    obtain ⟨v, e2, rv⟩ := (h2.mono e).get (i := i) (w := kv.2) (by rw [List.getElem?_map, e0]; rfl)
    rw [List.getElem?_map, e1] at e2
    cases e2
    refine ⟨⟨hd1, by rw [← ll]; exact (List.getElem?_eq_some_iff.mp e0).1⟩, fun x H' y => ?_⟩
    obtain ⟨T, r', e3, rfl, hT, rfl⟩ := y
    rw [e1] at e3
    cases e3
    exact ⟨ext_upd hT, sm.aside hT, .tup (.of upd_same) (.cons (rk.mono (ext_upd hT)) (.cons (rv.mono (ext_upd hT)) .nil))⟩
end
section
variable {X : Cx} {g : G} {Wx : WX} {k : Nat} {tg e : Expr} {x : XE} {apos cpos : Pos}
theorem frd_at {ρ : List Addr} {S : Sto} {H : Hp} {l : Nat} {p : Addr} {kvs : List (Va × Va)} (sm : Sim g ρ S H) (hp : ρ[l]? = some p) (h : S[l]? = some (.frd kvs)) : ∃ (o : Obj) (L : List (NestedKey × Addr × V)), H p = some (.frz o (dN g.P g.w p L)) ∧ RelL g ρ H (kvs.map Prod.fst) (L.map fun r => V.ref r.2.1) ∧ RelL g ρ H (kvs.map Prod.snd) (L.map fun r => r.2.2) :=
  let ⟨o, L, q, r1, r2, _⟩ := sm.ats l _ p h hp
  ⟨o, L, q, r1, r2⟩
theorem si_keys (o : XO X g Wx k) (he : SE X g Wx e x) : SI X g Wx tg e (ikeys x) := by
  refine pi_imp (pi_keysN he) fun σ H R ⟨δ, S, ρ, sm, se, h⟩ => ?_
  refine ⟨δ, S, ρ, sm, se, ?_⟩
  unfold ikeys at h
  cases q : x δ S with
  | bad => rw [q] at h; exact h.elim
  | ex c fs S' => rw [q] at h; exact h
  | ok w S' =>
    rw [q] at h
    dsimp only [Rs.bind] at h
    cases w with
    | loc l =>
      dsimp only at h
      cases hS : S'[l]? with
      | none => rw [hS] at h; exact h.elim
      | some ob =>
        rw [hS] at h
        cases ob with
        | frd kvs =>
          intro ρ1 H1 v e1 s1 r1
          cases r1 with
          | @loc _ p hp =>
            obtain ⟨od, L, q1, q2, q3⟩ := frd_at s1 hp hS
            have hj := h ρ1 H1 _ e1 s1 (nth_keys q1 q2)
            rw [o.gP, o.gw] at q1 hj
            exact ⟨p, od, L, rfl, q1, hj⟩
        | _ => exact h.elim
    | _ => exact h.elim
theorem si_items (o : XO X g Wx k) {elts : List Expr} {kk : Nat} {tpos : Pos} (he : SE X g Wx e x) (hbase : attributeBase e "items" X.env (eval e X.env) = eval e X.env := by rfl) (hline : (apos.endLine == cpos.line) = true := by rfl) : SI X g Wx (.Tuple elts kk tpos) (.Call (.Attribute e "items" apos) [] [] cpos) (iitems x) := by
  refine pi_imp (pi_itemsN he hbase hline) fun σ H R ⟨δ, S, ρ, sm, se, h⟩ => ?_
  refine ⟨δ, S, ρ, sm, se, ?_⟩
  unfold iitems at h
  cases q : x δ S with
  | bad => rw [q] at h; exact h.elim
  | ex c fs S' => rw [q] at h; exact h
  | ok w S' =>
    rw [q] at h
    dsimp only [Rs.bind] at h
    cases w with
    | loc l =>
      dsimp only at h
      cases hS : S'[l]? with
      | none => rw [hS] at h; exact h.elim
      | some ob =>
        rw [hS] at h
        cases ob with
        | frd kvs =>
          intro ρ1 H1 v e1 s1 r1
          cases r1 with
          | @loc _ p hp =>
            obtain ⟨od, L, q1, q2, q3⟩ := frd_at s1 hp hS
            have hj := h ρ1 H1 _ e1 s1 (nth_items q1 q2 q3)
            rw [o.gP, o.gw] at q1 hj
            exact ⟨p, od, L, rfl, q1, hj⟩
        | _ => exact h.elim
    | _ => exact h.elim
end
end Rz
namespace Rz
open PySem PySem.Spec PyProof.Rows L2 PySem.W
/-! ### isinstance(d, dict), len(d), the truth of d -/
section
variable {X : Cx} {pins : List (Addr × Obj)} {σ : L2.St} {H : Hp} {s : Shared} {d : Addr} {L : List (NestedKey × Addr × V)}
theorem dN_raw (I : Inv X pins σ H s) (h : Rd H d (dN X.prog X.w d L)) : (d == sysModules) = false ∧ L.length ≤ sizeLine ∧ ∃ (o : Obj) (es : Array DictEntry) (ep : Nat), s.heap.get? d = some o ∧ o.ExactDict ∧ o.data = .dict es ep ∧ es.size = L.length := by
  obtain ⟨⟨h1, h2, h3, xs, pr, o, es, ep, ho, hx, hdt, he, _⟩, _, _⟩ := h.ok I.hok
  have l1 : es.size = xs.length := size_of_entries he
  have l2 : L.length = xs.length := paired_len pr
  exact ⟨h1, h2, o, es, ep, ho, hx, hdt, by omega⟩
theorem lenN_run {A : Around} {Q : Value → Shared → Prop} {E : Value → Shared → Prop} (I : Inv X pins σ H s) (h : Rd H d (dN X.prog X.w d L)) (q : Q (.int L.length s.toks) { s with toks := s.toks + 1 }) : wpAny (model X.prog X.w) A (call (.builtin "dict.__len__") [.ref d]) Q E s := by
  obtain ⟨h1, h2, o, es, ep, ho, hx, hdt, hz⟩ := dN_raw I h
  refine call_len_raw h1 (es := es) (ep := ep) ⟨o, ho, hx, hdt⟩ ?_
  rw [hz]
  exact q
theorem len_bodyN {A : Around} {Q : Value → Shared → Prop} {E : Value → Shared → Prop} (I : Inv X pins σ H s) (h : Rd H d (dN X.prog X.w d L)) (q : Q (.int L.length (s.toks + 1)) { s with toks := s.toks + 1 + 1 }) : wpAny (model X.prog X.w) A (Builtin.«len» ⟨[.ref d], []⟩) (fun fin s' => ∃ r, fin = .done (.ret r) ∧ Q r s') E s := by
  obtain ⟨h1, h2, o, es, ep, ho, hx, hdt, hz⟩ := dN_raw I h
  have hT : s.TypeIs (.ref d) "dict" := ⟨o, ho, hx.1⟩
  rw [sizeLine_eq] at h2
  unfold Builtin.«len»
  refine wpAny_bind (m := oneArg "len" _) (wpAny_pure ?_)
  refine wpAny_bind (m := callSpecial? (.ref d) (Str.ofString "__len__")) (wpAny_callSpecial?_slot (name := Str.ofString "__len__") hT F.slot_dict_len (lenN_run I h ?_))
  show wpAny _ _ _ _ _ { s with toks := s.toks + 1 }
  refine wpAny_bind (wpAny_holding (wpAny_pure ?_))
  refine wpAny_bind (wpAny_letGo ?_)
  show wpAny _ _ (if ((L.length : Nat) : Int) < 0 then _ else _) _ _ _
  rw [if_neg (by omega)]
  show wpAny _ _ (if ((L.length : Nat) : Int) ≥ 2 ^ 63 then _ else _) _ _ _
  rw [if_neg (by omega)]
  exact wpAny_bind (wpAny_mkInt (wpAny_pure ⟨_, rfl, q⟩))
theorem truthyN {A : Around} {Q : Bool → Shared → Prop} {E : Value → Shared → Prop} (I : Inv X pins σ H s) (h : Rd H d (dN X.prog X.w d L)) (q : Q (!L.isEmpty) { s with toks := s.toks + 1 + 1 }) : wpAny (model X.prog X.w) A (truthy (.ref d)) Q E s := by
  obtain ⟨h1, h2, o, es, ep, ho, hx, hdt, hz⟩ := dN_raw I h
  have hT : s.TypeIs (.ref d) "dict" := ⟨o, ho, hx.1⟩
  have hne : ((L.length : Int) != 0) = !L.isEmpty := by cases L <;> simp <;> omega
  have key : wpAny (model X.prog X.w) A (runValue (.builtin "len" ⟨[.ref d], []⟩)) (fun r s' => r = .int L.length (s.toks + 1) ∧ Q (!L.isEmpty) s') E s := by
    refine wpAny_runValue (codeAny_builtin entry_len ?_)
    rw [Around.under_plainId plain_len _]
    exact wpAny_mono (len_bodyN (Q := fun r s' => r = .int L.length (s.toks + 1) ∧ Q (!L.isEmpty) s') I h ⟨rfl, q⟩)
      (fun fin s' h' => by obtain ⟨r, rfl, hq⟩ := h'; exact hq) fun _ _ e => e
  unfold truthy
  first
    | refine wpAny_bind (wpAny_callSpecial?_none (name := Str.ofString "__bool__") hT noBool_dict ?_)
    | refine wpAny_bind (wpAny_pure (wpAny_bind (wpAny_callSpecial?_none (name := Str.ofString "__bool__") hT noBool_dict ?_)))
  first
    | refine wpAny_bind (wpAny_specialOf (name := Str.ofString "__len__") hT F.slot_dict_len.lookup ?_)
    | refine wpAny_bind (wpAny_pure (wpAny_bind (wpAny_specialOf (name := Str.ofString "__len__") hT F.slot_dict_len.lookup ?_)))
  first
    | exact wpAny_bind (wpAny_mono key (fun r s' h' => by obtain ⟨rfl, hq⟩ := h'; exact wpAny_pure (hne ▸ hq)) fun _ _ e => e)
    | exact wpAny_bind (wpAny_pure (wpAny_bind (wpAny_mono key (fun r s' h' => by obtain ⟨rfl, hq⟩ := h'; exact wpAny_pure (hne ▸ hq)) fun _ _ e => e)))
end
def rLenN (P : Program) (w : World) : List V → Hp → VK → Prop := fun xs H Q => ∃ a L, xs = [V.ref a] ∧ Rd H a (dN P w a L) ∧ Q (.int L.length) H
theorem call_lenN {X : Cx} : CallR X (.builtin "len") (rLenN X.prog X.w) := by
  intro pins s σ H xs us Q I r h
  obtain ⟨a, L, rfl, ha, q⟩ := h
  obtain ⟨u, rfl, ru⟩ := vals1 r
  cases ru
  exact Calls.call_function_entry kind_len plain_len entry_len (args_len1 _) (len_bodyN I ha ⟨.int L.length, H, I.tok _, ⟨_, rfl⟩, q⟩)
def rTruN (P : Program) (w : World) : V → Hp → (Bool → Hp → Prop) → Prop := fun x H Q => ∃ a L, x = .ref a ∧ Rd H a (dN P w a L) ∧ Q (!L.isEmpty) H
theorem tru_dN {X : Cx} : TruR X (rTruN X.prog X.w) := by
  intro pins s σ H x v Q I rx h
  obtain ⟨a, L, rfl, e, q⟩ := h
  cases rx
  exact truthyN I e ⟨H, I.tok _, q⟩
def rIsN (P : Program) (w : World) (K : PySem.W.Frag) : List V → Hp → VK → Prop := fun xs H Q => ∃ a L n b, xs = [V.ref a, .ty n] ∧ Rd H a (dN P w a L) ∧ PySem.W.kitOne K (.type "dict") (.type n) = some b ∧ Q (.bl b) H
theorem call_isN {X : Cx} : CallR X (.builtin "isinstance") (rIsN X.prog X.w X.K) := by
  intro pins s σ H xs us Q I r h
  obtain ⟨a, L, n, b, rfl, ha, kit, q⟩ := h
  match us, r with
  | [_, w], .cons r1 (.cons r2 .nil) =>
    cases r1
    cases r2
    obtain ⟨h1, h2, o, es, ep, ho, hx, hdt, hz⟩ := dN_raw I ha
    exact PySem.W.kia_one PySem.W.kitx_dict I.kIn ⟨o, ho, hx.1⟩ kit (fun z => nomatch z) fun t => ⟨.bl b, H, I.kept (t' := t) fun _ _ z => z, rfl, q⟩
/-! in the plain semantics -/
def fLenD (ws : List Va) (S : Sto) : Rs Va := match ws with
  | [w] => match dctAt w S with
    | some kvs => .ok (.int kvs.length) S
    | none => .bad
  | _ => .bad
def truD (w : Va) (S : Sto) : Rs Bool := match dctAt w S with
  | some kvs => .ok (!kvs.isEmpty) S
  | none => .bad
def xtruD (x : XE) : XT := fun δ S => (x δ S).bind truD
def fIsD (ws : List Va) (S : Sto) : Rs Va := match ws with
  | [w, .ty n] => match dctAt w S with
    | some _ => if n < 7 then .ok (.bl (isK 6 n)) S else .bad
    | none => .bad
  | _ => .bad
section
variable {g : G}
theorem len_kvs {ρ : List Addr} {H : Hp} {kvs : List (Va × Va)} {L : List (NestedKey × Addr × V)} (h : RelL g ρ H (kvs.map Prod.fst) (L.map fun r => V.ref r.2.1)) : kvs.length = L.length := by
  have := h.length
  rw [List.length_map, List.length_map] at this
  exact this
theorem cs_lenD : CalS g (rLenN g.P g.w) fLenD := fun Wx σ ρ S H ws vs Q sm rl h => by
  unfold fLenD at h
  split at h
  · rename_i w
    cases rl with
    | cons ra rn =>
      cases rn
      cases e : dctAt w S with
      | none => rw [e] at h; exact h.elim
      | some kvs =>
        rw [e] at h
        obtain ⟨l, p, L, rfl, rfl, hp, D, r1, r2, _⟩ := dct_at sm ra e
        have ll := len_kvs r1
        exact ⟨p, L, rfl, D.at_, ll ▸ h.fin sm (.int _)⟩
  · exact h.elim
theorem cs_isD : CalS g (rIsN g.P g.w g.K) fIsD := fun Wx σ ρ S H ws vs Q sm rl h => by
  unfold fIsD at h
  split at h
  · rename_i w n
    cases rl with
    | cons ra rn =>
      cases rn with
      | cons rb rn =>
        cases rn
        cases rb
        cases e : dctAt w S with
        | none => rw [e] at h; exact h.elim
        | some kvs =>
          rw [e] at h
          dsimp only at h
          by_cases hn : n < 7
          · rw [if_pos hn] at h
            obtain ⟨l, p, L, rfl, rfl, hp, D, r1, r2, _⟩ := dct_at sm ra e
            exact ⟨p, L, _, isK 6 n, rfl, D.at_, (kit_all 6 (by decide) n hn), h.fin sm (.bl _)⟩
          · rw [if_neg hn] at h
            exact h.elim
  · exact h.elim
end
section
variable {X : Cx} {g : G} {Wx : WX} {k : Nat} {pos : Pos} {a b : Expr} {x : XE} {r : XA}
theorem se_lenD (o : XO X g Wx k) {p : Pos} (hm : X.mg "len" = none) (ha : SA X g Wx [a] r) (hg : Gl X "len" := by rfl) (he : starEach [a] X.env = (false, eval a X.env) :: starEach [] X.env := by rfl) : SE X g Wx (.Call (.Name "len" p) [a] [] pos) (xcall fLenD r) :=
  se_callB call_lenN (by have q := cs_lenD (g := g); rw [o.gP, o.gw] at q; exact q) hm ha hg (he := he)
theorem se_isD (o : XO X g Wx k) {p : Pos} (hm : X.mg "isinstance" = none) (ha : SA X g Wx [a, b] r) (hg : Gl X "isinstance" := by rfl) (he : starEach [a, b] X.env = (false, eval a X.env) :: starEach [b] X.env := by rfl) (hpl : (backTo pos (starEach [b] X.env)).any (·.1) = false := by rfl) :
    SE X g Wx (.Call (.Name "isinstance" p) [a, b] [] pos) (xcall fIsD r) :=
  se_callB call_isN (by have q := cs_isD (g := g); rw [o.gP, o.gw, o.K] at q; exact q) hm ha hg (he := he) (hpl := hpl)
theorem sq_truD (o : XO X g Wx k) (ha : SE X g Wx a x) (he : ∀ whole, isTrue a X.env whole = (do let v ← whole; standAt a.pos; holding [v] (truthy v)) := by intro _; rfl) : SQ X g Wx a (xtruD x) :=
  pt_imp (pt_truthR ha tru_dN he) fun σ H Q ⟨δ, S, ρ, sm, se, h⟩ => ⟨δ, S, ρ, sm, se, wpR.imp (wpR.bind (rel := Rel g) h) fun v H1 ⟨ρ1, w, S1, e1, s1, r1, h1⟩ => by
    unfold truD at h1
    cases e : dctAt w S1 with
    | none => rw [e] at h1; exact h1.elim
    | some kvs =>
      rw [e] at h1
      obtain ⟨l, p, L, rfl, rfl, hp, D, q1, q2, _⟩ := dct_at s1 r1 e
      have ll := len_kvs q1
      have D1 := D.at_
      rw [o.gP, o.gw] at D1
      have em : L.isEmpty = kvs.isEmpty := by
        cases L <;> cases kvs <;> first | rfl | (simp at ll)
      exact ⟨p, L, rfl, D1, em ▸ h1.fin s1 rfl⟩⟩
end
end Rz
namespace Rz
open PySem PySem.Spec PyProof.Rows L2 PySem.W
/-! ### {k: v for ..}: whatever stands for a dict (ob), whatever a store is (rp) -/
/-- what dictSet into the dict at D makes -/
def DSet (X : Cx) (rp : Addr → V → V → Hp → (Hp → Prop) → Prop) : Prop := ∀ (pins : List (Addr × Obj)) (s : Shared) (σ : L2.St) (H : Hp) (D : Addr) (y z : V) (u r : Value) (Q : Hp → Prop) (E : Value → Shared → Prop),
  Inv X pins σ H s → RelV y u → RelV z r → rp D y z H Q → wpAny (model X.prog X.w) X.A (dictSet D u r) (fun _ s' => ∃ H', Inv X pins σ H' s' ∧ Q H') E s
/-- what an empty dict is -/
def DNew (P : Program) (w : World) (ob : Addr → HO) : Prop := ∀ (H : Hp) (h : Heap), sysModules < h.objs.size → ObjOk P w H (h.push { cls := .type "dict", data := .dict #[] }) h.objs.size (ob h.objs.size)
/-- the turns of the comprehension -/
def Turns (ob : Addr → HO) (rp : Addr → V → V → Hp → (Hp → Prop) → Prop) (tg : TG) (tt : TT) (tk tv : TE) (vs : List Nat) (σ : L2.St) (J : It) (D : Addr) (H0 : Hp) (Q : VK) : Prop :=
  ∃ W : Nat → Nat → Hp → Prop, (∃ m, W 0 m (upd H0 D (ob D))) ∧ ∀ i m H, W i m H → (J.stop i H ∧ Q (.ref D) H) ∨ (J.go i H ∧ ∃ Nx : Hp → Prop, (∀ H', Nx H' → ∃ m', m' < m ∧ W (i + 1) m' H') ∧
    ∀ x H', J.yld i H x H' → tg x (wipe σ vs) H' fun σ2 H2 => wipe σ2 vs = wipe σ vs ∧ tt σ2 H2 fun b H3 => if b = true then tk σ2 H3 fun y H4 => tv σ2 H4 fun z H5 => rp D y z H5 Nx else Nx H3)
def tDcG (ob : Addr → HO) (rp : Addr → V → V → Hp → (Hp → Prop) → Prop) (wi : TI) (tg : TG) (tt : TT) (tk tv : TE) (vs : List Nat) : TE := fun σ H Q => wi σ H fun J H1 => ∀ D, H1 D = none → Turns ob rp tg tt tk tv vs σ J D H1 Q
section
variable {X : Cx}
/-- an address of the iterator, seen from the comprehension's block -/
theorem blk_fp {s3 : Shared} {H3 : Hp} {scope : Scope} {ce : PySem.Env} {fp : List Addr} {σ' : L2.St} {H' : Hp} {s' : Shared} (I' : Inv (X.blk s3 H3 scope ce fp) [] σ' H' s') (hn : ∀ b ∈ fp, H' b = none) : ∀ b ∈ fp, FpOk (X.blk s3 H3 scope ce fp) [] H' b :=
  fun b hb => ⟨hn b hb, (I'.ok.exf b hb).1, I'.ok.exfs b hb, .inl hb, fun x c e => (I'.ok.exf b hb).2 x c e, fun p hp => absurd (show p ∈ ([] : List (Addr × Obj)) ++ [] from hp) (by simp)⟩
theorem dcG_core {ob : Addr → HO} {rp : Addr → V → V → Hp → (Hp → Prop) → Prop} {kx vx tg iter : Expr} {ifs : List Expr} {scope : Scope} {own : List (Str × Nat)} {pos pos' : Pos} {wi : TI} {g : TG} {tt : TT} {tk tv : TE} {use : Option (Value → Sem Unit)} {Qf : Value → Shared → Prop}
    {pins : List (Addr × Obj)} {s : Shared} {σ : L2.St} {H : Hp} {Q : VK} (hob : DNew X.prog X.w ob)
    (hrp : ∀ (s : Shared) (H : Hp) (C : Addr) (cl : List (Str × Addr)) (fp : List Addr), DSet (X.blk s H scope (compEnvC scope cl C X.env) fp) rp) (hc : X.calm = true) (hN : X.N.Nodup) (I : Inv X pins σ H s) (hi : PI X tg iter wi) (ok : BlkOk X.N X.env.scope scope own)
    (hg : ∀ (s : Shared) (H : Hp) (C : Addr) (cl : List (Str × Addr)) (fp : List Addr), PG (X.blk s H scope (compEnvC scope cl C X.env) fp) tg g) (ht : ∀ (s : Shared) (H : Hp) (C : Addr) (cl : List (Str × Addr)) (fp : List Addr), PTs (X.blk s H scope (compEnvC scope cl C X.env) fp) ifs tt)
    (hk : ∀ (s : Shared) (H : Hp) (C : Addr) (cl : List (Str × Addr)) (fp : List Addr), PE (X.blk s H scope (compEnvC scope cl C X.env) fp) kx tk)
    (hv : ∀ (s : Shared) (H : Hp) (C : Addr) (cl : List (Str × Addr)) (fp : List Addr), PE (X.blk s H scope (compEnvC scope cl C X.env) fp) vx tv) (hs : ∀ x, foldedSetIterable iter X.env x = pure x)
    (h : tDcG ob rp wi g tt tk tv (own.map (·.2)) σ H Q) (hRR : ∀ D C s' m H', Inv X pins σ H' s' → Q (.ref D) H' → s'.heap.Ns C m → FpOk X pins H' C → compPost (model X.prog X.w) X.A X.xe use Qf (.ref D) C (.ok .next) s') :
    wpAny (model X.prog X.w) X.A (comprehension (.DictComp kx vx [⟨tg, iter, ifs, 0⟩] scope pos) scope X.env pos' newDict false (eval iter X.env) use) Qf X.xe s := by
  have hfree : ∀ y ∈ scope.names, y.2 = .free → ∃ c, X.env.cells.lookup y.1 = some c := fun y hy e => (ok.free y hy e).elim (fun q => I.ok.has _ (.inl q)) fun q => I.ok.has _ (.inr q)
  refine wpAny_comprehension_free (use := use) rfl hs (closure_ok hfree) ok.kind (fun y hy e => by rw [ok.uniq y hy, e]) (thn (hi.run pins s σ H _ I h) fun xv s1 hx => thn hx fun itv s2 ⟨it, fp, tn, J, H2, e, I2, T, st2, f2, q⟩ => ?_)
  subst e
  refine wpAny_newObj_type (newEnv_comp ?_)
  -- the dict that is made
  generalize hD : s2.heap.objs.size = D
  have hDn : H2 D = none := I2.hok.fresh (Nat.le_of_eq hD)
  obtain ⟨W, ⟨m0, w0⟩, turn⟩ := q D hDn
  generalize hs3 : ({ s2 with heap := s2.heap.push { cls := .type "dict", data := .dict #[] } } : Shared) = s3
  have h3 : s3.heap = s2.heap.push { cls := .type "dict", data := .dict #[] } := by rw [← hs3]
  have I3 : Inv X pins σ (upd H2 D (ob D)) s3 := by
    rw [← hs3, ← hD]
    exact I2.laid (t' := s2.toks) (fun b o e => Heap.get?_push_of_some _ e) (Nat.le_refl _) (hob _ s2.heap I2.big)
  have below : ∀ b ∈ fp, b < s2.heap.objs.size := fun b hb => let ⟨_, e, _⟩ := T.obj _ _ st2 b hb; Heap.lt_size e
  have f3 : ∀ b ∈ fp, FpOk X pins (upd H2 D (ob D)) b ∧ b < s3.heap.objs.size := fun b hb =>
    have hlt := below b hb
    ⟨⟨by rw [upd_ne (by rw [← hD]; exact Nat.ne_of_lt hlt)]; exact (f2 b hb).1, (f2 b hb).2⟩, by rw [h3, Heap.size_push]; exact Nat.lt_succ_of_lt hlt⟩
  have st3 : tn 0 s3.heap := T.keep _ _ _ st2 fun b _ o e => by rw [h3]; exact Heap.get?_push_of_some _ e
  have I4 := block_start I3 ok hN f3
  generalize hcl : cellsFrom (s3.heap.objs.size + 1) scope.names (cloFrom X.env.cells scope.names []) = cl at I4
  have pg := hg s3 (upd H2 D (ob D)) s3.heap.objs.size cl fp
  have pt := ht s3 (upd H2 D (ob D)) s3.heap.objs.size cl fp
  have pk := hk s3 (upd H2 D (ob D)) s3.heap.objs.size cl fp
  have pv := hv s3 (upd H2 D (ob D)) s3.heap.objs.size cl fp
  have pr := hrp s3 (upd H2 D (ob D)) s3.heap.objs.size cl fp
  have nfp : ∀ b ∈ fp, (upd H2 D (ob D)) b = none := fun b hb => (f3 b hb).1.1
  show codeAny _ _ (.compStart (.DictComp kx vx [⟨tg, iter, ifs, 0⟩] scope pos) 0 (.ref it) (.ref D) (compEnvC scope cl s3.heap.objs.size X.env)) (compPost (model X.prog X.w) X.A X.xe _ _ (.ref D) s3.heap.objs.size) { s3 with heap := pushCells (s3.heap.push { cls := .type "dict", data := .dict #[] }) scope.names }
  generalize hce : compEnvC scope cl s3.heap.objs.size X.env = ce at I4 pg pt pk pv pr ⊢
  have cL : ce.locals = s3.heap.objs.size := by subst hce; rfl
  generalize hH3 : upd H2 D (ob D) = H3 at I3 I4 pg pt pk pv pr w0 nfp f3
  generalize hs4 : ({ s3 with heap := pushCells (s3.heap.push { cls := .type "dict", data := .dict #[] }) scope.names } : Shared) = s4 at I4 ⊢
  have st4 : tn 0 s4.heap := T.keep _ _ _ st3 fun b _ o e => by rw [← hs4]; exact pushCells_keeps _ _ _ _ (Heap.get?_push_of_some _ e)
  suffices loop : codeAny (model X.prog X.w) X.A (.compLoop (.DictComp kx vx [⟨tg, iter, ifs, 0⟩] scope pos) 0 (.ref it) (.ref D) ce) (compPost (model X.prog X.w) X.A X.xe _ _ (.ref D) s3.heap.objs.size) s4 from
    codeAny_compStart_dict loop (T.self X.A 0 _ _ _ st4 loop)
  refine compLoop_anyD (fun n s' => ∃ i H', Inv (X.blk s3 H3 scope ce fp) [] (wipe σ (own.map (·.2))) H' s' ∧ tn i s'.heap ∧ (∀ b ∈ fp, H' b = none) ∧ W i n H') ?_ m0 ⟨0, H3, I4, st4, nfp, w0⟩
  rintro n s5 ⟨i, H5, I5, st5, n5, w5⟩
  rcases turn i n H5 w5 with ⟨stop, qq⟩ | ⟨go, Nx, hNx, step⟩
  · refine thnF (T.done (X.blk s3 H3 scope ce fp) rfl rfl rfl hc i [] s5 _ H5 (fun _ _ => False) I5 (blk_fp I5 n5) st5 stop) fun r s6 ⟨hr, I6⟩ => ?_
    subst hr
    have I7 : Inv X pins σ H5 s6 := I3.call' (ch := fp) I6.os I6.base I6.hok I6.bare fun b hb => let z := (f3 b hb).1.2; ⟨z.2.2.1, z.1, z.2.2.2.1, z.2.2.2.2⟩
    have nC : H5 s3.heap.objs.size = none := by
      rw [← cL]
      exact I6.free
    obtain ⟨m, hn, _⟩ := I6.loc
    have hn' : s6.heap.Ns s3.heap.objs.size m := by
      rw [← cL]
      exact hn
    exact hRR D s3.heap.objs.size s6 m H5 I7 qq hn' (I3.fpOk (Nat.le_refl _) nC)
  · refine thnF (T.item (X.blk s3 H3 scope ce fp) rfl rfl rfl hc i [] s5 _ H5 (fun _ _ => False) I5 (blk_fp I5 n5) st5 go) fun r s6 ⟨u, hr, h6⟩ => ?_
    subst hr
    refine thnF h6 fun _ s7 ⟨x, H7, I7, r7, y7, st7, n7⟩ => ?_
    refine thnF (pg.run _ s7 _ H7 x u _ (I7.pinned (blk_fp I7 n7) (T.obj _ _ st7)) r7 (step x H7 y7)) fun _ s8 ⟨σ8, H8, I8, hw8, q8⟩ => ?_
    refine thnF (pt.run _ s8 σ8 H8 _ I8 q8) fun b s9 ⟨H9, I9, q9⟩ => ?_
    have fin : ∀ {s' : Shared} {H' : Hp}, Inv (X.blk s3 H3 scope ce fp) ([] ++ pinsAt fp s7.heap) σ8 H' s' → Nx H' → ∃ m, m < n ∧ ∃ i H', Inv (X.blk s3 H3 scope ce fp) [] (wipe σ (own.map (·.2))) H' s' ∧ tn i s'.heap ∧ (∀ b ∈ fp, H' b = none) ∧ W i m H' := fun {s' H'} I' nx => by
      obtain ⟨m', hm, w'⟩ := hNx H' nx
      have pin' : ∀ b ∈ fp, ∀ o, s7.heap.get? b = some o → s'.heap.get? b = some o ∧ H' b = none := fun b hb o e =>
        have z := I'.pin (b, o) (List.mem_append_right _ (List.mem_append_right _ (mem_pinsAt hb e)))
        ⟨z.1, z.2.1⟩
      refine ⟨m', hm, i + 1, H', (I'.unpinned (pins := [])).weak (by rw [← hw8, wipe_length]) (fun j v e => ?_), T.keep _ _ _ st7 fun b hb o e => (pin' b hb o e).1, fun b hb => ?_, w'⟩
      · rw [← hw8] at e
        exact (wipe_some e).1
      · obtain ⟨o, e, _⟩ := T.obj _ _ st7 b hb
        exact (pin' b hb o e).2
    cases b with
    | false =>
      simp only [Bool.false_eq_true, if_false] at q9 ⊢
      exact fin I9 q9
    | true =>
      simp only [if_true] at q9 ⊢
      refine thnF (pk.run _ s9 σ8 H9 _ I9 q9) fun z s10 ⟨yk, H10, I10, r10, q10⟩ => ?_
      refine thnF (pv.run _ s10 σ8 H10 _ I10 q10) fun z2 s11 ⟨yv, H11, I11, r11, nx⟩ => ?_
      exact thnF (pr _ s11 σ8 H11 D yk yv z z2 Nx (fun _ _ => False) I11 r10 r11 nx) fun _ s12 ⟨H12, I12, q12⟩ => fin I12 q12
theorem pe_dcG {ob : Addr → HO} {rp : Addr → V → V → Hp → (Hp → Prop) → Prop} {kx vx tg iter : Expr} {ifs : List Expr} {scope : Scope} {own : List (Str × Nat)} {pos : Pos} {wi : TI} {g : TG} {tt : TT} {tk tv : TE} (hob : DNew X.prog X.w ob)
    (hrp : ∀ (s : Shared) (H : Hp) (C : Addr) (cl : List (Str × Addr)) (fp : List Addr), DSet (X.blk s H scope (compEnvC scope cl C X.env) fp) rp) (hc : X.calm = true) (hN : X.N.Nodup) (hi : PI X tg iter wi) (ok : BlkOk X.N X.env.scope scope own)
    (hg : ∀ (s : Shared) (H : Hp) (C : Addr) (cl : List (Str × Addr)) (fp : List Addr), PG (X.blk s H scope (compEnvC scope cl C X.env) fp) tg g) (ht : ∀ (s : Shared) (H : Hp) (C : Addr) (cl : List (Str × Addr)) (fp : List Addr), PTs (X.blk s H scope (compEnvC scope cl C X.env) fp) ifs tt)
    (hk : ∀ (s : Shared) (H : Hp) (C : Addr) (cl : List (Str × Addr)) (fp : List Addr), PE (X.blk s H scope (compEnvC scope cl C X.env) fp) kx tk)
    (hv : ∀ (s : Shared) (H : Hp) (C : Addr) (cl : List (Str × Addr)) (fp : List Addr), PE (X.blk s H scope (compEnvC scope cl C X.env) fp) vx tv) (hs : ∀ x, foldedSetIterable iter X.env x = pure x := by intro _; rfl) :
    PE X (.DictComp kx vx [⟨tg, iter, ifs, 0⟩] scope pos) (tDcG ob rp wi g tt tk tv (own.map (·.2))) := by
  refine ⟨fun pins s σ H Q I h => ?_⟩
  rw [arm_eval_DictComp]
  refine dcG_core hob hrp hc hN I hi ok hg ht hk hv hs h fun D C s' m H' I' q hn f => ⟨m, hn, fun h'' sb => ?_⟩
  obtain ⟨f0, f1, f2, f3, f4, f5⟩ := f
  exact ⟨.ref D, H', I'.turned (t' := s'.toks) (fun b o hb e => (sb.2 b hb).trans e) f0 f1 f3 f4 f5, rfl, q⟩
/-- y = {..} on one row -/
theorem ps_setDcG {ob : Addr → HO} {rp : Addr → V → V → Hp → (Hp → Prop) → Prop} {i : Nat} {y : Str} {py : Pos} {kx vx tg iter : Expr} {ifs : List Expr} {scope : Scope} {own : List (Str × Nat)} {pos spos : Pos} {wi : TI} {g : TG} {tt : TT} {tk tv : TE} (hob : DNew X.prog X.w ob)
    (hrp : ∀ (s : Shared) (H : Hp) (C : Addr) (cl : List (Str × Addr)) (fp : List Addr), DSet (X.blk s H scope (compEnvC scope cl C X.env) fp) rp) (hc : X.calm = true) (hN : X.N.Nodup) (hy : X.N[i]? = some y) (hyl : X.env.scope.names.lookup y = some .local)
    (hsw : swapsWith (.DictComp kx vx [⟨tg, iter, ifs, 0⟩] scope pos) (some (.Name y py)) spos.line X.env = pure true) (hi : PI X tg iter wi) (ok : BlkOk X.N X.env.scope scope own)
    (hg : ∀ (s : Shared) (H : Hp) (C : Addr) (cl : List (Str × Addr)) (fp : List Addr), PG (X.blk s H scope (compEnvC scope cl C X.env) fp) tg g) (ht : ∀ (s : Shared) (H : Hp) (C : Addr) (cl : List (Str × Addr)) (fp : List Addr), PTs (X.blk s H scope (compEnvC scope cl C X.env) fp) ifs tt)
    (hk : ∀ (s : Shared) (H : Hp) (C : Addr) (cl : List (Str × Addr)) (fp : List Addr), PE (X.blk s H scope (compEnvC scope cl C X.env) fp) kx tk)
    (hv : ∀ (s : Shared) (H : Hp) (C : Addr) (cl : List (Str × Addr)) (fp : List Addr), PE (X.blk s H scope (compEnvC scope cl C X.env) fp) vx tv) (hs : ∀ x, foldedSetIterable iter X.env x = pure x := by intro _; rfl) :
    PS X (.Assign [.Name y py] (.DictComp kx vx [⟨tg, iter, ifs, 0⟩] scope pos) spos) (tAsg (tDcG ob rp wi g tt tk tv (own.map (·.2))) (gName i)) := by
  refine ⟨fun pins s σ H D I h => ?_⟩
  rw [exec_Assign_Name_used _ _ _ _ hsw]
  refine wpAny_bind (wpAny_standAt (wpAny_bind ?_))
  show wpAny _ X.A (do let _ ← comprehension (.DictComp kx vx [⟨tg, iter, ifs, 0⟩] scope pos) scope X.env (firstIterPos [⟨tg, iter, ifs, 0⟩] pos) newDict false (eval iter X.env) (some (assign (.Name y py) X.env))) _ _ s
  have h : tDcG ob rp wi g tt tk tv (own.map (·.2)) σ H (fun x H1 => gName i x σ H1 D.nx) := h
  refine wpAny_bind (thn (dcG_core (Qf := fun _ s' => SP X pins D .next s') hob hrp hc hN I hi ok hg ht hk hv hs h fun L C s' m H' I' q hn f => ?_) fun _ s' hq => wpAny_pure (wpAny_pure hq))
  show wpAny _ _ (assign (.Name y py) X.env (.ref L)) _ _ _
  refine wpAny_assign_Name (store_ok2 (v := V.ref L) I' hN hy (.inl hyl) rfl (fun s2 I2 ⟨a, sb, ha⟩ => ?_) (.inr hyl))
  obtain ⟨f0, f1, f2, f3, f4, f5⟩ := f
  have haC : C ≠ a := by
    rcases ha with z | z
    · rw [z]; exact f1
    · exact fun e => f4 y a z e.symm
  exact ⟨m, hn.sameBut sb haC, fun h3 sb3 => ⟨_, H', I2.turned (t' := s2.toks) (fun b o hb e => (sb3.2 b hb).trans e) f0 f1 f3 f4 f5, q⟩⟩
end
/-! of dN dicts -/
section
variable {X : Cx}
def rDset (K : PySem.W.Frag) (P : Program) (w : World) : Addr → V → V → Hp → (Hp → Prop) → Prop := fun D y z H Q => ∃ L b k, y = .ref b ∧ H D = some (dN P w D L) ∧ DAt K P w H D L ∧ KOk K H k b ∧ L.length < sizeLine ∧ (∀ r ∈ L, r.1.depth ≤ 8) ∧ k.depth ≤ 8 ∧ Q (upd H D (dN P w D (storN L k b z)))
theorem dset_N {k : Nat} (hr : Room k X.A) : DSet X (rDset X.K X.prog X.w) := by
  intro pins s σ H D y z u r Q E I ry rz h
  obtain ⟨L, b, k, rfl, hw, DA, kb, lt, dd, dk, q⟩ := h
  obtain rfl : u = Value.ref b := ry
  obtain ⟨hd, hl, xs, hp, hm⟩ := DA.get I
  have un := hr.un
  refine wpAny_dictSet_heap (hsz := by rw [← paired_len hp]; exact hl) (show X.A.units + 8 < cLine by omega) (kb.at I) hm fun h' hm' hs => ?_
  obtain ⟨ob, es, ep, e1, e2, e3, e4, e5, e6⟩ := hm'
  have sl := stor_len L k b z
  exact ⟨_, I.write (x := D) (e := D) (o := dN X.prog X.w D (storN L k b z)) (by rw [hw]; trivial) (.inl rfl) (fun c y hc hy => (hs.2 c hc).trans hy) ⟨_, e1⟩
    ⟨⟨hd, by omega, stor_key dd dk, _, paired_stor rz hp, ob, es, ep, e1, e2, e3, e4, e6⟩, ⟨_, e1⟩, fun h1 h2 ⟨u1, u2, u3, ys, u4, o', es', ep', u5, u6⟩ kp => ⟨u1, u2, u3, ys, u4, o', es', ep', kp o' u5, u6⟩⟩, q⟩
end
/-! in the plain semantics -/
def dcG (nth : Nth) (put : XP) (cond : XT) (kx vx : XE) (D : Nat) (δ : Env) : Nat → Nat → Sto → Rs Va
  | 0, _, _ => .bad
  | n + 1, i, S => match nth S i with
    | none => .bad
    | some none => .ok (.loc D) S
    | some (some w) => match put w δ with
      | none => .bad
      | some δ1 => match cond δ1 S with
        | .ok false S1 => dcG nth put cond kx vx D δ n (i + 1) S1
        | .ok true S1 => match kx δ1 S1 with
          | .ok y S2 => match vx δ1 S2 with
            | .ok z S3 => match S3[D]?, keyT y with
              | some (.dct kvs), some k => bif fits (kvs.length + 1) then dcG nth put cond kx vx D δ n (i + 1) (S3.set D (.dct (stD kvs y k z))) else .bad
              | _, _ => .bad
            | _ => .bad
          | _ => .bad
        | _ => .bad
@[simp] def xdcomp (vs : List Nat) (x : XI) (put : XP) (cond : XT) (kx vx : XE) : XE := fun δ S => (x δ S).bind fun a S1 => dcG a.2 put cond kx vx S1.length (wipeE δ vs) a.1 0 (S1 ++ [.dct []])
section
variable {X : Cx} {g : G} {Wx : WX} {k : Nat} {pos : Pos}
theorem dcomp_in {xi : XI} {put : XP} {sl : List Nat} {cond : XT} {kx vx : XE} {vs : List Nat} (hsl : ∀ j ∈ sl, j ∈ vs) (σ : L2.St) (H : Hp) (Q : VK) (h0 : tE g Wx (xdcomp vs xi put cond kx vx) σ H Q) :
    tDcG (fun D => dN g.P g.w D []) (rDset g.K g.P g.w) (tI g Wx xi) (tP g put sl) (tQ g WF cond) (tE g WF kx) (tE g WF vx) vs σ H Q := by
  obtain ⟨δ, S, ρ, sm, se, h⟩ := h0
  refine ⟨δ, S, ρ, sm, se, ?_⟩
  unfold xdcomp at h
  cases q : xi δ S with
  | bad => rw [q] at h; exact h
  | ex c fs S' => rw [q] at h; exact h
  | ok a0 S0 =>
    rw [q] at h
    have h' : wpR g Wx σ (Rel g) ρ H (dcG a0.2 put cond kx vx S0.length (wipeE δ vs) a0.1 0 (S0 ++ [.dct []])) Q := h
    intro ρ0 H0 J e0 s0 ok D hD
    obtain ⟨s1, e1⟩ := s0.laid (o := .dct []) (u := dN g.P g.w D []) hD (fun ρ' H' e q => ⟨[], q, .nil, .nil, rfl, fun r hr => nomatch hr⟩) rfl
    have hDl : (ρ0 ++ [D])[S0.length]? = some D := by rw [s0.len]; simp
    refine ⟨fun i m H2 => ∃ S ρ, Ext g (ρ0 ++ [D]) (upd H0 D (dN g.P g.w D [])) ρ H2 ∧ Sim g ρ S H2 ∧ wpR g Wx σ (Rel g) ρ H2 (dcG a0.2 put cond kx vx S0.length (wipeE δ vs) m i S) Q, ⟨a0.1, _, _, .refl, s1, wpR.ext (e0.trans e1) h'⟩, ?_⟩
    rintro i m H2 ⟨S2, ρ2, e2, s2, hw⟩
    cases m with
    | zero => exact hw.elim
    | succ m =>
      obtain ⟨k3, k4⟩ := ok i S2 ρ2 H2 (e1.trans e2) s2
      unfold dcG at hw
      cases hn : a0.2 S2 i with
      | none => rw [hn] at hw; exact hw.elim
      | some ow =>
        rw [hn] at hw
        cases ow with
        | none => exact .inl ⟨k3 hn, hw.fin s2 (.loc (e2.at hDl))⟩
        | some w =>
          obtain ⟨g1, g2⟩ := k4 w hn
          refine .inr ⟨g1, fun H' => ∃ S ρ, Ext g (ρ0 ++ [D]) (upd H0 D (dN g.P g.w D [])) ρ H' ∧ Sim g ρ S H' ∧ wpR g Wx σ (Rel g) ρ H' (dcG a0.2 put cond kx vx S0.length (wipeE δ vs) m (i + 1) S) Q, fun H' hh => ⟨m, Nat.lt_succ_self m, hh⟩, fun x H' y => ?_⟩
          obtain ⟨ey, sy, rx⟩ := g2 x H' y
          dsimp only at hw
          cases hp : put w (wipeE δ vs) with
          | none => rw [hp] at hw; exact hw.elim
          | some δ3 =>
            rw [hp] at hw
            dsimp only at hw
            have ew : Ext g ρ H ρ2 H' := ((e0.trans e1).trans e2).trans ey
            replace e2 := e2.trans ey
            replace hw := wpR.ext ey hw
            refine ⟨wipeE δ vs, w, ρ2, δ3, rx, (se.mono ew).wipe vs, hp, fun σ3 se3 hl3 hs3 => ⟨wipe_same (by rw [hl3, wipe_length]) hs3 hsl, δ3, S2, ρ2, sy, se3, ?_⟩⟩
            cases hc : cond δ3 S2 with
            | bad => rw [hc] at hw; exact hw.elim
            | ex c fs S' => rw [hc] at hw; exact hw.elim
            | ok t S3 =>
              rw [hc] at hw
              intro ρ3 H3 t' e3 s3 rt
              cases rt
              cases t with
              | false => exact ⟨S3, ρ3, e2.trans e3, s3, wpR.ext e3 hw⟩
              | true =>
                dsimp only at hw
                refine ⟨δ3, S3, ρ3, s3, se3.mono e3, ?_⟩
                cases he : kx δ3 S3 with
                | bad => rw [he] at hw; exact hw.elim
                | ex c fs S' => rw [he] at hw; exact hw.elim
                | ok y S4 =>
                  rw [he] at hw
                  dsimp only at hw
                  intro ρ4 H4 yk e4 s4 rk
                  refine ⟨δ3, S4, ρ4, s4, se3.mono (e3.trans e4), ?_⟩
                  cases hv : vx δ3 S4 with
                  | bad => rw [hv] at hw; exact hw.elim
                  | ex c fs S' => rw [hv] at hw; exact hw.elim
                  | ok z S5 =>
                    rw [hv] at hw
                    dsimp only at hw
                    intro ρ5 H5 zv e5 s5 rz
                    split at hw
                    · rename_i kvs kk hacc hkey
                      by_cases hz : fits (kvs.length + 1) = true
                      · rw [hz] at hw
                        have hD5 := (e2.trans (e3.trans (e4.trans e5))).at hDl
                        obtain ⟨L, q1, t1, t2, t3, dd⟩ := s5.ats _ _ _ hacc hD5
                        have rk' := rk.mono e5
                        obtain ⟨b', rfl, kb, nk⟩ := keyT_ok rk' hkey
                        have ll := len_kvs t1
                        have kd : kk.depth ≤ 8 := let ⟨_, _, _, _, d⟩ := kb; d
                        obtain ⟨s6, e6⟩ := s5.put (o' := .dct (stD kvs y kk z)) (u := dN g.P g.w D (storN L kk b' zv)) hacc hD5 rfl rfl fun H' e' q' => by
                          obtain ⟨u1, u2, u3⟩ := stD_ok (rk'.mono e') nk (rz.mono e') (t1.mono e') (t2.mono e') t3
                          exact ⟨_, q', u1, u2, u3, stor_key dd kd⟩
                        refine ⟨L, b', kk, rfl, q1, dat_keys (.inl q1) t1 t3 dd, kb, by rw [← ll]; exact fits_iff.mp hz, dd, kd, _, ρ5, e2.trans (e3.trans (e4.trans (e5.trans e6))), s6, wpR.ext (e3.trans (e4.trans (e5.trans e6))) hw⟩
                      · rw [Bool.not_eq_true _ |>.mp hz] at hw
                        exact hw.elim
                    · exact hw.elim
/-- {kx: vx for tg in it} -/
theorem se_dcomp (o : XO X g Wx k) (own : List (Str × Nat)) {tg it ke ve : Expr} {ifs : List Expr} {scope : Scope} {xi : XI} {put : XP} {sl : List Nat} {cond : XT} {kx vx : XE} (hi : SI X g Wx tg it xi) (ok : BlkOk X.N X.env.scope scope own)
    (hg : ∀ (s : Shared) (H : Hp) (C : Addr) (cl : List (Str × Addr)) (fp : List Addr), XO (X.blk s H scope (compEnvC scope cl C X.env) fp) g WF k → SG (X.blk s H scope (compEnvC scope cl C X.env) fp) g tg put sl)
    (ht : ∀ (s : Shared) (H : Hp) (C : Addr) (cl : List (Str × Addr)) (fp : List Addr), XO (X.blk s H scope (compEnvC scope cl C X.env) fp) g WF k → PTs (X.blk s H scope (compEnvC scope cl C X.env) fp) ifs (tQ g WF cond))
    (hk : ∀ (s : Shared) (H : Hp) (C : Addr) (cl : List (Str × Addr)) (fp : List Addr), XO (X.blk s H scope (compEnvC scope cl C X.env) fp) g WF k → SE (X.blk s H scope (compEnvC scope cl C X.env) fp) g WF ke kx)
    (hv : ∀ (s : Shared) (H : Hp) (C : Addr) (cl : List (Str × Addr)) (fp : List Addr), XO (X.blk s H scope (compEnvC scope cl C X.env) fp) g WF k → SE (X.blk s H scope (compEnvC scope cl C X.env) fp) g WF ve vx)
    (hsl : ∀ j ∈ sl, j ∈ own.map (·.2) := by decide) (hs : ∀ x, foldedSetIterable it X.env x = pure x := by intro _; rfl) : SE X g Wx (.DictComp ke ve [⟨tg, it, ifs, 0⟩] scope pos) (xdcomp (own.map (·.2)) xi put cond kx vx) :=
  pe_imp (pe_dcG (ob := fun D => dN X.prog X.w D []) (rp := rDset X.K X.prog X.w) (fun H h hb => dN_new h hb) (fun s H C cl fp => dset_N (o.blk s H scope _ fp).room) o.calm o.nd hi ok (fun s H C cl fp => hg s H C cl fp (o.blk ..)) (fun s H C cl fp => ht s H C cl fp (o.blk ..)) (fun s H C cl fp => hk s H C cl fp (o.blk ..)) (fun s H C cl fp => hv s H C cl fp (o.blk ..)) hs)
    (by have q := dcomp_in (g := g) (Wx := Wx) (xi := xi) (put := put) (cond := cond) (kx := kx) (vx := vx) hsl; rw [o.gP, o.gw, o.K] at q; exact q)
end
end Rz
namespace Rz
open PySem PySem.Spec PyProof.Rows L2 PySem.W
/-! ### sorted(d), list(d) -/
section
variable {X : Cx} {k : Nat} {pins : List (Addr × Obj)} {σ : L2.St} {H : Hp} {s : Shared} {d : Addr} {L : List (NestedKey × Addr × V)}
theorem dN_ents (I : Inv X pins σ H s) (h : Rd H d (dN X.prog X.w d L)) : (d == sysModules) = false ∧ L.length ≤ sizeLine ∧ ∃ (es : Array DictEntry) (ep : Nat), s.heap.DictRaw d es ep ∧ es.size = L.length ∧ ∀ (i : Nat) (hi : i < es.size), ∃ r, L[i]? = some r ∧ es[i].key = .ref r.2.1 := by
  obtain ⟨⟨h1, h2, h3, xs, pr, o, es, ep, ho, hx, hdt, he, _⟩, _, _⟩ := h.ok I.hok
  have l1 : es.size = xs.length := size_of_entries he
  have l2 : L.length = xs.length := paired_len pr
  refine ⟨h1, h2, es, ep, ⟨o, ho, hx, hdt⟩, by omega, fun i hi => ?_⟩
  have hiL : i < L.length := by omega
  obtain ⟨b, hb, e1, e2, e3⟩ := paired_get pr (List.getElem?_eq_getElem hiL)
  have q := entry_at he i
  rw [hb, Array.getElem?_eq_getElem hi] at q
  exact ⟨_, List.getElem?_eq_getElem hiL, by rw [Option.some.inj q, e2]; rfl⟩
theorem keys_vals {es : Array DictEntry} {acc : List Value} (hz : es.size = L.length) (en : ∀ (i : Nat) (hi : i < es.size), ∃ r, L[i]? = some r ∧ es[i].key = .ref r.2.1) (hl : acc.length = es.size) (ha : ∀ j v, acc[j]? = some v → ∃ hi : j < es.size, v = es[j].key) : Vals (L.map fun r => V.ref r.2.1) acc := by
  have e : acc = L.map fun r => Value.ref r.2.1 := by
    refine List.ext_getElem? fun j => ?_
    by_cases hj : j < acc.length
    · obtain ⟨hi, e1⟩ := ha j acc[j] (List.getElem?_eq_getElem hj)
      obtain ⟨r, e2, e3⟩ := en j hi
      rw [List.getElem?_eq_getElem hj, List.getElem?_map, e2, e1, e3]
      rfl
    · rw [List.getElem?_eq_none (by omega), List.getElem?_eq_none (by rw [List.length_map]; omega)]
  rw [e]
  clear e hl ha hz en
  induction L with
  | nil => exact .nil
  | cons r L ih => exact .cons rfl ih
def rSrtD (K : PySem.W.Frag) (P : Program) (w : World) : List V → Hp → VK → Prop := fun xs H Q => ∃ (β : Type) (a : Addr) (L : List (NestedKey × Addr × V)) (bs : List β) (f : β → V) (d : β → PyData), xs = [.ref a] ∧ Rd H a (dN P w a L) ∧ L.map (fun r => V.ref r.2.1) = bs.map f ∧ Sx.DList K H bs f d ∧ ∀ p, H p = none → Q (.ref p) (upd H p (.lst ((bs.mergeSort (Sx.dle d)).map f)))
theorem cr_srtD (hr : Room k X.A) (hc : X.calm = true) : CallR X (.builtin "sorted") (rSrtD X.K X.prog X.w) := by
  intro pins s σ H xs us Q I rv h
  obtain ⟨β, a, L, bs, f, d, rfl, ha, ef, D, q⟩ := h
  obtain ⟨u, rfl, ru⟩ := vals1 rv
  obtain rfl : u = Value.ref a := ru
  have un := hr.un
  obtain ⟨lo, lz, es, ep, raw, hz, en⟩ := dN_ents I ha
  refine Calls.call_function_entry kind_sorted plain_sorted entry_sorted (args_sorted1 _) ?_
  unfold Builtin.«sorted»
  refine wpAny_bind (m := checkCount "sorted" 1 1 _) (wpAny_pure ?_)
  refine wpAny_bind (kdu_collect (A := X.A.in1) (KdlSrc.rawDict lo) (I.ok.hd hc) raw (by rw [hz]; exact lz) fun h' tk acc hk hacc => ?_)
  have r0 : Vals (bs.map f) acc.toList := by
    rw [← ef]
    exact keys_vals hz en (by rw [Array.length_toList]; exact hacc.1) fun j v e => hacc.2 j v (by rw [← Array.getElem?_toList]; exact e)
  have lv : acc.toList.length ≤ sizeLine := by rw [Array.length_toList, hacc.1, hz]; exact lz
  generalize acc.toList = vs at r0 lv ⊢
  have I1 : Inv X pins σ H { s with heap := h', toks := tk } := I.kept hk
  refine wpAny_bind (wpAny_newList ?_ lv)
  have hoL : (h'.push (seqObj "list" vs.toArray 0)).get? h'.objs.size = some (seqObj "list" vs.toArray 0) := Heap.get?_push_size _ rfl
  have old : ∀ b u, h'.get? b = some u → b ≠ h'.objs.size ∧ (h'.push (seqObj "list" vs.toArray 0)).get? b = some u := fun b u e => ⟨Nat.ne_of_lt (Heap.lt_size e), Heap.get?_push_of_some _ e⟩
  have rd := Sx.reads_all (h' := sortingHeap (h'.push (seqObj "list" vs.toArray 0)) h'.objs.size vs) I1 D.dp r0 fun b u e => sortingHeap_old (old b u e).1 (old b u e).2
  refine wpAny_bind (wpAny_holding (wpAny_call_entry (s := { s with heap := h'.push (seqObj "list" vs.toArray 0), toks := tk }) slot_list_sort ⟨_, hoL, rfl⟩ entry_list_sort (list_sort_vals (s := { s with heap := h'.push (seqObj "list" vs.toArray 0), toks := tk }) hoL (SortsAt.data rd D.alike D.sort fun y hy => ?_) lv ⟨_, rfl, ?_⟩) (args_list_sort _)))
  · obtain ⟨b, hb, rfl⟩ := List.mem_map.mp hy
    have := D.deep b hb
    simp only [Around.in1_units]
    omega
  · have ko : KeyedOut false (bs.map d) vs (sortVals (dataKind (sortingHeap (h'.push (seqObj "list" vs.toArray 0)) h'.objs.size vs) (bs.map d)) false vs vs) := ⟨_, vs, D.alike, rfl, rd⟩
    have out := Sx.vals_each (keyedOut_each (R := fun u b => RelV (f b) u) d ko (Sx.each_vals r0))
    generalize sortVals (dataKind (sortingHeap (h'.push (seqObj "list" vs.toArray 0)) h'.objs.size vs) (bs.map d)) false vs vs = ws at out ⊢
    obtain ⟨c, hcc⟩ := sortedHeap_at (vs := vs) (out := ws.toArray) hoL
    have lw : ((bs.mergeSort (Sx.dle d)).map f).length ≤ sizeLine := by
      rw [List.length_map, List.length_mergeSort, ← List.length_map (f := f), ← ef, List.length_map]
      exact lz
    refine wpAny_pure ⟨_, rfl, .ref h'.objs.size, upd H h'.objs.size (.lst ((bs.mergeSort (Sx.dle d)).map f)), I1.laid (t' := tk) (fun b u e => ?_) (Nat.le_refl _) ⟨lw, ws, c, out, hcc⟩, rfl, q _ (I1.hok.fresh (Nat.le_refl _))⟩
    rw [sortedHeap_old (Nat.ne_of_lt (Heap.lt_size e)) (by rw [size_push']; exact Nat.lt_succ_of_lt (Heap.lt_size e))]
    exact (old b u e).2
def rListD (P : Program) (w : World) : List V → Hp → VK → Prop := fun xs H Q => ∃ (a : Addr) (L : List (NestedKey × Addr × V)), xs = [.ref a] ∧ Rd H a (dN P w a L) ∧ ∀ p, H p = none → Q (.ref p) (upd H p (.lst (L.map fun r => V.ref r.2.1)))
theorem cr_listD (hc : X.calm = true) : CallR X (.type "list") (rListD X.prog X.w) := by
  intro pins s σ H xs us Q I rv h
  obtain ⟨a, L, rfl, ha, q⟩ := h
  obtain ⟨u, rfl, ru⟩ := vals1 rv
  obtain rfl : u = Value.ref a := ru
  obtain ⟨lo, lz, es, ep, raw, hz, en⟩ := dN_ents I ha
  refine kdl_call (KdlSrc.rawDict lo) (I.ok.hd hc) raw (by rw [hz]; exact lz) fun h' tk acc c hk ho hacc => ?_
  have r0 : Vals (L.map fun r => V.ref r.2.1) acc.toList := keys_vals hz en (by rw [Array.length_toList]; exact hacc.1) fun j v e => hacc.2 j v (by rw [← Array.getElem?_toList]; exact e)
  refine ⟨.ref s.heap.objs.size, upd H s.heap.objs.size (.lst (L.map fun r => V.ref r.2.1)), I.laid (t' := tk) hk (Nat.le_refl _) ⟨by rw [List.length_map]; exact lz, acc.toList, c, r0, ?_⟩, rfl, q _ (I.hok.fresh (Nat.le_refl _))⟩
  exact ho
end
def fSrtD (ws : List Va) (S : Sto) : Rs Va := match ws with
  | [w] => match dctAt w S with
    | some kvs => bif sortV (kvs.map Prod.fst) then llst (vsort (kvs.map Prod.fst)) S else .bad
    | none => .bad
  | _ => .bad
def fListD (ws : List Va) (S : Sto) : Rs Va := match ws with
  | [w] => match dctAt w S with
    | some kvs => llst (kvs.map Prod.fst) S
    | none => .bad
  | _ => .bad
section
variable {g : G}
theorem cs_srtD : CalS g (rSrtD g.K g.P g.w) fSrtD := fun Wx σ ρ S H ws vs Q sm rl h => by
  unfold fSrtD at h
  split at h
  · rename_i w
    cases rl with
    | cons ra rn =>
      cases rn
      cases e : dctAt w S with
      | none => rw [e] at h; exact h.elim
      | some kvs =>
        rw [e] at h
        dsimp only at h
        obtain ⟨l, p, L, rfl, rfl, hp, D, rl, r2, _⟩ := dct_at sm ra e
        generalize et : L.map (fun r => V.ref r.2.1) = ts at rl
        generalize eu : kvs.map Prod.fst = us at rl h
        by_cases z : sortV us = true
        · rw [z] at h
          unfold sortV at z
          simp only [Bool.and_eq_true] at z
          obtain ⟨⟨z1, z2⟩, z3⟩ := z
          have mem : ∀ q ∈ us.zip ts, q.1 ∈ us := fun q hq => (List.of_mem_zip hq).1
          have srt : Sortable ((us.zip ts).map fun q => dat q.1) := by
            rcases Bool.or_eq_true _ _ ▸ z2 with z2 | z2
            · exact sort_tp z2 mem
            · exact sort_no z2 (alikeV_iff.mp z1).1 mem
          have rp : RelL g ρ H (vsort us) (((us.zip ts).mergeSort (Sx.dle fun q => dat q.1)).map Prod.snd) := by
            have := RelL.of_pairs (g := g) (ρ := ρ) (H := H) (l := (us.zip ts).mergeSort (Sx.dle fun q => dat q.1)) fun q hq => RelL.pairs rl q (List.mem_mergeSort.mp hq)
            rwa [pairs_sort, rl.fst] at this
          refine ⟨Va × V, p, L, us.zip ts, Prod.snd, fun q => dat q.1, rfl, D.at_, ?_, ⟨fun q hq => dat_ok _ _ (purs_mem (alikeV_iff.mp z1).1 _ (mem q hq)) (RelL.pairs rl q hq), alike_of z1 mem, srt, fun q hq => ?_⟩, (new_lst sm rp h).2⟩
          · rw [rl.snd]
            exact et
          · exact of_decide_eq_true (List.all_eq_true.mp z3 _ (mem q hq))
        · rw [Bool.not_eq_true _ |>.mp z] at h
          exact h.elim
  · exact h.elim
theorem cs_listD : CalS g (rListD g.P g.w) fListD := fun Wx σ ρ S H ws vs Q sm rl h => by
  unfold fListD at h
  split at h
  · rename_i w
    cases rl with
    | cons ra rn =>
      cases rn
      cases e : dctAt w S with
      | none => rw [e] at h; exact h.elim
      | some kvs =>
        rw [e] at h
        obtain ⟨l, p, L, rfl, rfl, hp, D, rl, r2, _⟩ := dct_at sm ra e
        exact ⟨p, L, rfl, D.at_, (new_lst sm rl h).2⟩
  · exact h.elim
end
section
variable {X : Cx} {g : G} {Wx : WX} {k : Nat} {pos : Pos} {a : Expr} {r : XA}
theorem se_srtD (o : XO X g Wx k) {p : Pos} (hm : X.mg "sorted" = none) (ha : SA X g Wx [a] r) (hg : Gl X "sorted" := by rfl) (he : starEach [a] X.env = (false, eval a X.env) :: starEach [] X.env := by rfl) : SE X g Wx (.Call (.Name "sorted" p) [a] [] pos) (xcall fSrtD r) :=
  se_callB (cr_srtD o.room o.calm) (by have q := cs_srtD (g := g); rw [o.gP, o.gw, o.K] at q; exact q) hm ha hg (he := he)
theorem se_listD (o : XO X g Wx k) {p : Pos} (hm : X.mg "list" = none) (ha : SA X g Wx [a] r) (hg : Gl X "list" := by rfl) (he : starEach [a] X.env = (false, eval a X.env) :: starEach [] X.env := by rfl) : SE X g Wx (.Call (.Name "list" p) [a] [] pos) (xcall fListD r) :=
  se_callT (cr_listD o.calm) (by have q := cs_listD (g := g); rw [o.gP, o.gw] at q; exact q) hm ha hg (he := he)
end
end Rz
namespace Rz
open PySem PySem.Spec PyProof.Rows L2 PySem.W
/-! ### d == e, keys of nested data -/
section
variable {prog : Program} {w : World} {A : Around} {E : Value → Shared → Prop} {s : Shared}
abbrev EN := NestedKey × Addr × Value
/-- what the pairs of one dict meet in the other -/
inductive HitsN (prog : Program) (w : World) (A : Around) (s : Shared) (xb : List EN) : List EN → Bool → Prop
  | nil : HitsN prog w A s xb [] true
  | miss {x : EN} {r : List EN} (h : atKey xb x.1 = none) : HitsN prog w A s xb (x :: r) false
  | hit {x : EN} {r : List EN} {p : Addr × Value} {e b : Bool} (h : atKey xb x.1 = some p) (q : SeqAt.EqP prog w A s x.2.2 p.2 e) (rest : HitsN prog w A s xb r b) : HitsN prog w A s xb (x :: r) (e && b)
theorem atKey_at {xs : List EN} (nd : (xs.map (·.1)).Nodup) {j : Nat} {x : EN} (h : xs[j]? = some x) : atKey xs x.1 = some x.2 := by
  unfold atKey
  induction xs generalizing j with
  | nil => cases h
  | cons y xs ih =>
    rw [List.map_cons, List.nodup_cons] at nd
    rw [List.find?_cons]
    cases j with
    | zero =>
      cases h
      rw [decide_eq_true rfl]
      rfl
    | succ j =>
      have h' : xs[j]? = some x := h
      have m : x.1 ∈ xs.map (·.1) := List.mem_map.mpr ⟨x, List.mem_of_getElem? h', rfl⟩
      rw [decide_eq_false (fun z : y.1 = x.1 => nd.1 (by rw [z]; exact m))]
      exact ih nd.2 h'
theorem atKey_no {xs : List EN} {k : NestedKey} (h : ∀ (j : Nat) (p : Addr × Value), xs[j]? ≠ some (k, p)) : atKey xs k = none := by
  unfold atKey
  rw [Option.map_eq_none_iff, List.find?_eq_none]
  intro x hx
  obtain ⟨j, hj, e⟩ := List.getElem_of_mem hx
  rw [decide_eq_true_eq]
  intro z
  exact h j x.2 (by rw [List.getElem?_eq_getElem hj, e, ← z])
theorem pairsN {nm : String} {a b : Addr} {xa xb : List EN} {r : Bool} {Q : Bool → Shared → Prop} (la : (a == sysModules) = false) (lb : (b == sysModules) = false)
    (da : s.heap.DictOfH (nestedKind prog w) a xa) (db : s.heap.DictOfH (nestedKind prog w) b xb) (hu : A.units + 8 < cLine) (hits : xa.length = xb.length → HitsN prog w A s xb xa r) (h : Q (xa.length == xb.length && r) s) :
    wpAny (model prog w) A (Builtin.Dict.samePairs nm a b) Q E s := by
  obtain ⟨oa, es, ep, hoa, _, hda, hea, hka, _⟩ := da
  obtain ⟨ob, es', ep', hob, _, hdb, heb, hkb, nb⟩ := db
  have za : es.size = xa.length := size_of_entries hea
  have zb : es'.size = xb.length := size_of_entries heb
  unfold Builtin.Dict.samePairs Builtin.Dict.showsAll
  rw [if_neg (show ¬ (a == sysModules) = true by rw [la]; exact Bool.false_ne_true), if_neg (show ¬ (b == sysModules) = true by rw [lb]; exact Bool.false_ne_true)]
  refine wpAny_bind (wpAny_pure (wpAny_bind (wpAny_pure ?_)))
  refine wpAny_bind (wpAny_dictEntries hoa hda ?_)
  dsimp only
  refine wpAny_bind (wpAny_dictEntries hob hdb ?_)
  by_cases hz : es.size = es'.size
  case neg =>
    rw [if_pos (by simpa using hz)]
    have no : (xa.length == xb.length) = false := by rw [← za, ← zb]; simpa using hz
    rw [no, Bool.false_and] at h
    exact wpAny_bind (wpAny_rule (wpAny_pure h))
  case pos =>
    have yes : xa.length = xb.length := by rw [← za, ← zb]; exact hz
    have hq : Q r s := by simpa [yes] using h
    have met := hits yes
    rw [if_neg (by rw [hz]; simp)]
    refine wpAny_bind (wpAny_dictEpoch hoa hda ?_)
    refine wpAny_bind ?_
    rw [Std.Legacy.Range.forIn_eq_forIn_range']
    simp only [Std.Legacy.Range.size, Nat.sub_zero, Nat.add_sub_cancel, Nat.div_one]
    have step : ∀ i, i < es.size → List.range' i (es.size - i) = i :: List.range' (i + 1) (es.size - (i + 1)) := fun i hi => by
      rw [show es.size - i = (es.size - (i + 1)) + 1 by omega, List.range'_succ]
    refine wpAny_forIn_list _ (fun rest q s' => s' = s ∧ q = (none, ()) ∧ ∃ i, rest = List.range' i (es.size - i) ∧ i ≤ es.size ∧ HitsN prog w A s xb (xa.drop i) r) _ ?_ ?_ _ _ ⟨rfl, rfl, 0, by simp, Nat.zero_le _, met⟩
    · rintro x rest q s' ⟨rfl, rfl, i, hr, hi, hp⟩
      have hlt : i < es.size := by
        rcases Nat.lt_or_ge i es.size with z | z
        · exact z
        · rw [Nat.sub_eq_zero_of_le z] at hr
          cases hr
      rw [step i hlt] at hr
      obtain ⟨rfl, hrest⟩ := List.cons.inj hr
      have hx : x < xa.length := by rw [← za]; exact hlt
      have ent : es[x] = entryOfKey (nestedKind prog w) xa[x] := by
        have z := entry_at hea x
        rw [Array.getElem?_eq_getElem hlt, List.getElem?_eq_getElem hx] at z
        exact Option.some.inj z
      rw [List.drop_eq_getElem_cons hx] at hp
      have key : (nestedKind prog w).is s'.heap xa[x].1 xa[x].2.1 := hka _ (List.getElem_mem hx)
      refine wpAny_bind (wpAny_dictEntries hoa hda ?_)
      rw [Array.getElem?_eq_getElem hlt, ent]
      show wpAny _ _ (holding [.ref xa[x].2.1, xa[x].2.2] _ >>= _) _ _ _
      refine wpAny_bind (wpAny_holding (wpAny_bind (wpAny_dictFind_heap (k := xa[x].1) (a := xa[x].2.1) hu key hob hdb heb hkb nb (fun none_ => ?_) fun j p hj => ?_)))
      · have e0 := atKey_no none_
        cases hp with
        | miss _ =>
          refine wpAny_pure ?_
          show wpAny _ _ (if (!false) = true then _ else _) _ _ _
          rw [if_pos (by decide)]
          exact wpAny_pure (wpAny_pure hq)
        | hit e1 _ _ => rw [e0] at e1; cases e1
      · have e0 := atKey_at nb hj
        have e0' : atKey xb xa[x].1 = some p := e0
        have hj2 : j < es'.size := by rw [zb]; exact (List.getElem?_eq_some_iff.mp hj).1
        have ent2 : es'[j].val = p.2 := by
          have z := entry_at heb j
          rw [Array.getElem?_eq_getElem hj2, hj] at z
          rw [Option.some.inj z]
          rfl
        refine wpAny_bind (wpAny_dictEntries hob hdb ?_)
        rw [Array.getElem?_eq_getElem hj2]
        generalize hr0 : r = r0 at hp hq
        cases hp with
        | miss e1 => rw [e0'] at e1; cases e1
        | @hit _ _ p' e b' e1 he hrr =>
          rw [e0'] at e1
          cases e1
          refine wpAny_holding ?_
          rw [ent2]
          refine he _ _ ?_
          cases e with
          | false =>
            rw [Bool.false_and] at hq
            show wpAny _ _ (if (!false) = true then _ else _) _ _ _
            rw [if_pos (by decide)]
            exact wpAny_pure (wpAny_pure hq)
          | true =>
            rw [Bool.true_and] at hr0
            subst hr0
            show wpAny _ _ (if (!true) = true then _ else _) _ _ _
            rw [if_neg (by decide)]
            refine wpAny_bind (wpAny_dictEpoch hoa hda ?_)
            rw [if_neg (by simp)]
            exact wpAny_pure ⟨rfl, rfl, x + 1, hrest, hlt, hrr⟩
    · rintro q s' ⟨rfl, rfl, i, hr, hi, hp⟩
      have hin : i = es.size := by
        rcases Nat.lt_or_ge i es.size with z | z
        · rw [step i z] at hr
          cases hr
        · exact Nat.le_antisymm hi z
      refine wpAny_pure ?_
      rw [hin, za, List.drop_length] at hp
      cases hp
      exact hq
theorem eqN_run {a b : Addr} {xa xb : List EN} {r : Bool} {Q : Value → Shared → Prop} (la : (a == sysModules) = false) (lb : (b == sysModules) = false) (ta : s.TypeIs (.ref a) "dict") (tb : s.TypeIs (.ref b) "dict")
    (da : s.heap.DictOfH (nestedKind prog w) a xa) (db : s.heap.DictOfH (nestedKind prog w) b xb) (hu : A.units + 16 < cLine) (hits : xa.length = xb.length → HitsN prog w A.in1 s xb xa r) (h : Q (.bool (xa.length == xb.length && r)) s) : wpAny (model prog w) A (richCompare .Eq (.ref a) (.ref b)) Q E s := by
  refine wpAny_richCompare_same_room (op := .Eq) ta tb PySem.F.slot_dict_eq (wpAny_call_entry PySem.F.slot_dict_eq ta PySem.F.entry_dict_eq ?_ (PySem.F.args_dict_eq_2 _ _)) (by omega)
  show wpAny _ _ (Builtin.Dict.dictSlotArgs "__eq__" ⟨[.ref a, .ref b], []⟩ >>= _) _ _ s
  refine wpAny_bind ?_
  unfold Builtin.Dict.dictSlotArgs
  refine wpAny_bind (wpAny_notOrdered_dict ta ?_)
  show wpAny _ _ (pure (Value.ref a, Value.ref b)) _ _ s
  refine wpAny_pure ?_
  refine wpAny_bind (wpAny_isInstance (T := "dict") tb PySem.F.sub_dict_dict ?_)
  simp only [Bool.not_true, Bool.false_eq_true, if_false]
  refine wpAny_bind (wpAny_pure (wpAny_bind (wpAny_pure ?_)))
  refine wpAny_bind (pairsN la lb da db (by rw [Around.in1_units]; omega) hits ?_)
  refine wpAny_pure ⟨_, rfl, ?_, ?_⟩
  · exact fun x => nomatch x
  · simpa using h
end
/-! by values -/
abbrev VN := NestedKey × Addr × V
inductive EqL (K : PySem.W.Frag) (H : Hp) (Lb : List VN) : List VN → Bool → Prop
  | nil : EqL K H Lb [] true
  | miss {x : VN} {r : List VN} (h : valN Lb x.1 = none) : EqL K H Lb (x :: r) false
  | hit {x : VN} {r : List VN} {y : V} {d e : PyData} {b : Bool} (h : valN Lb x.1 = some y) (dx : Dp K H x.2.2 d) (dy : Dp K H y e) (sx : SeqAt.shaped d = true) (sy : SeqAt.shaped e = true) (rest : EqL K H Lb r b) : EqL K H Lb (x :: r) (PyData.eqv d e && b)
section
variable {X : Cx} {k : Nat} {pins : List (Addr × Obj)} {σ : L2.St} {H : Hp} {s : Shared}
theorem hits_of (I : Inv X pins σ H s) {A : Around} (hu : A.units + 66 < cLine) {Lb : List VN} {xb : List EN} (pb : Paired PR Lb xb) : ∀ {La : List VN} {xa : List EN} {r : Bool}, EqL X.K H Lb La r → Paired PR La xa → HitsN X.prog X.w A.in1 s xb xa r
  | _, _, _, .nil, .nil => .nil
  | _, _, _, .miss h, .cons (b := y) ⟨e1, _, _⟩ _ => by
    refine .miss ?_
    rw [← e1]
    rcases valN_at (k := _) pb with ⟨_, z⟩ | ⟨v, p, z, _⟩
    · exact z
    · rw [h] at z; cases z
  | _, _, _, .hit h dx dy sx sy rest, .cons (b := y) ⟨e1, _, e3⟩ t => by
    rcases valN_at (k := _) pb with ⟨z, _⟩ | ⟨v, p, z, zp, rv⟩
    · rw [h] at z; cases z
    · rw [h] at z
      cases z
      obtain ⟨as, ra⟩ := Dp.reads I _ _ _ dx e3
      obtain ⟨bs, rb⟩ := Dp.reads I _ _ _ dy rv
      exact .hit (by rw [← e1]; exact zp) (keq_at ra rb sx sy (by rw [Around.in1_units]; omega)).eqP (hits_of I hu pb rest t)
def rEqN (K : PySem.W.Frag) (P : Program) (w : World) : R2 := fun x y H Q => ∃ a b La Lb r, x = .ref a ∧ y = .ref b ∧ DAt K P w H a La ∧ DAt K P w H b Lb ∧ (La.length = Lb.length → EqL K H Lb La r) ∧ Q (.bl (La.length == Lb.length && r)) H
theorem dict_ty (I : Inv X pins σ H s) {a : Addr} {L : List VN} (h : Rd H a (dN X.prog X.w a L)) : s.TypeIs (.ref a) "dict" := by
  obtain ⟨_, _, o, _, _, ho, hx, _, _⟩ := dN_raw I h
  exact ⟨o, ho, hx.1⟩
theorem op_eqN {k : Nat} (hr : Room k X.A) : OpR X (compareOp .Eq) (rEqN X.K X.prog X.w) := by
  intro pins s σ H x y v u Q I rx ry h
  obtain ⟨a, b, La, Lb, r, rfl, rfl, Da, Db, hits, q⟩ := h
  obtain rfl : v = Value.ref a := rx
  obtain rfl : u = Value.ref b := ry
  obtain ⟨la, _, xa, pa, ha⟩ := Da.get I
  obtain ⟨lb, _, xb, pb, hb⟩ := Db.get I
  have un := hr.un
  have za := paired_len pa
  have zb := paired_len pb
  show wpAny _ _ (richCompare .Eq (.ref a) (.ref b)) _ _ _
  refine eqN_run la lb (dict_ty I Da.at_) (dict_ty I Db.at_) ha hb (by omega) (fun e => hits_of I (by omega) pb (hits (by omega)) pa) ?_
  rw [← za, ← zb]
  exact ⟨.bl _, H, I.tok _, rfl, q⟩
end
/-! in the plain semantics -/
def eqK (S : Sto) (kb : List (Va × Va)) : List (Va × Va) → Option Bool
  | [] => some true
  | p :: r => match nkV p.1 with
    | none => none
    | some k => match valD kb k with
      | none => some false
      | some y => match toD S 64 p.2, toD S 64 y, eqK S kb r with
        | some d, some e, some b => bif SeqAt.shaped d && SeqAt.shaped e then some (PyData.eqv d e && b) else none
        | _, _, _ => none
def cEqD (a b : Va) (S : Sto) : Rs Bool := match dctAt a S, dctAt b S with
  | some ka, some kb => if ka.length = kb.length then (match eqK S kb ka with | some r => .ok r S | none => .bad) else .ok false S
  | _, _ => .bad
section
variable {g : G}
theorem eqK_ok {ρ : List Addr} {S : Sto} {H : Hp} (sm : Sim g ρ S H) {kb : List (Va × Va)} {Lb : List VN} (b2 : RelL g ρ H (kb.map Prod.snd) (Lb.map fun r => r.2.2)) (b3 : kb.map (fun p => nkV p.1) = Lb.map fun r => some r.1) :
    ∀ {ka : List (Va × Va)} {La : List VN} {r : Bool}, eqK S kb ka = some r → RelL g ρ H (ka.map Prod.snd) (La.map fun r => r.2.2) → ka.map (fun p => nkV p.1) = La.map (fun r => some r.1) → EqL g.K H Lb La r
  | [], [], _, h, _, _ => by
    cases h
    exact .nil
  | [], _ :: _, _, _, _, h => nomatch h
  | _ :: _, [], _, _, _, h => nomatch h
  | p :: ka, x :: La, r, h, .cons a2 t2, h3 => by
    rw [List.map_cons, List.map_cons] at h3
    obtain ⟨e1, e2⟩ := List.cons.inj h3
    unfold eqK at h
    rw [e1] at h
    dsimp only at h
    rcases valD_ok (k := x.1) b2 b3 with ⟨z1, z2⟩ | ⟨w, v, z1, z2, rv⟩
    · rw [z1] at h
      cases h
      exact .miss z2
    · rw [z1] at h
      dsimp only at h
      split at h
      · rename_i d e b h1 h2 h4
        by_cases c : (SeqAt.shaped d && SeqAt.shaped e) = true
        · rw [c] at h
          cases h
          rw [Bool.and_eq_true] at c
          exact .hit z2 (toD_ok sm _ _ _ _ h1 a2) (toD_ok sm _ _ _ _ h2 rv) c.1 c.2 (eqK_ok sm b2 b3 h4 t2 e2)
        · rw [Bool.not_eq_true _ |>.mp c] at h
          cases h
      · cases h
theorem ob_eqD : OpB g (rEqN g.K g.P g.w) cEqD := fun Wx σ ρ S H a b x y Q sm ra rb h => by
  unfold cEqD at h
  cases e1 : dctAt a S with
  | none => rw [e1] at h; exact h.elim
  | some ka =>
    cases e2 : dctAt b S with
    | none => rw [e1, e2] at h; exact h.elim
    | some kb =>
      rw [e1, e2] at h
      dsimp only at h
      obtain ⟨l, p, La, rfl, rfl, hp, Da, a1, a2, a3, ad⟩ := dct_at sm ra e1
      obtain ⟨m, q, Lb, rfl, rfl, hq, Db, b1, b2, b3, bd⟩ := dct_at sm rb e2
      have za := len_kvs a1
      have zb := len_kvs b1
      by_cases c : ka.length = kb.length
      · rw [if_pos c] at h
        cases er : eqK S kb ka with
        | none => rw [er] at h; exact h.elim
        | some r =>
          rw [er] at h
          refine ⟨p, q, La, Lb, r, rfl, rfl, Da, Db, fun _ => eqK_ok sm b2 b3 er a2 a3, ?_⟩
          have e : (La.length == Lb.length && r) = r := by
            rw [← za, ← zb, c]
            simp
          rw [e]
          exact h.fin sm rfl
      · rw [if_neg c] at h
        refine ⟨p, q, La, Lb, false, rfl, rfl, Da, Db, fun z => absurd (by omega) c, ?_⟩
        rw [Bool.and_false]
        exact h.fin sm rfl
end
section
variable {X : Cx} {g : G} {Wx : WX} {k : Nat} {pos : Pos} {a b : Expr} {x y : XE}
theorem se_eqD (o : XO X g Wx k) (ha : SE X g Wx a x) (hb : SE X g Wx b y) (hm : behindInMarks .Eq b = false := by rfl) : SE X g Wx (.Compare a [.Eq] [b] pos) (xboo (xbinB cEqD x y)) := se_cmp (op_eqN o.room) (by have q := ob_eqD (g := g); rw [o.K, o.gP, o.gw] at q; exact q) ha hb hm
theorem sq_eqD (o : XO X g Wx k) (ha : SE X g Wx a x) (hb : SE X g Wx b y) (hm : behindInMarks .Eq b = false := by rfl) : SQ X g Wx (.Compare a [.Eq] [b] pos) (xbinB cEqD x y) := sq_cmp (op_eqN o.room) (by have q := ob_eqD (g := g); rw [o.K, o.gP, o.gw] at q; exact q) ha hb hm
end
end Rz
namespace Rz
open PySem PySem.Spec PyProof.Rows L2 PySem.W
/-! ### isinstance(e, (A, B)) of a kept exception -/
def rIsXT (K : PySem.W.Frag) : List V → Hp → VK → Prop := fun xs H Q => ∃ (a D tp : Addr) (cs : List Addr) (b : Bool), xs = [.ref a, .ref tp] ∧ H a = some (exH (.ref D) a) ∧ ExcC K D ∧ SqT K H tp (cs.map V.ref) ∧ PySem.W.kitAny K (.ref D) (cs.map Value.ref) = some b ∧ Q (.bl b) H
theorem refs_only : ∀ {cs : List Addr} {us : List Value}, Vals (cs.map V.ref) us → us = cs.map Value.ref
  | [], _, .nil => rfl
  | c :: cs, _, .cons r t => by
    cases r
    rw [List.map_cons, refs_only t]
theorem call_isXT {X : Cx} : CallR X (.builtin "isinstance") (rIsXT X.K) := fun pins s σ H xs us Q I r h => by
  obtain ⟨a, D, tp, cs, b, e0, at1, ex, st, kit, q⟩ := h
  subst e0
  match us, r with
  | [_, _], .cons r1 (.cons r2 .nil) =>
    cases r1
    cases r2
    obtain ⟨⟨ob, fs, y1, ⟨y2, y3⟩, y4⟩, _, _⟩ := I.hok a _ at1
    have inst : PySem.W.InstAt s.heap a ob D none := by
      cases ob with
      | mk oc od oda osl =>
        dsimp only at y2 y3 y4
        subst y2 y3 y4
        exact ⟨y1, rfl, rfl, trivial⟩
    obtain ⟨its, rv, ⟨o, h1, h2, n, h3⟩, _⟩ := I.tuple st
    have e3 := refs_only rv
    subst e3
    obtain ⟨oc, od, dt, sl⟩ := o
    simp only at h2 h3
    subst h2 h3
    exact PySem.W.kia_tup (PySem.W.handS_kitx_exc ex.hg ex.hk ex.hs ex.hd ex.ha ex.hn ex.ht ex.hm) I.kIn inst h1 kit (fun z => nomatch z) fun t => ⟨.bl b, H, I.kept (t' := t) fun _ _ z => z, rfl, q⟩
def anyX (tbl : Nat → Nat → Option Bool) (c : Nat) : List Va → Option Bool
  | [] => some false
  | .cl d :: r => match tbl c d, anyX tbl c r with
    | some b, some t => some (b || t)
    | _, _ => none
  | _ :: _ => none
def fIsXT (tbl : Nat → Nat → Option Bool) (ws : List Va) (S : Sto) : Rs Va := match ws with
  | [.loc l, .tup (y :: cs)] => match S[l]? with
    | some (.exo c []) => match anyX tbl c (y :: cs) with
      | some b => .ok (.bl b) S
      | none => .bad
    | _ => .bad
  | _ => .bad
section
variable {g : G}
theorem anyX_ok {tbl : Nat → Nat → Option Bool} (h0 : ExTb g.K g tbl) {c : Nat} {ρ : List Addr} {H : Hp} : ∀ {cs : List Va} {vs : List V} {b : Bool}, anyX tbl c cs = some b → RelL g ρ H cs vs → ∃ ds : List Addr, vs = ds.map V.ref ∧ PySem.W.kitAny g.K (.ref (g.cls c)) (ds.map Value.ref) = some b
  | [], _, _, h, .nil => by
    cases h
    exact ⟨[], rfl, rfl⟩
  | .cl d :: cs, _, b, h, .cons r t => by
    unfold anyX at h
    cases r
    cases e1 : tbl c d with
    | none => rw [e1] at h; cases h
    | some b1 =>
      cases e2 : anyX tbl c cs with
      | none => rw [e1, e2] at h; cases h
      | some b2 =>
        rw [e1, e2] at h
        cases h
        obtain ⟨ds, rfl, q⟩ := anyX_ok h0 e2 t
        refine ⟨g.cls d :: ds, rfl, kitAny_cons (h0.cl c d b1 e1).2 (fun z => ?_) fun z => ?_⟩
        · rw [z]
          exact q
        · rw [z]
          rfl
  | .non :: _, _, _, h, _ => nomatch h
  | .bl _ :: _, _, _, h, _ => nomatch h
  | .int _ :: _, _, _, h, _ => nomatch h
  | .str _ :: _, _, _, h, _ => nomatch h
  | .ty _ :: _, _, _, h, _ => nomatch h
  | .tup _ :: _, _, _, h, _ => nomatch h
  | .loc _ :: _, _, _, h, _ => nomatch h
theorem anyX_ex {tbl : Nat → Nat → Option Bool} (h0 : ExTb g.K g tbl) {c : Nat} {y : Va} {cs : List Va} {b : Bool} (h : anyX tbl c (y :: cs) = some b) : ExcC g.K (g.cls c) := by
  cases y with
  | cl d =>
    unfold anyX at h
    cases e1 : tbl c d with
    | none => rw [e1] at h; cases h
    | some b1 => exact (h0.cl c d b1 e1).1
  | _ => cases h
theorem cs_isXT {tbl : Nat → Nat → Option Bool} (h0 : ExTb g.K g tbl) : CalS g (rIsXT g.K) (fIsXT tbl) := fun Wx σ ρ S H ws vs Q sm rl h => by
  unfold fIsXT at h
  split at h
  · rename_i l y cs
    split at h
    · rename_i c e
      cases e2 : anyX tbl c (y :: cs) with
      | none => rw [e2] at h; exact h.elim
      | some b =>
        rw [e2] at h
        cases rl with
        | cons ra rn =>
          cases rn with
          | cons rb rn =>
            cases rn
            cases rb with
            | @tup _ us tp sq rl =>
              obtain ⟨ds, rfl, q⟩ := anyX_ok h0 e2 rl
              cases ra with
              | @loc _ p hp =>
                obtain ⟨_, at1⟩ := sm.ats l _ p e hp
                exact ⟨p, g.cls c, tp, ds, b, rfl, at1, anyX_ex h0 e2, sq, q, h.fin sm (.bl b)⟩
    · exact h.elim
  · exact h.elim
end
section
variable {X : Cx} {g : G} {Wx : WX} {k : Nat} {pos : Pos} {a b : Expr} {r : XA} {tbl : Nat → Nat → Option Bool}
theorem se_isXT (o : XO X g Wx k) {p : Pos} (T : ExTb X.K g tbl) (hm : X.mg "isinstance" = none) (ha : SA X g Wx [a, b] r) (hg : Gl X "isinstance" := by rfl) (he : starEach [a, b] X.env = (false, eval a X.env) :: starEach [b] X.env := by rfl) (hpl : (backTo pos (starEach [b] X.env)).any (·.1) = false := by rfl) :
    SE X g Wx (.Call (.Name "isinstance" p) [a, b] [] pos) (xcall (fIsXT tbl) r) :=
  se_callB call_isXT (o.K ▸ cs_isXT (o.K ▸ T)) hm ha hg (he := he) (hpl := hpl)
end
end Rz
namespace Rz
open PySem PySem.Spec PyProof.Rows L2 PySem.W
/-! ### comprehensions within comprehensions; name = {..} -/
theorem look_in {env : PySem.Env} {y : Str} : ∀ {names : List (Str × NameKind)}, names.lookup y = some .cell ∨ names.lookup y = some .free →
    (names.map fun (n, k) => if (k == NameKind.free && env.scope.kind == .function && env.kindOf n == some .cell) then (n, NameKind.cell) else (n, k)).lookup y = some .cell ∨
    (names.map fun (n, k) => if (k == NameKind.free && env.scope.kind == .function && env.kindOf n == some .cell) then (n, NameKind.cell) else (n, k)).lookup y = some .free
  | [], h => by simp at h
  | (n, k) :: r, h => by
    simp only [List.map_cons]
    by_cases e : y = n
    · subst e
      rw [List.lookup_cons_self] at h
      split
      · left
        rw [List.lookup_cons_self]
      · rw [List.lookup_cons_self]
        exact h
    · have e' : (y == n) = false := by simpa using e
      rw [List.lookup_cons, e'] at h
      have ih := look_in (env := env) (names := r) h
      split <;> (rw [List.lookup_cons, e']; exact ih)
theorem blkOk_in {N : List Str} {sc scope : Scope} {own : List (Str × Nat)} {env : PySem.Env} (h : blkC N sc scope own = true) : BlkOk N (relabel sc env) scope own :=
  let b := blkOk_by h
  ⟨b.kind, b.uniq, b.ix, fun y hy e => look_in (b.free y hy e), b.own⟩
theorem sw_trueD {kx vx : Expr} {gs : List Comprehension} {scope : Scope} {pos py : Pos} {y : Str} {l : Nat} {env : PySem.Env} (hk : env.scope.kind = .function) (hy : env.scope.names.lookup y = some .local) (hl : (py.line == pos.line) = true)
    (ha : (scope.names.any fun (n, k) => n == y && (k == .local || k == .cell)) = false) : swapsWith (.DictComp kx vx gs scope pos) (some (.Name y py)) l env = pure true := by
  have ky : env.kindOf y = some .local := hy
  have hb : env.blockKind = .function := by
    unfold PySem.Env.blockKind
    rw [hk]
    rfl
  unfold swapsWith
  simp only [hb, ky, ha, Expr.pos, hl]
  rfl
section
variable {X : Cx} {g : G} {Wx : WX} {k : Nat} {pos : Pos}
theorem ss_dcomp (o : XO X g Wx k) (i : Nat) (own : List (Str × Nat)) {n : Str} {py spos : Pos} {tg it ke ve : Expr} {ifs : List Expr} {scope : Scope} {xi : XI} {put : XP} {sl : List Nat} {cond : XT} {kx vx : XE} (hi : SI X g Wx tg it xi) (ok : BlkOk X.N X.env.scope scope own)
    (hg : ∀ (s : Shared) (H : Hp) (C : Addr) (cl : List (Str × Addr)) (fp : List Addr), XO (X.blk s H scope (compEnvC scope cl C X.env) fp) g WF k → SG (X.blk s H scope (compEnvC scope cl C X.env) fp) g tg put sl)
    (ht : ∀ (s : Shared) (H : Hp) (C : Addr) (cl : List (Str × Addr)) (fp : List Addr), XO (X.blk s H scope (compEnvC scope cl C X.env) fp) g WF k → PTs (X.blk s H scope (compEnvC scope cl C X.env) fp) ifs (tQ g WF cond))
    (hk : ∀ (s : Shared) (H : Hp) (C : Addr) (cl : List (Str × Addr)) (fp : List Addr), XO (X.blk s H scope (compEnvC scope cl C X.env) fp) g WF k → SE (X.blk s H scope (compEnvC scope cl C X.env) fp) g WF ke kx)
    (hv : ∀ (s : Shared) (H : Hp) (C : Addr) (cl : List (Str × Addr)) (fp : List Addr), XO (X.blk s H scope (compEnvC scope cl C X.env) fp) g WF k → SE (X.blk s H scope (compEnvC scope cl C X.env) fp) g WF ve vx)
    (hy : X.N[i]? = some n := by rfl) (hyl : X.env.scope.names.lookup n = some .local := by rfl) (hsw : swapsWith (.DictComp ke ve [⟨tg, it, ifs, 0⟩] scope pos) (some (.Name n py)) spos.line X.env = pure true := by exact sw_trueD rfl rfl rfl (by decide +kernel))
    (hsl : ∀ j ∈ sl, j ∈ own.map (·.2) := by decide) (hs : ∀ x, foldedSetIterable it X.env x = pure x := by intro _; rfl) : SS X g Wx (.Assign [.Name n py] (.DictComp ke ve [⟨tg, it, ifs, 0⟩] scope pos) spos) (sset i (xdcomp (own.map (·.2)) xi put cond kx vx)) :=
  ps_imp (ps_setDcG (ob := fun D => dN X.prog X.w D []) (rp := rDset X.K X.prog X.w) (i := i) (fun H h hb => dN_new h hb) (fun s H C cl fp => dset_N (o.blk s H scope _ fp).room) o.calm o.nd hy hyl hsw hi ok (fun s H C cl fp => hg s H C cl fp (o.blk ..)) (fun s H C cl fp => ht s H C cl fp (o.blk ..)) (fun s H C cl fp => hk s H C cl fp (o.blk ..)) (fun s H C cl fp => hv s H C cl fp (o.blk ..)) hs) fun D σ H ⟨δ, S, ρ, sm, se, h⟩ => by
    have q := dcomp_in (g := g) (Wx := Wx) (xi := xi) (put := put) (cond := cond) (kx := kx) (vx := vx) hsl σ H _ ⟨δ, S, ρ, sm, se, wpR.imp (wpR.out (rel := Rel g) se h) fun v H1 ⟨ρ1, w, S1, e1, s1, r1, h1⟩ => h1 ρ1 H1 _ .refl s1 ((se.mono e1).put r1)⟩
    rw [o.gP, o.gw, o.K] at q
    exact q
theorem ss_comp2 (o : XO X g Wx k) (i : Nat) (own : List (Str × Nat)) (vs1 : List Nat) {n : Str} {py spos : Pos} {tg it tg1 it1 elt : Expr} {ifs ifs1 : List Expr} {scope : Scope} {xi xi1 : XI} {put put1 : XP} {sl sl1 : List Nat} {cond cond1 : XT} {xe : XE} (hi : SI X g Wx tg it xi) (ok : BlkOk X.N X.env.scope scope own)
    (hg : ∀ (s : Shared) (H : Hp) (C : Addr) (cl : List (Str × Addr)) (fp : List Addr), XO (X.blk s H scope (compEnvC scope cl C X.env) fp) g WF k → SG (X.blk s H scope (compEnvC scope cl C X.env) fp) g tg put sl)
    (ht : ∀ (s : Shared) (H : Hp) (C : Addr) (cl : List (Str × Addr)) (fp : List Addr), XO (X.blk s H scope (compEnvC scope cl C X.env) fp) g WF k → PTs (X.blk s H scope (compEnvC scope cl C X.env) fp) ifs (tQ g WF cond))
    (hi1 : ∀ (s : Shared) (H : Hp) (C : Addr) (cl : List (Str × Addr)) (fp : List Addr), XO (X.blk s H scope (compEnvC scope cl C X.env) fp) g WF k → SI (X.blk s H scope (compEnvC scope cl C X.env) fp) g WF tg1 it1 xi1)
    (hg1 : ∀ (s : Shared) (H : Hp) (C : Addr) (cl : List (Str × Addr)) (fp : List Addr), XO (X.blk s H scope (compEnvC scope cl C X.env) fp) g WF k → SG (X.blk s H scope (compEnvC scope cl C X.env) fp) g tg1 put1 sl1)
    (ht1 : ∀ (s : Shared) (H : Hp) (C : Addr) (cl : List (Str × Addr)) (fp : List Addr), XO (X.blk s H scope (compEnvC scope cl C X.env) fp) g WF k → PTs (X.blk s H scope (compEnvC scope cl C X.env) fp) ifs1 (tQ g WF cond1))
    (he : ∀ (s : Shared) (H : Hp) (C : Addr) (cl : List (Str × Addr)) (fp : List Addr), XO (X.blk s H scope (compEnvC scope cl C X.env) fp) g WF k → SE (X.blk s H scope (compEnvC scope cl C X.env) fp) g WF elt xe)
    (hy : X.N[i]? = some n := by rfl) (hyl : X.env.scope.names.lookup n = some .local := by rfl) (hsw : swapsWith (.ListComp elt [⟨tg, it, ifs, 0⟩, ⟨tg1, it1, ifs1, 0⟩] scope pos) (some (.Name n py)) spos.line X.env = pure true := by exact sw_true rfl rfl rfl (by decide +kernel))
    (hv : ∀ i ∈ vs1, i ∈ own.map (·.2) := by decide) (hsl : ∀ j ∈ sl, j ∈ own.map (·.2) := by decide) (hsl1 : ∀ j ∈ sl1, j ∈ vs1 := by decide) (hs : ∀ x, foldedSetIterable it X.env x = pure x := by intro _; rfl) (hs1 : ∀ env x, foldedSetIterable it1 env x = pure x := by intro _ _; rfl) :
    SS X g Wx (.Assign [.Name n py] (.ListComp elt [⟨tg, it, ifs, 0⟩, ⟨tg1, it1, ifs1, 0⟩] scope pos) spos) (sset i (xcomp2 (own.map (·.2)) vs1 xi put cond xi1 put1 cond1 xe)) :=
  ps_imp (ps_setLc2 (i := i) o.calm o.nd hy hyl hsw hi ok hv (fun s H C cl fp => hg s H C cl fp (o.blk ..)) (fun s H C cl fp => ht s H C cl fp (o.blk ..)) (fun s H C cl fp => hi1 s H C cl fp (o.blk ..)) (fun s H C cl fp => hg1 s H C cl fp (o.blk ..)) (fun s H C cl fp => ht1 s H C cl fp (o.blk ..)) (fun s H C cl fp => he s H C cl fp (o.blk ..)) hs hs1) fun D σ H ⟨δ, S, ρ, sm, se, h⟩ =>
    comp2_in hsl hsl1 σ H _ ⟨δ, S, ρ, sm, se, wpR.imp (wpR.out (rel := Rel g) se h) fun v H1 ⟨ρ1, w, S1, e1, s1, r1, h1⟩ => h1 ρ1 H1 _ .refl s1 ((se.mono e1).put r1)⟩
end
end Rz
namespace Rz
open PySem PySem.Spec PyProof.Rows L2 PySem.W
/-! ### a < b of tuples of ints -/
def cLtT (a b : Va) (S : Sto) : Rs Bool := match a, b with
  | .tup xs, .tup ys => match intsV xs, intsV ys with
    | some ns, some ms => .ok (HT.lexLt ns ms) S
    | _, _ => .bad
  | _, _ => .bad
section
variable {g : G}
theorem ob_ltT : OpB g (rLtT g.K) cLtT := fun Wx σ ρ S H a b x y Q sm ra rb h => by
  unfold cLtT at h
  split at h
  · rename_i xs ys
    cases e1 : intsV xs with
    | none => rw [e1] at h; exact h.elim
    | some ns =>
      cases e2 : intsV ys with
      | none => rw [e1, e2] at h; exact h.elim
      | some ms =>
        rw [e1, e2] at h
        cases ra with
        | tup s1 r1 =>
          cases rb with
          | tup s2 r2 =>
            rw [intsV_of e1] at r1
            rw [intsV_of e2] at r2
            rw [rel_ints r1] at s1
            rw [rel_ints r2] at s2
            exact ⟨_, _, ns, ms, rfl, rfl, s1, s2, h.fin sm rfl⟩
  · exact h.elim
end
section
variable {X : Cx} {g : G} {Wx : WX} {k : Nat} {pos : Pos} {a b : Expr} {x y : XE}
theorem se_ltT (o : XO X g Wx k) (ha : SE X g Wx a x) (hb : SE X g Wx b y) (hm : behindInMarks .Lt b = false := by rfl) : SE X g Wx (.Compare a [.Lt] [b] pos) (xboo (xbinB cLtT x y)) := se_cmp (op_ltT (by have := o.room.un; omega)) (o.K ▸ ob_ltT) ha hb hm
theorem sq_ltT (o : XO X g Wx k) (ha : SE X g Wx a x) (hb : SE X g Wx b y) (hm : behindInMarks .Lt b = false := by rfl) : SQ X g Wx (.Compare a [.Lt] [b] pos) (xbinB cLtT x y) := sq_cmp (op_ltT (by have := o.room.un; omega)) (o.K ▸ ob_ltT) ha hb hm
end
end Rz
/-! What a meaning leads to: a calculus of ends over the plain semantics, one rule a combinator. -/
namespace Rz
open PySem PySem.Spec PyProof.Rows L2 PySem.W
abbrev Xp := Nat → List Va → Sto → Prop
/-- the value and the store are as Q says; what is raised is as E says -/
@[irreducible] def wr {α : Type} (r : Rs α) (Q : α → Sto → Prop) (E : Xp) : Prop := match r with
  | .ok a S => Q a S
  | .ex c fs S => E c fs S
  | .bad => False
structure Ke where
  rt : Va → Sto → Prop
  bk : Env → Sto → Prop
  ct : Env → Sto → Prop
  ex : Env → Xp
@[irreducible] def wo (o : Out) (N : Env → Sto → Prop) (K : Ke) : Prop := match o with
  | .nx δ S => N δ S
  | .rt w S => K.rt w S
  | .bk δ S => K.bk δ S
  | .ct δ S => K.ct δ S
  | .ex c fs δ S => K.ex δ c fs S
  | .bad => False
def noE : Xp := fun _ _ _ => False
def fnK (Q : Va → Sto → Prop) (E : Xp) : Ke := ⟨Q, fun _ _ => False, fun _ _ => False, fun _ => E⟩
def FnGo (n : Nat) (m : List Va → Sto → Rs Va) (us : List Va) (S : Sto) (Q : Va → Sto → Prop) (E : Xp) : Prop := us.length = n ∧ wr (m us S) Q E
def TupGo (us : List Va) (S : Sto) (Q : Va → Sto → Prop) : Prop := us.length ≤ 16777216 ∧ Q (.tup us) S
def LstGo (us : List Va) (S : Sto) (Q : Va → Sto → Prop) : Prop := us.length ≤ 16777216 ∧ ∀ l T, l = S.length → T.length = S.length + 1 → Keep S T → T[l]? = some (.lst us) → Q (.loc l) T
def ParGo (is : List Nat) (us : List Va) (δ : Env) (S : Sto) (N : Env → Sto → Prop) : Prop := us.length = is.length ∧ N ((is.zip us).foldl (fun d p => d.set p.1 (some p.2)) δ) S
def AsgGo (put : XP) (w : Va) (δ : Env) (S : Sto) (N : Env → Sto → Prop) : Prop := ∃ δ1, put w δ = some δ1 ∧ N δ1 S
def BlGo (w : Va) (A B : Prop) : Prop := ∃ t, w = .bl t ∧ bif t then A else B
def MetGo (f : Va → List Va → Sto → Rs Va) (w : Va) (S : Sto) (P : Prop) : Prop := ∃ l ws, w = .loc l ∧ S[l]? = some (.lst ws) ∧ P
def FldGo (c i : Nat) (w : Va) (S : Sto) (Q : Va → Sto → Prop) : Prop := ∃ l fs v, w = .loc l ∧ S[l]? = some (.ins c fs) ∧ fs[i]? = some v ∧ Q v S
def NewGo (c n : Nat) (m : List Va → Sto → Rs Va) (us : List Va) (S : Sto) (Q : Va → Sto → Prop) (E : Xp) : Prop := us.length + 1 = n ∧ wr (m (.loc S.length :: us) (S ++ [.ins c []])) (fun v U => v = .non ∧ Q (.loc S.length) U) E
def PropGo (c : Nat) (m : List Va → Sto → Rs Va) (w : Va) (S : Sto) (Q : Va → Sto → Prop) : Prop := ∃ l fs, w = .loc l ∧ S[l]? = some (.ins c fs) ∧ wr (m [w] S) Q noE
def IsqGo (w : Va) (S : Sto) (Q : Nat × Nth → Sto → Prop) : Prop := (∃ ws, w = .tup ws ∧ Q (ws.length + 1, nseq ws) S) ∨ ∃ l ws, w = .loc l ∧ S[l]? = some (.lst ws) ∧ Q (ws.length + 1, nloc l) S
def RngGo (w : Va) (S : Sto) (Q : Nat × Nth → Sto → Prop) : Prop := ∃ n : Nat, w = .int n ∧ n ≤ 100000 ∧ Q (n + 1, nrng 0 n) S
def noK : Ke := ⟨fun _ _ => False, fun _ _ => False, fun _ _ => False, fun _ => noE⟩
def Ke.lp (K : Ke) (N C : Env → Sto → Prop) : Ke := ⟨K.rt, N, C, K.ex⟩
section
variable {α β : Type} {r : Rs α} {Q : α → Sto → Prop} {QV : Va → Sto → Prop} {QB : Bool → Sto → Prop} {QA : List Va → Sto → Prop} {E : Xp} {o : Out} {N : Env → Sto → Prop} {K : Ke}
variable {δ δ1 : Env} {S S1 : Sto} {x y z : XE} {as : XA} {p q : XT} {s t : XS} {a b v w : Va} {ws us : List Va} {i l n m : Nat}
theorem wr.mono {Q' : α → Sto → Prop} (h : wr r Q E) (k : ∀ a S, Q a S → Q' a S) : wr r Q' E := by
  cases r with
  | ok a S => with_unfolding_all exact k a S h
  | ex c fs S => with_unfolding_all exact h
  | bad => with_unfolding_all exact h
theorem wr.mono2 {Q' : α → Sto → Prop} {E' : Xp} (h : wr r Q E) (k : ∀ a S, Q a S → Q' a S) (k2 : ∀ c fs S, E c fs S → E' c fs S) : wr r Q' E' := by
  cases r with
  | ok a S => with_unfolding_all exact k a S h
  | ex c fs S => with_unfolding_all exact k2 c fs S h
  | bad => with_unfolding_all exact h
theorem wr.use {Q' : α → Sto → Prop} (h : wr r Q noE) (k : ∀ a S, Q a S → Q' a S) : wr r Q' E := h.mono2 k fun _ _ _ z => (z : False).elim
theorem wr_of {a : α} (h : r = .ok a S) (k : Q a S) : wr r Q E := by rw [h]; with_unfolding_all exact k
theorem wr_bind {f : α → Sto → Rs β} {Q : β → Sto → Prop} (h : wr r (fun a S => wr (f a S) Q E) E) : wr (r.bind f) Q E := by
  cases r with
  | ok a S => with_unfolding_all exact h
  | ex c fs S => with_unfolding_all exact h
  | bad => with_unfolding_all exact h
theorem wo_out {f : α → Sto → Out} (h : wr r (fun a S => wo (f a S) N K) (K.ex δ)) : wo (r.out δ f) N K := by
  cases r with
  | ok a S => with_unfolding_all exact h
  | ex c fs S => with_unfolding_all exact h
  | bad => with_unfolding_all exact h
theorem ok_of {a : α} {P : Sto → Prop} (h : wr r (fun v T => v = a ∧ P T) noE) : ∃ T, r = .ok a T ∧ P T := by
  cases r with
  | ok b S =>
    unfold wr at h
    dsimp only at h
    exact ⟨S, by rw [h.1], h.2⟩
  | ex c fs S => with_unfolding_all exact h.elim
  | bad => with_unfolding_all exact h.elim
theorem ok_ex {P : α → Sto → Prop} (h : wr r P noE) : ∃ a T, r = .ok a T ∧ P a T := by
  cases r with
  | ok b S =>
    unfold wr at h
    dsimp only at h
    exact ⟨b, S, rfl, h⟩
  | ex c fs S => with_unfolding_all exact h.elim
  | bad => with_unfolding_all exact h.elim
theorem wo.mono {N' : Env → Sto → Prop} (h : wo o N K) (k : ∀ δ S, N δ S → N' δ S) : wo o N' K := by
  cases o with
  | nx δ S => with_unfolding_all exact k δ S h
  | _ => with_unfolding_all exact h
theorem wo.use {N' : Env → Sto → Prop} (h : wo o N noK) (k : ∀ δ S, N δ S → N' δ S) : wo o N' K := by
  cases o with
  | nx δ S => with_unfolding_all exact k δ S h
  | _ => with_unfolding_all exact h.elim
theorem wo_of (h : o = .nx δ S) (k : N δ S) : wo o N K := by rw [h]; with_unfolding_all exact k
/-! expressions -/
theorem wr_lit (h : QV w S) : wr (xlit w δ S) QV E := by with_unfolding_all exact h
theorem wr_var (h : δ[i]? = some (some w)) (k : QV w S) : wr (xvar i δ S) QV E := by
  unfold xvar
  rw [h]
  with_unfolding_all exact k
theorem wr_bin {f : Va → Va → Sto → Rs Va} (h : wr (x δ S) (fun a S1 => wr (y δ S1) (fun b S2 => wr (f a b S2) QV E) E) E) : wr (xbin f x y δ S) QV E := wr_bind (h.mono fun _ _ h => wr_bind h)
theorem wr_binB {f : Va → Va → Sto → Rs Bool} (h : wr (x δ S) (fun a S1 => wr (y δ S1) (fun b S2 => wr (f a b S2) QB E) E) E) : wr (xbinB f x y δ S) QB E := wr_bind (h.mono fun _ _ h => wr_bind h)
theorem wr_un {f : Va → Sto → Rs Va} (h : wr (x δ S) (fun a S1 => wr (f a S1) QV E) E) : wr (xun f x δ S) QV E := wr_bind h
theorem wr_boo (h : wr (p δ S) (fun b S1 => QV (.bl b) S1) E) : wr (xboo p δ S) QV E := wr_bind (h.mono fun _ _ h => by with_unfolding_all exact h)
theorem wr_not (h : wr (p δ S) (fun b S1 => QB (!b) S1) E) : wr (xnot p δ S) QB E := wr_bind (h.mono fun _ _ h => by with_unfolding_all exact h)
theorem wr_and (h : wr (p δ S) (fun b S1 => bif b then wr (q δ S1) QB E else QB false S1) E) : wr (xand p q δ S) QB E := wr_bind (h.mono fun b S h => by cases b <;> with_unfolding_all exact h)
theorem wr_or (h : wr (p δ S) (fun b S1 => bif b then QB true S1 else wr (q δ S1) QB E) E) : wr (xor p q δ S) QB E := wr_bind (h.mono fun b S h => by cases b <;> with_unfolding_all exact h)
theorem wr_ite (h : wr (p δ S) (fun b S1 => bif b then wr (x δ S1) QV E else wr (y δ S1) QV E) E) : wr (xite p x y δ S) QV E := wr_bind (h.mono fun b S h => by cases b <;> with_unfolding_all exact h)
theorem wr_nil (h : QA [] S) : wr (anil δ S) QA E := by with_unfolding_all exact h
theorem wr_cons (h : wr (x δ S) (fun a S1 => wr (as δ S1) (fun us S2 => QA (a :: us) S2) E) E) : wr (acons x as δ S) QA E := by with_unfolding_all exact wr_bind (h.mono fun _ _ h => wr_bind h)
theorem wr_call {f : List Va → Sto → Rs Va} (h : wr (as δ S) (fun us S1 => wr (f us S1) QV E) E) : wr (xcall f as δ S) QV E := wr_bind h
theorem wr_fn {f : List Va → Sto → Rs Va} (h : wr (as δ S) (fun us S1 => FnGo n f us S1 QV E) E) : wr (ycall n f as δ S) QV E := wr_bind (h.mono fun us S h => by rw [if_pos h.1]; with_unfolding_all exact h.2)
theorem wr_tup (h : wr (as δ S) (fun us S1 => TupGo us S1 QV) E) : wr (xtup as δ S) QV E := wr_bind (h.mono fun us S h => by rw [ltup_eq S h.1]; with_unfolding_all exact h.2)
theorem wr_lst (h : wr (as δ S) (fun us S1 => LstGo us S1 QV) E) : wr (xlst as δ S) QV E :=
  wr_bind (h.mono fun us S h => by rw [llst_eq S h.1]; with_unfolding_all exact h.2 _ _ rfl (by simp) (Keep.app _ _) (get_new _ _ _))
theorem wr_llst (h0 : us.length ≤ 16777216) (h : ∀ l T, l = S.length → T.length = S.length + 1 → Keep S T → T[l]? = some (.lst us) → QV (.loc l) T) : wr (llst us S) QV E := by
  rw [llst_eq S h0]; with_unfolding_all exact h _ _ rfl (by simp) (Keep.app _ _) (get_new _ _ _)
theorem wr_isN (h : wr (x δ S) (fun w S1 => QB (match w with | .non => true | _ => false) S1) E) : wr (xisN x δ S) QB E := wr_bind (h.mono fun w S h => by cases w <;> with_unfolding_all exact h)
theorem wr_tru (h : wr (x δ S) (fun w S1 => wr (truV w S1) QB E) E) : wr (xtru x δ S) QB E := wr_bind h
theorem wr_yes (h : QB true S) : wr (xyes δ S) QB E := by with_unfolding_all exact h
theorem wr_andV (h : wr (x δ S) (fun w S1 => BlGo w (wr (y δ S1) QV E) (QV (.bl false) S1)) E) : wr (xandV x y δ S) QV E := wr_bind (h.mono fun w S ⟨t, e, h⟩ => by
  subst e
  cases t <;> with_unfolding_all exact h)
theorem wr_orV (h : wr (x δ S) (fun w S1 => BlGo w (QV (.bl true) S1) (wr (y δ S1) QV E)) E) : wr (xorV x y δ S) QV E := wr_bind (h.mono fun w S ⟨t, e, h⟩ => by
  subst e
  cases t <;> with_unfolding_all exact h)
theorem wr_notV (h : wr (x δ S) (fun w S1 => BlGo w (QV (.bl false) S1) (QV (.bl true) S1)) E) : wr (xnotV x δ S) QV E := wr_bind (h.mono fun w S ⟨t, e, h⟩ => by
  subst e
  cases t <;> with_unfolding_all exact h)
theorem wr_orT (h : wr (x δ S) (fun w S1 => wr (truV w S1) (fun t S2 => bif t then QV w S2 else wr (y δ S2) QV E) E) E) : wr (xorT x y δ S) QV E := wr_bind (h.mono fun w S h => wr_bind (h.mono fun t S h => by cases t <;> with_unfolding_all exact h))
theorem wr_chain {f f' : Va → Va → Sto → Rs Bool} (h : wr (x δ S) (fun u S1 => wr (y δ S1) (fun v S2 => wr (f u v S2) (fun t S3 => bif t then wr (z δ S3) (fun w S4 => wr (f' v w S4) QB E) E else QB false S3) E) E) E) : wr (xchain f f' x y z δ S) QB E :=
  wr_bind (h.mono fun _ _ h => wr_bind (h.mono fun _ _ h => wr_bind (h.mono fun t S h => by cases t with
    | false => with_unfolding_all exact h
    | true => exact wr_bind h)))
/-! primitives -/
theorem wr_addI {i j : Int} (h : QV (.int (i + j)) S) : wr (oAdd (.int i) (.int j) S) QV E := by with_unfolding_all exact h
theorem wr_addL {l m : Nat} (h1 : S[l]? = some (.lst ws)) (h2 : S[m]? = some (.lst us)) (h0 : (ws ++ us).length ≤ 16777216) (h : ∀ d T, d = S.length → T.length = S.length + 1 → Keep S T → T[d]? = some (.lst (ws ++ us)) → QV (.loc d) T) : wr (oAdd (.loc l) (.loc m) S) QV E := by
  unfold oAdd
  dsimp only
  rw [h1, h2]
  exact wr_llst h0 h
theorem wr_addT (h0 : (ws ++ us).length ≤ 16777216) (h : QV (.tup (ws ++ us)) S) : wr (oAdd (.tup ws) (.tup us) S) QV E := wr_of (ltup_eq S h0) h
theorem wr_subI {i j : Int} (h : QV (.int (i - j)) S) : wr (oSub (.int i) (.int j) S) QV E := by with_unfolding_all exact h
theorem wr_mulR {i j : Int} (h1 : -(2 ^ 64) < j) (h2 : j < 2 ^ 64) (h : QV (.int (i * j)) S) : wr (oMul (.int i) (.int j) S) QV E := wr_of (oMul_r S h1 h2) h
theorem wr_mulL {i j : Int} (h1 : -(2 ^ 64) < i) (h2 : i < 2 ^ 64) (h : QV (.int (i * j)) S) : wr (oMul (.int i) (.int j) S) QV E := wr_of (oMul_l S h1 h2) h
theorem wr_divI {i j : Int} (h1 : 0 < j) (h2 : j < 1073741824) (h : QV (.int (i / j)) S) : wr (oDiv (.int i) (.int j) S) QV E := wr_of (div_at h1 h2) h
theorem wr_modI {i j : Int} (h1 : 0 < j) (h : QV (.int (i % j)) S) : wr (oMod (.int i) (.int j) S) QV E := wr_of (mod_at h1) h
theorem wr_neg {i : Int} (h : QV (.int (-i)) S) : wr (oNeg (.int i) S) QV E := by with_unfolding_all exact h
theorem wr_lt {i j : Int} (h : QB (decide (i < j)) S) : wr (cLt (.int i) (.int j) S) QB E := by with_unfolding_all exact h
theorem wr_le {i j : Int} (h : QB (decide (i ≤ j)) S) : wr (cLe (.int i) (.int j) S) QB E := by with_unfolding_all exact h
theorem wr_gt {i j : Int} (h : QB (decide (j < i)) S) : wr (cGt (.int i) (.int j) S) QB E := by with_unfolding_all exact h
theorem wr_ge {i j : Int} (h : QB (decide (j ≤ i)) S) : wr (cGe (.int i) (.int j) S) QB E := by with_unfolding_all exact h
theorem wr_eqS {t : Bool} (e : scE a b = some t) (h : QB t S) : wr (cEq a b S) QB E := by
  unfold cEq
  rw [e]
  with_unfolding_all exact h
theorem wr_ne (h : wr (cEq a b S) (fun t S1 => QB (!t) S1) E) : wr (cNe a b S) QB E := wr_bind (h.mono fun _ _ h => by with_unfolding_all exact h)
theorem wr_isB {i j : Bool} (h : QB (decide (i = j)) S) : wr (cIs (.bl i) (.bl j) S) QB E := by with_unfolding_all exact h
theorem wr_isnB {i j : Bool} (h : QB (!decide (i = j)) S) : wr (cIsn (.bl i) (.bl j) S) QB E := by with_unfolding_all exact h
theorem wr_ixT {j : Int} (h2 : atI ws j = some w) (h : QV w S) : wr (oIx (.tup ws) (.int j) S) QV E := wr_of (ixT_at h2) h
theorem wr_ixL {j : Int} (h1 : S[l]? = some (.lst ws)) (h2 : atI ws j = some w) (h : QV w S) : wr (oIx (.loc l) (.int j) S) QV E := wr_of (ix_at (getL_lst h1) h2) h
theorem wr_trB {t : Bool} (h : QB t S) : wr (truV (.bl t) S) QB E := by with_unfolding_all exact h
theorem wr_trL (h1 : S[l]? = some (.lst ws)) (h : QB (!ws.isEmpty) S) : wr (truV (.loc l) S) QB E := by
  unfold truV
  dsimp only
  rw [getL_lst h1]
  with_unfolding_all exact h
theorem wr_lenL (h1 : S[l]? = some (.lst ws)) (h : QV (.int ws.length) S) : wr (fLen [.loc l] S) QV E := wr_of (len_at (getL_lst h1)) h
theorem wr_lenT (h : QV (.int ws.length) S) : wr (fLen [.tup ws] S) QV E := wr_of lenT_at h
theorem wr_intI {i : Int} (h : QV (.int i) S) : wr (fInt [.int i] S) QV E := by with_unfolding_all exact h
theorem wr_tupL (h1 : S[l]? = some (.lst ws)) (h0 : ws.length ≤ 16777216) (h : QV (.tup ws) S) : wr (fTup [.loc l] S) QV E := by
  unfold fTup
  dsimp only
  rw [getL_lst h1]
  exact wr_of (ltup_eq S h0) h
theorem wr_lsL (h1 : S[l]? = some (.lst ws)) (h0 : ws.length ≤ 16777216) (h : ∀ d T, d = S.length → T.length = S.length + 1 → Keep S T → T[d]? = some (.lst ws) → QV (.loc d) T) : wr (fList [.loc l] S) QV E := by
  unfold fList itm
  dsimp only
  rw [getL_lst h1]
  exact wr_llst h0 h
theorem wr_abs {i : Int} (h : QV (.int (if i < 0 then -i else i)) S) : wr (fAbs [.int i] S) QV E := by with_unfolding_all exact h
theorem wr_min2 {i j : Int} (h : QV (.int (if j < i then j else i)) S) : wr (fMin2 [.int i, .int j] S) QV E := by with_unfolding_all exact h
theorem wr_allL {bs : List Bool} (h1 : S[l]? = some (.lst (bs.map .bl))) (h : QV (.bl (bs.all id)) S) : wr (fAll [.loc l] S) QV E := by
  have e : bools (bs.map Va.bl) = some bs := by
    clear h h1
    induction bs with
    | nil => rfl
    | cons a r ih =>
      rw [List.map_cons]
      unfold bools
      rw [ih]
  unfold fAll
  dsimp only
  rw [getL_lst h1]
  dsimp only
  rw [e]
  with_unfolding_all exact h
/-! the store is written -/
theorem lt_of {o : Ob} (h : S[l]? = some o) : l < S.length := (List.getElem?_eq_some_iff.mp h).1
theorem wr_met {f : Va → List Va → Sto → Rs Va} (h : wr (x δ S) (fun w S1 => MetGo f w S1 (wr (as δ S1) (fun us S2 => wr (f w us S2) QV E) E)) E) : wr (xmetL f x as δ S) QV E := by
  refine wr_bind (h.mono fun w S ⟨l, ws, e1, e2, h⟩ => ?_)
  subst e1
  rw [if_pos (isL_of e2)]
  exact wr_bind h
theorem wr_met0 {f : Va → List Va → Sto → Rs Va} (h : wr (x δ S) (fun w S1 => MetGo f w S1 (wr (f w [] S1) QV E)) E) : wr (xmet0 f x δ S) QV E := by
  refine wr_bind (h.mono fun w S ⟨l, ws, e1, e2, h⟩ => ?_)
  subst e1
  rw [if_pos (isL_of e2)]
  with_unfolding_all exact h
theorem wr_app (h1 : S[l]? = some (.lst ws)) (h0 : ws.length < 16777216) (h : ∀ T, T.length = S.length → KeepB l S T → T[l]? = some (.lst (ws ++ [w])) → QV .non T) : wr (oApp (.loc l) [w] S) QV E := by
  rw [oApp_eq h1 h0]
  with_unfolding_all exact h _ (by simp) (KeepB.set _ _ _) (List.getElem?_set_self (lt_of h1))
theorem wr_pop {k : Nat} {j : Int} (h1 : S[l]? = some (.lst ws)) (hk : ixN ws.length j = some k) (hb : big j = true) (hy : ws[k]? = some w) (h : ∀ T, T.length = S.length → KeepB l S T → T[l]? = some (.lst (ws.eraseIdx k)) → QV w T) : wr (oPop (.loc l) [.int j] S) QV E := by
  have e : oPop (.loc l) [.int j] S = .ok w (S.set l (.lst (ws.eraseIdx k))) := by
    unfold oPop
    dsimp only
    rw [h1]
    dsimp only
    rw [hb, hk]
    dsimp only
    rw [hy]
    simp
  rw [e]
  with_unfolding_all exact h _ (by simp) (KeepB.set _ _ _) (List.getElem?_set_self (lt_of h1))
/-! statements -/
theorem wo_nx (h : N δ S) : wo (snext δ S) N K := by with_unfolding_all exact h
theorem wo_seq (h : wo (s δ S) (fun δ1 S1 => wo (t δ1 S1) N K) K) : wo (sseq s t δ S) N K := by
  unfold sseq
  cases e : s δ S with
  | nx δ1 S1 => rw [e] at h; with_unfolding_all exact h
  | _ => rw [e] at h; with_unfolding_all exact h
theorem wo_set (h : wr (x δ S) (fun w S1 => N (δ.set i (some w)) S1) (K.ex δ)) : wo (sset i x δ S) N K := wo_out (h.mono fun _ _ h => by with_unfolding_all exact h)
theorem wo_exp (h : wr (x δ S) (fun _ S1 => N δ S1) (K.ex δ)) : wo (sexp x δ S) N K := wo_out (h.mono fun _ _ h => by with_unfolding_all exact h)
theorem wo_ret (h : wr (x δ S) (fun w S1 => K.rt w S1) (K.ex δ)) : wo (sret x δ S) N K := wo_out (h.mono fun _ _ h => by with_unfolding_all exact h)
theorem wo_retN (h : K.rt .non S) : wo (sretN δ S) N K := by with_unfolding_all exact h
theorem wo_brk (h : K.bk δ S) : wo (sbrk δ S) N K := by with_unfolding_all exact h
theorem wo_cnt (h : K.ct δ S) : wo (scnt δ S) N K := by with_unfolding_all exact h
theorem wo_if (h : wr (p δ S) (fun b S1 => bif b then wo (s δ S1) N K else wo (t δ S1) N K) (K.ex δ)) : wo (sif p s t δ S) N K := wo_out (h.mono fun b S h => by cases b <;> with_unfolding_all exact h)
theorem wo_raise {c : Nat} (h : K.ex δ c [] S) : wo (sraise c δ S) N K := by with_unfolding_all exact h
theorem wo_asg {put : XP} (h : wr (x δ S) (fun w S1 => AsgGo put w δ S1 N) (K.ex δ)) : wo (sasg put x δ S) N K := wo_out (h.mono fun w S ⟨δ1, e, h⟩ => by rw [e]; with_unfolding_all exact h)
theorem wo_par {is : List Nat} (h : wr (as δ S) (fun us S1 => ParGo is us δ S1 N) (K.ex δ)) : wo (spar is as δ S) N K := wo_out (h.mono fun us S h => by rw [if_pos h.1]; with_unfolding_all exact h.2)
theorem wo_sub (h : wr (z δ S) (fun w S1 => wr (x δ S1) (fun u S2 => wr (y δ S2) (fun j S3 => wo (oPut u j w δ S3) N K) (K.ex δ)) (K.ex δ)) (K.ex δ)) : wo (ssub x y z δ S) N K := wo_out (h.mono fun _ _ h => wo_out (h.mono fun _ _ h => wo_out h))
theorem wo_put {j : Int} {k : Nat} (h1 : S[l]? = some (.lst ws)) (h2 : ixN ws.length j = some k) (h : ∀ T, T.length = S.length → KeepB l S T → T[l]? = some (.lst (ws.set k w)) → N δ T) : wo (oPut (.loc l) (.int j) w δ S) N K := by
  rw [put_at h1 h2]
  with_unfolding_all exact h _ (by simp) (KeepB.set _ _ _) (List.getElem?_set_self (lt_of h1))
/-! a def -/
theorem fn_wo {k : Nat} {b : XS} (e : ws.map some ++ List.replicate (k - ws.length) none = δ) (h : wo (b δ S) (fun _ S1 => QV .non S1) (fnK QV E)) : wr (mkFn k b ws S) QV E := by
  unfold mkFn
  rw [e]
  cases q : b δ S with
  | nx δ1 S1 => rw [q] at h; with_unfolding_all exact h
  | rt w S1 => rw [q] at h; with_unfolding_all exact h
  | ex c fs δ1 S1 => rw [q] at h; with_unfolding_all exact h
  | _ => rw [q] at h; with_unfolding_all exact h.elim
/-! loops -/
theorem wo_for {xi : XI} {put : XP} {body : XS} (h : wr (xi δ S) (fun a S1 => wo (forG a.2 put body a.1 0 δ S1) N K) (K.ex δ)) : wo (sfor xi put body δ S) N K := wo_out h
theorem wr_isq {Q : Nat × Nth → Sto → Prop} (h : wr (x δ S) (fun w S1 => IsqGo w S1 Q) E) : wr (isq x δ S) Q E := wr_bind (h.mono fun w S h => by
  rcases h with ⟨ws, e, h⟩ | ⟨l, ws, e, e2, h⟩
  · subst e; with_unfolding_all exact h
  · subst e
    dsimp only
    rw [getL_lst e2]
    with_unfolding_all exact h)
theorem wr_irg1 {Q : Nat × Nth → Sto → Prop} (h : wr (x δ S) (fun w S1 => RngGo w S1 Q) E) : wr (irg1 x δ S) Q E := wr_bind (h.mono fun w S ⟨n, e, hn, h⟩ => by
  subst e
  have hb : big (n : Int) = true := by unfold big; simp; omega
  dsimp only
  rw [hb]
  with_unfolding_all exact h)
theorem wo_lp {nth : Nth} {put : XP} {body : XS} {ws : List Va} (I : Nat → Env → Sto → Prop) (hn : ∀ i δ S, I i δ S → nth S i = some ws[i]?) (hs : ∀ i w δ S, ws[i]? = some w → I i δ S → ∃ δ1, put w δ = some δ1 ∧ wo (body δ1 S) (I (i + 1)) (K.lp N (I (i + 1))))
    (hq : ∀ δ S, I ws.length δ S → N δ S) : ∀ m i δ S, i + m = ws.length → I i δ S → wo (forG nth put body (m + 1) i δ S) N K
  | 0, i, δ, S, e, h => by
    unfold forG
    rw [hn i δ S h, List.getElem?_eq_none (by omega)]
    rw [show i = ws.length by omega] at h
    with_unfolding_all exact hq δ S h
  | m + 1, i, δ, S, e, h => by
    unfold forG
    have hi : i < ws.length := by omega
    have hw := List.getElem?_eq_getElem hi
    rw [hn i δ S h, hw]
    obtain ⟨δ1, e1, hb⟩ := hs i _ δ S hw h
    dsimp only
    rw [e1]
    dsimp only
    cases q : body δ1 S with
    | nx δ2 S2 => rw [q] at hb; with_unfolding_all exact wo_lp I hn hs hq m (i + 1) δ2 S2 (by omega) hb
    | ct δ2 S2 => rw [q] at hb; with_unfolding_all exact wo_lp I hn hs hq m (i + 1) δ2 S2 (by omega) hb
    | _ => rw [q] at hb; with_unfolding_all exact hb
theorem wo_loc {put : XP} {body : XS} (I : Nat → Env → Sto → Prop) (h0 : I 0 δ S) (hn : ∀ i δ S, I i δ S → S[l]? = some (.lst ws)) (hs : ∀ i w δ S, ws[i]? = some w → I i δ S → ∃ δ1, put w δ = some δ1 ∧ wo (body δ1 S) (I (i + 1)) (K.lp N (I (i + 1))))
    (hq : ∀ δ S, I ws.length δ S → N δ S) : wo (forG (nloc l) put body (ws.length + 1) 0 δ S) N K :=
  wo_lp I (fun i δ S h => by unfold nloc; rw [getL_lst (hn i δ S h)]; rfl) hs hq ws.length 0 δ S (by omega) h0
theorem wo_tup {put : XP} {body : XS} (I : Nat → Env → Sto → Prop) (h0 : I 0 δ S) (hs : ∀ i w δ S, ws[i]? = some w → I i δ S → ∃ δ1, put w δ = some δ1 ∧ wo (body δ1 S) (I (i + 1)) (K.lp N (I (i + 1))))
    (hq : ∀ δ S, I ws.length δ S → N δ S) : wo (forG (nseq ws) put body (ws.length + 1) 0 δ S) N K :=
  wo_lp I (fun i δ S h => rfl) hs hq ws.length 0 δ S (by omega) h0
theorem wo_rng {put : XP} {body : XS} {lo : Int} (I : Nat → Env → Sto → Prop) (h0 : I 0 δ S) (hs : ∀ i δ S, i < n → I i δ S → ∃ δ1, put (.int (lo + i)) δ = some δ1 ∧ wo (body δ1 S) (I (i + 1)) (K.lp N (I (i + 1))))
    (hq : ∀ δ S, I n δ S → N δ S) : wo (forG (nrng lo n) put body (n + 1) 0 δ S) N K := by
  have e : ((List.range n).map fun i : Nat => Va.int (lo + i)).length = n := by simp
  refine wo_lp (ws := (List.range n).map fun i : Nat => Va.int (lo + i)) I (fun i δ S h => ?_) (fun i w δ S hw h => ?_) (fun δ S h => hq δ S (by rw [e] at h; with_unfolding_all exact h)) n 0 δ S (by rw [e]; omega) h0
  · unfold nrng
    by_cases c : i < n
    · rw [if_pos c]; simp [c]
    · rw [if_neg c]; simp [c]
  · by_cases c : i < n
    · simp [c] at hw
      subst hw
      with_unfolding_all exact hs i δ S c h
    · simp [c] at hw
/-! comprehensions -/
theorem wr_comp {vs : List Nat} {xi : XI} {put : XP} {cond : XT} {elt : XE} (h : wr (xi δ S) (fun a S1 => ∀ D T, D = S1.length → T.length = S1.length + 1 → Keep S1 T → T[D]? = some (.lst []) → wr (compG a.2 put cond elt D (wipeE δ vs) a.1 0 T) QV E) E) : wr (xcomp vs xi put cond elt δ S) QV E :=
  wr_bind (h.mono fun a S h => h _ _ rfl (by simp) (Keep.app _ _) (get_new _ _ _))
theorem wr_cG {nth : Nth} {put : XP} {cond : XT} {elt : XE} {D : Nat} {ws : List Va} (hz : ws.length ≤ 16777215) (I : Nat → List Va → Sto → Prop) (hn : ∀ i acc S, I i acc S → nth S i = some ws[i]?)
    (hs : ∀ i w acc S, ws[i]? = some w → I i acc S → S[D]? = some (.lst acc) → ∃ δ1, put w δ = some δ1 ∧ wr (cond δ1 S) (fun b S1 => bif b then wr (elt δ1 S1) (fun v S2 => S2[D]? = some (.lst acc) ∧ ∀ T, T.length = S2.length → KeepB D S2 T → T[D]? = some (.lst (acc ++ [v])) → I (i + 1) (acc ++ [v]) T) noE else S1[D]? = some (.lst acc) ∧ I (i + 1) acc S1) noE)
    (hq : ∀ acc S, I ws.length acc S → S[D]? = some (.lst acc) → QV (.loc D) S) : ∀ m i acc S, i + m = ws.length → acc.length ≤ i → I i acc S → S[D]? = some (.lst acc) → wr (compG nth put cond elt D δ (m + 1) i S) QV E
  | 0, i, acc, S, e, ha, h, hD => by
    unfold compG
    rw [hn i acc S h, List.getElem?_eq_none (by omega)]
    rw [show i = ws.length by omega] at h
    with_unfolding_all exact hq acc S h hD
  | m + 1, i, acc, S, e, ha, h, hD => by
    unfold compG
    have hi : i < ws.length := by omega
    have hw := List.getElem?_eq_getElem hi
    rw [hn i acc S h, hw]
    obtain ⟨δ1, e1, hb⟩ := hs i _ acc S hw h hD
    dsimp only
    rw [e1]
    dsimp only
    obtain ⟨b, S1, q1, hb⟩ := ok_ex hb
    rw [q1]
    cases b with
    | false =>
      dsimp only
      exact wr_cG hz I hn hs hq m (i + 1) acc S1 (by omega) (by omega) hb.2 hb.1
    | true =>
      obtain ⟨v, S2, q2, hb1, hb2⟩ := ok_ex (show wr (elt δ1 S1) _ noE from hb)
      dsimp only
      rw [q2]
      dsimp only
      rw [hb1]
      dsimp only
      rw [fits_of (by omega)]
      have g := hb2 _ (by simp) (KeepB.set _ _ _) (List.getElem?_set_self (lt_of hb1))
      exact wr_cG hz I hn hs hq m (i + 1) (acc ++ [v]) _ (by omega) (by simp; omega) g (List.getElem?_set_self (lt_of hb1))
theorem wr_cL {put : XP} {cond : XT} {elt : XE} {D : Nat} (hz : ws.length ≤ 16777215) (I : Nat → List Va → Sto → Prop) (h0 : I 0 [] S) (hD : S[D]? = some (.lst [])) (hn : ∀ i acc S, I i acc S → S[l]? = some (.lst ws))
    (hs : ∀ i w acc S, ws[i]? = some w → I i acc S → S[D]? = some (.lst acc) → ∃ δ1, put w δ = some δ1 ∧ wr (cond δ1 S) (fun b S1 => bif b then wr (elt δ1 S1) (fun v S2 => S2[D]? = some (.lst acc) ∧ ∀ T, T.length = S2.length → KeepB D S2 T → T[D]? = some (.lst (acc ++ [v])) → I (i + 1) (acc ++ [v]) T) noE else S1[D]? = some (.lst acc) ∧ I (i + 1) acc S1) noE)
    (hq : ∀ acc S, I ws.length acc S → S[D]? = some (.lst acc) → QV (.loc D) S) : wr (compG (nloc l) put cond elt D δ (ws.length + 1) 0 S) QV E :=
  wr_cG hz I (fun i acc S h => by unfold nloc; rw [getL_lst (hn i acc S h)]; rfl) hs hq ws.length 0 [] S (by omega) (Nat.le_refl _) h0 hD
theorem wr_cR {put : XP} {cond : XT} {elt : XE} {D : Nat} {lo : Int} (hz : n ≤ 16777215) (I : Nat → List Va → Sto → Prop) (h0 : I 0 [] S) (hD : S[D]? = some (.lst []))
    (hs : ∀ i acc S, i < n → I i acc S → S[D]? = some (.lst acc) → ∃ δ1, put (.int (lo + i)) δ = some δ1 ∧ wr (cond δ1 S) (fun b S1 => bif b then wr (elt δ1 S1) (fun v S2 => S2[D]? = some (.lst acc) ∧ ∀ T, T.length = S2.length → KeepB D S2 T → T[D]? = some (.lst (acc ++ [v])) → I (i + 1) (acc ++ [v]) T) noE else S1[D]? = some (.lst acc) ∧ I (i + 1) acc S1) noE)
    (hq : ∀ acc S, I n acc S → S[D]? = some (.lst acc) → QV (.loc D) S) : wr (compG (nrng lo n) put cond elt D δ (n + 1) 0 S) QV E := by
  have e : ((List.range n).map fun i : Nat => Va.int (lo + i)).length = n := by simp
  refine wr_cG (ws := (List.range n).map fun i : Nat => Va.int (lo + i)) (by rw [e]; exact hz) I (fun i acc S h => ?_) (fun i w acc S hw h hD => ?_) (fun acc S h => hq acc S (by rw [e] at h; with_unfolding_all exact h)) n 0 [] S (by rw [e]; omega) (Nat.le_refl _) h0 hD
  · unfold nrng
    by_cases c : i < n
    · rw [if_pos c]; simp [c]
    · rw [if_neg c]; simp [c]
  · by_cases c : i < n
    · simp [c] at hw
      subst hw
      with_unfolding_all exact hs i acc S c h hD
    · simp [c] at hw
theorem fnGo {f : List Va → Sto → Rs Va} (h : us.length = n) (h2 : wr (f us S) QV E) : FnGo n f us S QV E := ⟨h, h2⟩
theorem tupGo (h : us.length ≤ 16777216) (h2 : QV (.tup us) S) : TupGo us S QV := ⟨h, h2⟩
theorem lstGo (h : us.length ≤ 16777216) (h2 : ∀ l T, l = S.length → T.length = S.length + 1 → Keep S T → T[l]? = some (.lst us) → QV (.loc l) T) : LstGo us S QV := ⟨h, h2⟩
theorem parGo {is : List Nat} (h : us.length = is.length) (h2 : N ((is.zip us).foldl (fun d p => d.set p.1 (some p.2)) δ) S) : ParGo is us δ S N := ⟨h, h2⟩
theorem asgGo {put : XP} (h : put w δ = some δ1) (h2 : N δ1 S) : AsgGo put w δ S N := ⟨δ1, h, h2⟩
theorem blGo {t : Bool} {A B : Prop} (h : bif t then A else B) : BlGo (.bl t) A B := ⟨t, rfl, h⟩
theorem metGo {f : Va → List Va → Sto → Rs Va} {P : Prop} (h : S[l]? = some (.lst ws)) (h2 : P) : MetGo f (.loc l) S P := ⟨l, ws, rfl, h, h2⟩
theorem fldGo {c i : Nat} {fs : List Va} (h : S[l]? = some (.ins c fs)) (h2 : fs[i]? = some v) (h3 : QV v S) : FldGo c i (.loc l) S QV := ⟨l, fs, v, rfl, h, h2, h3⟩
theorem newGo {c : Nat} {f : List Va → Sto → Rs Va} (h : us.length + 1 = n) (h2 : ∀ l T, l = S.length → T.length = S.length + 1 → Keep S T → T[l]? = some (.ins c []) → wr (f (.loc l :: us) T) (fun v U => v = .non ∧ QV (.loc l) U) E) : NewGo c n f us S QV E := ⟨h, h2 _ _ rfl (by simp) (Keep.app S _) (get_new S (.ins c []) [])⟩
theorem newGo' {c : Nat} {f : List Va → Sto → Rs Va} {P : Sto → Prop} (h : us.length + 1 = n) (h2 : ∃ T, f (.loc S.length :: us) (S ++ [.ins c []]) = .ok .non T ∧ P T) (h3 : ∀ T, P T → QV (.loc S.length) T) : NewGo c n f us S QV E := ⟨h, by obtain ⟨T, e, p⟩ := h2; exact wr_of e ⟨rfl, h3 T p⟩⟩
theorem propGo {c : Nat} {fs : List Va} {f : List Va → Sto → Rs Va} (h : S[l]? = some (.ins c fs)) (h2 : wr (f [.loc l] S) QV noE) : PropGo c f (.loc l) S QV := ⟨l, fs, rfl, h, h2⟩
theorem isqT {Q : Nat × Nth → Sto → Prop} (h : Q (ws.length + 1, nseq ws) S) : IsqGo (.tup ws) S Q := .inl ⟨ws, rfl, h⟩
theorem isqL {Q : Nat × Nth → Sto → Prop} (h : S[l]? = some (.lst ws)) (h2 : Q (ws.length + 1, nloc l) S) : IsqGo (.loc l) S Q := .inr ⟨l, ws, rfl, h, h2⟩
theorem rngGo {Q : Nat × Nth → Sto → Prop} {j : Int} (n : Nat) (e : j = n) (h : n ≤ 100000) (h2 : Q (n + 1, nrng 0 n) S) : RngGo (.int j) S Q := ⟨n, by rw [e], h, h2⟩
theorem wr_ex {P : Sto → Prop} {a : α} (h : ∃ T, r = .ok a T ∧ P T) (k : ∀ T, P T → Q a T) : wr r Q E := by
  obtain ⟨T, e, p⟩ := by with_unfolding_all exact h
  rw [e]
  with_unfolding_all exact k T p
/-! instances -/
theorem wr_fld {c i : Nat} (h : wr (x δ S) (fun w S1 => FldGo c i w S1 QV) E) : wr (xfld c i x δ S) QV E := wr_bind (h.mono fun w S ⟨l, fs, v, e1, e2, e3, h⟩ => by
  subst e1
  rw [show insAt c (.loc l) S = some fs by simp only [insAt]; rw [e2]; simp]
  dsimp only
  rw [e3]
  with_unfolding_all exact h)
theorem wo_fld {c i : Nat} (h : wr (y δ S) (fun u S1 => wr (x δ S1) (fun w S2 => ∃ l fs, w = .loc l ∧ S2[l]? = some (.ins c fs) ∧ i = fs.length ∧ ∀ T, T.length = S2.length → KeepB l S2 T → T[l]? = some (.ins c (fs ++ [u])) → N δ T) (K.ex δ)) (K.ex δ)) : wo (sfld c i x y δ S) N K :=
  wo_out (h.mono fun u S1 h => wo_out (h.mono fun w S2 ⟨l, fs, e1, e2, e3, h⟩ => by
    subst e1
    dsimp only
    rw [show insAt c (.loc l) S2 = some fs by simp only [insAt]; rw [e2]; simp]
    dsimp only
    rw [if_pos e3]
    with_unfolding_all exact h _ (by simp) (KeepB.set _ _ _) (List.getElem?_set_self (lt_of e2))))
theorem wr_new {c : Nat} {f : List Va → Sto → Rs Va} (h : wr (as δ S) (fun us S1 => NewGo c n f us S1 QV E) E) : wr (ynew c n f as δ S) QV E := wr_bind (h.mono fun us S ⟨e, h⟩ => by
  rw [if_pos e]
  exact wr_bind (h.mono fun v U ⟨e, h⟩ => by subst e; with_unfolding_all exact h))
theorem wr_prop {c : Nat} {f : List Va → Sto → Rs Va} (h : wr (x δ S) (fun w S1 => PropGo c f w S1 QV) E) : wr (yprop c f x δ S) QV E := wr_bind (h.mono fun w S ⟨l, fs, e1, e2, h⟩ => by
  subst e1
  rw [show insAt c (.loc l) S = some fs by simp only [insAt]; rw [e2]; simp]
  dsimp only
  obtain ⟨v, T, e, q⟩ := ok_ex h
  rw [e]
  with_unfolding_all exact q)
theorem wr_eqO {c : Nat} {f : List Va → Sto → Rs Va} {fs gs : List Va} {t : Bool} (h1 : S[l]? = some (.ins c fs)) (h2 : S[m]? = some (.ins c gs)) (h : wr (f [.loc l, .loc m] S) (fun v T => ∃ t, v = .bl t ∧ QB t T) noE) : wr (cEqO c f (.loc l) (.loc m) S) QB E := by
  obtain ⟨v, T, e, t, rfl, q⟩ := ok_ex h
  unfold cEqO
  rw [show insAt c (.loc l) S = some fs by simp only [insAt]; rw [h1]; simp]
  dsimp only
  rw [show insAt c (.loc m) S = some gs by simp only [insAt]; rw [h2]; simp]
  show wr (match f [.loc l, .loc m] S with | .ok (.bl t) S1 => Rs.ok t S1 | _ => .bad) QB E
  rw [e]
  with_unfolding_all exact q
theorem wr_neO {c : Nat} {f : List Va → Sto → Rs Va} (h : wr (cEqO c f a b S) (fun t T => QB (!t) T) noE) : wr (cNeO c f a b S) QB E := by
  obtain ⟨t, T, e, q⟩ := ok_ex h
  unfold cNeO
  rw [e]
  with_unfolding_all exact q
theorem wr_isC {c : Nat} {fs : List Va} (h1 : S[l]? = some (.ins c fs)) (h : QV (.bl true) S) : wr (fIsC c [.loc l, .cl c] S) QV E := by
  unfold fIsC
  dsimp only
  rw [if_pos rfl, show insAt c (.loc l) S = some fs by simp only [insAt]; rw [h1]; simp]
  with_unfolding_all exact h
/-! kinds -/
theorem wr_isi {j : Nat} (h1 : kind w S = some m) (h2 : j < 7) (h : QV (.bl (isK m j)) S) : wr (fIsi [w, .ty j] S) QV E := by
  unfold fIsi
  dsimp only
  rw [h1]
  dsimp only
  rw [if_pos h2]
  with_unfolding_all exact h
theorem kindL (h : S[l]? = some (.lst ws)) : kind (.loc l) S = some 5 := by
  unfold kind
  dsimp only
  rw [h]
/-! parts of lists -/
theorem wr_sl {p q : XPt} (h : wr (x δ S) (fun w S1 => wr (p δ S1) (fun lo S2 => wr (q δ S2) (fun hi S3 => wr (oCut w lo hi S3) QV E) E) E) E) : wr (xslice x p q δ S) QV E := wr_bind (h.mono fun _ _ h => wr_bind (h.mono fun _ _ h => wr_bind h))
theorem wr_nop {QO : Option Int → Sto → Prop} (h : QO none S) : wr (xnop δ S) QO E := by with_unfolding_all exact h
theorem wr_part {QO : Option Int → Sto → Prop} (h : wr (x δ S) (fun w S1 => ∃ i, w = .int i ∧ QO (some i) S1) E) : wr (xpart x δ S) QO E := wr_bind (h.mono fun w S ⟨i, e, h⟩ => by subst e; with_unfolding_all exact h)
theorem cut_le (ws : List Va) (lo hi : Option Int) : (cutA ws lo hi).length ≤ ws.length := by unfold cutA; simp; omega
theorem wr_cut {lo hi : Option Int} (h1 : S[l]? = some (.lst ws)) (h0 : ws.length ≤ 16777216) (h : ∀ d T, d = S.length → T.length = S.length + 1 → Keep S T → T[d]? = some (.lst (cutA ws lo hi)) → QV (.loc d) T) : wr (oCut (.loc l) lo hi S) QV E := by
  unfold oCut
  dsimp only
  rw [getL_lst h1]
  exact wr_llst (Nat.le_trans (cut_le _ _ _) h0) h
theorem wr_rev (h1 : S[l]? = some (.lst ws)) (h0 : ws.length ≤ 16777216) (h : ∀ d T, d = S.length → T.length = S.length + 1 → Keep S T → T[d]? = some (.lst ws.reverse) → QV (.loc d) T) : wr (oRev (.loc l) S) QV E := by
  unfold oRev
  dsimp only
  rw [getL_lst h1]
  exact wr_llst (by rw [List.length_reverse]; exact h0) h
/-! dicts -/
theorem dct_atO {kvs : List (Va × Va)} (h : S[l]? = some (.dct kvs) ∨ S[l]? = some (.frd kvs)) : dctAt (.loc l) S = some kvs := by
  show (match S[l]? with | some (.dct kvs) => some kvs | some (.frd kvs) => some kvs | _ => none) = _
  rcases h with h | h <;> rw [h]
theorem wr_dix {kvs : List (Va × Va)} {k : NestedKey} (h1 : dctAt (.loc l) S = some kvs) (h2 : keyT w = some k) (h3 : valD kvs k = some v) (h : QV v S) : wr (oDix (.loc l) w S) QV E := by
  unfold oDix
  rw [h1, h2]
  dsimp only
  rw [h3]
  with_unfolding_all exact h
theorem wr_dict0 (h : ∀ d T, d = S.length → T.length = S.length + 1 → Keep S T → T[d]? = some (.dct []) → QV (.loc d) T) : wr (xdict0 δ S) QV E := by with_unfolding_all exact h _ _ rfl (by simp) (Keep.app _ _) (get_new _ _ _)
theorem wr_dictI0 (h : ∀ d T, d = S.length → T.length = S.length + 1 → Keep S T → T[d]? = some (.dci []) → QV (.loc d) T) : wr (xdictI0 δ S) QV E := by with_unfolding_all exact h _ _ rfl (by simp) (Keep.app _ _) (get_new _ _ _)
theorem wo_dsub (h : wr (z δ S) (fun w S1 => wr (x δ S1) (fun u S2 => wr (y δ S2) (fun j S3 => wo (oDput u j w δ S3) N K) (K.ex δ)) (K.ex δ)) (K.ex δ)) : wo (sdsub x y z δ S) N K := wo_out (h.mono fun _ _ h => wo_out (h.mono fun _ _ h => wo_out h))
theorem wo_dput {kvs : List (Va × Va)} {k : NestedKey} (h1 : S[l]? = some (.dct kvs)) (h2 : keyT v = some k) (hd : k.depth ≤ 8) (hz : kvs.length < 16777216) (h : ∀ T, T.length = S.length → KeepB l S T → T[l]? = some (.dct (stD kvs v k w)) → N δ T) : wo (oDput (.loc l) v w δ S) N K := by
  have e : dctW (.loc l) S = some kvs := by
    show (match S[l]? with | some (.dct kvs) => some kvs | _ => none) = _
    rw [h1]
  unfold oDput
  dsimp only
  rw [e, h2]
  dsimp only
  rw [decide_eq_true hd, fits_of (by omega)]
  with_unfolding_all exact h _ (by simp) (KeepB.set _ _ _) (List.getElem?_set_self (lt_of h1))
theorem wr_lock {e : XE} {kvs : List (Va × Va)} (hx : x δ S = .ok (.loc l) S1) (h1 : S[l]? = some (.dct kvs)) (h : ∀ T, T.length = S.length → KeepB l S T → T[l]? = some (.frd kvs) → wr (e δ T) (fun w U => U[l]? = some (.frd kvs) ∧ ∀ V, V.length = U.length → KeepB l U V → V[l]? = some (.dct kvs) → QV w V) noE) : wr (xlock x e δ S) QV E := by
  have g := h _ (by simp) (KeepB.set l S (.frd kvs)) (List.getElem?_set_self (lt_of h1))
  obtain ⟨w, U, e1, e2, e3⟩ := ok_ex g
  unfold xlock
  rw [hx]
  dsimp only
  rw [h1]
  dsimp only
  rw [e1]
  dsimp only
  unfold unlS
  rw [e2]
  with_unfolding_all exact e3 _ (by simp) (KeepB.set _ _ _) (List.getElem?_set_self (lt_of e2))
theorem wr_items {Q : Nat × Nth → Sto → Prop} (h : wr (x δ S) (fun w S1 => ∃ l kvs, w = .loc l ∧ S1[l]? = some (.frd kvs) ∧ Q (kvs.length + 1, nseq (kvs.map fun p => .tup [p.1, p.2])) S1) E) : wr (iitems x δ S) Q E := wr_bind (h.mono fun w S ⟨l, kvs, e, e2, h⟩ => by
  subst e
  dsimp only
  rw [e2]
  with_unfolding_all exact h)
theorem wr_keys {Q : Nat × Nth → Sto → Prop} (h : wr (x δ S) (fun w S1 => ∃ l kvs, w = .loc l ∧ S1[l]? = some (.frd kvs) ∧ Q (kvs.length + 1, nseq (kvs.map Prod.fst)) S1) E) : wr (ikeys x δ S) Q E := wr_bind (h.mono fun w S ⟨l, kvs, e, e2, h⟩ => by
  subst e
  dsimp only
  rw [e2]
  with_unfolding_all exact h)
theorem wr_isD {kvs : List (Va × Va)} {j : Nat} (h1 : dctAt (.loc l) S = some kvs) (h2 : j < 7) (h : QV (.bl (isK 6 j)) S) : wr (fIsD [.loc l, .ty j] S) QV E := by
  unfold fIsD
  dsimp only
  rw [h1]
  dsimp only
  rw [if_pos h2]
  with_unfolding_all exact h
theorem wr_truD {kvs : List (Va × Va)} (h : wr (x δ S) (fun w S1 => ∃ l kvs, w = .loc l ∧ dctAt (.loc l) S1 = some kvs ∧ QB (!kvs.isEmpty) S1) E) : wr (xtruD x δ S) QB E := wr_bind (h.mono fun w S ⟨l, kvs, e, e2, h⟩ => by
  subst e
  unfold truD
  rw [e2]
  with_unfolding_all exact h)
theorem wr_srtD {kvs : List (Va × Va)} (h1 : dctAt (.loc l) S = some kvs) (h2 : sortV (kvs.map Prod.fst) = true) (h0 : kvs.length ≤ 16777216) (h : ∀ d T, d = S.length → T.length = S.length + 1 → Keep S T → T[d]? = some (.lst (vsort (kvs.map Prod.fst))) → QV (.loc d) T) : wr (fSrtD [.loc l] S) QV E := by
  unfold fSrtD
  dsimp only
  rw [h1]
  dsimp only
  rw [h2]
  exact wr_llst (by unfold vsort; simp; exact h0) h
/-! a dict by a comprehension: its keys go through P in order -/
theorem wr_dcomp {vs : List Nat} {xi : XI} {put : XP} {cond : XT} {kx vx : XE} (h : wr (xi δ S) (fun a S1 => ∀ D T, D = S1.length → T.length = S1.length + 1 → Keep S1 T → T[D]? = some (.dct []) → wr (dcG a.2 put cond kx vx D (wipeE δ vs) a.1 0 T) QV E) E) : wr (xdcomp vs xi put cond kx vx δ S) QV E :=
  wr_bind (h.mono fun a S h => h _ _ rfl (by simp) (Keep.app _ _) (get_new _ _ _))
theorem wr_dcG {nth : Nth} {put : XP} {kx vx : XE} {D : Nat} {ws : List Va} (hz : ws.length ≤ 16777215) (I : Nat → List (Va × Va) → Sto → Prop) (hn : ∀ i acc S, I i acc S → nth S i = some ws[i]?)
    (hs : ∀ i w acc S, ws[i]? = some w → I i acc S → S[D]? = some (.dct acc) → ∃ δ1, put w δ = some δ1 ∧ wr (kx δ1 S) (fun y S1 => wr (vx δ1 S1) (fun z S2 => ∃ k, keyT y = some k ∧ S2[D]? = some (.dct acc) ∧ stD acc y k z = acc ++ [(y, z)] ∧ ∀ T, T.length = S2.length → KeepB D S2 T → T[D]? = some (.dct (acc ++ [(y, z)])) → I (i + 1) (acc ++ [(y, z)]) T) noE) noE)
    (hq : ∀ acc S, I ws.length acc S → S[D]? = some (.dct acc) → QV (.loc D) S) : ∀ m i acc S, i + m = ws.length → acc.length ≤ i → I i acc S → S[D]? = some (.dct acc) → wr (dcG nth put xyes kx vx D δ (m + 1) i S) QV E
  | 0, i, acc, S, e, ha, h, hD => by
    unfold dcG
    rw [hn i acc S h, List.getElem?_eq_none (by omega)]
    rw [show i = ws.length by omega] at h
    with_unfolding_all exact hq acc S h hD
  | m + 1, i, acc, S, e, ha, h, hD => by
    unfold dcG
    have hi : i < ws.length := by omega
    have hw := List.getElem?_eq_getElem hi
    rw [hn i acc S h, hw]
    obtain ⟨δ1, e1, hb⟩ := hs i _ acc S hw h hD
    dsimp only
    rw [e1]
    obtain ⟨y, S1, q1, hb⟩ := ok_ex hb
    obtain ⟨z, S2, q2, k, g1, g2, g3, g4⟩ := ok_ex hb
    show wr (match kx δ1 S with | .ok y S2 => (match vx δ1 S2 with | .ok z S3 => (match S3[D]?, keyT y with | some (.dct kvs), some k => bif fits (kvs.length + 1) then dcG nth put xyes kx vx D δ (m + 1) (i + 1) (S3.set D (.dct (stD kvs y k z))) else .bad | _, _ => .bad) | _ => .bad) | _ => .bad) QV E
    rw [q1]
    dsimp only
    rw [q2]
    dsimp only
    rw [g2, g1]
    dsimp only
    rw [fits_of (by omega), g3]
    have g := g4 _ (by simp) (KeepB.set _ _ _) (List.getElem?_set_self (lt_of g2))
    exact wr_dcG hz I hn hs hq m (i + 1) _ _ (by omega) (by simp; omega) g (List.getElem?_set_self (lt_of g2))
/-! exceptions -/
theorem wr_exc {P : Sto → Prop} {c : Nat} {fs : List Va} (h : ∃ T, r = .ex c fs T ∧ P T) (k : ∀ T, P T → E c fs T) : wr r Q E := by
  obtain ⟨T, e, p⟩ := by with_unfolding_all exact h
  rw [e]
  with_unfolding_all exact k T p
theorem ex_of {P : Sto → Prop} {c : Nat} {fs : List Va} (h : wr r (fun _ _ => False) (fun c' fs' T => c' = c ∧ fs' = fs ∧ P T)) : ∃ T, r = .ex c fs T ∧ P T := by
  cases r with
  | ok a S => with_unfolding_all exact h.elim
  | ex c' fs' S =>
    unfold wr at h
    dsimp only at h
    exact ⟨S, by rw [h.1, h.2.1], h.2.2⟩
  | bad => with_unfolding_all exact h.elim
def TryE (exm : Nat → Bool) (k i : Nat) (N : Env → Sto → Prop) (δ' : Env) : Xp := fun c fs S' => fs = [] ∧ exm c = true ∧ i < δ'.length ∧ ∀ l T, l = S'.length → T.length = S'.length + 1 → Keep S' T → T[l]? = some (.exo c []) → N (((δ'.set i (some (.loc l))).set k (some (.loc l))).set i none) T
theorem tryE {exm : Nat → Bool} {c k i : Nat} {δ' : Env} {S' : Sto} (h1 : exm c = true) (h2 : i < δ'.length) (h : ∀ l T, l = S'.length → T.length = S'.length + 1 → Keep S' T → T[l]? = some (.exo c []) → N (((δ'.set i (some (.loc l))).set k (some (.loc l))).set i none) T) : TryE exm k i N δ' c [] S' := ⟨rfl, h1, h2, h⟩
theorem wo_try {exm : Nat → Bool} {k i : Nat} (h : wo (s δ S) N ⟨K.rt, K.bk, K.ct, TryE exm k i N⟩) : wo (stry exm k i s δ S) N K := by
  unfold stry
  cases e : s δ S with
  | ex c fs δ' S' =>
    rw [e] at h
    obtain ⟨h1, h2, h3, h4⟩ : TryE exm k i N δ' c fs S' := by with_unfolding_all exact h
    subst h1
    dsimp only
    rw [if_pos ⟨h2, h3⟩]
    with_unfolding_all exact h4 _ _ rfl (by simp) (Keep.app _ _) (get_new _ _ _)
  | nx δ1 S1 => rw [e] at h; with_unfolding_all exact h
  | rt w S1 => rw [e] at h; with_unfolding_all exact h
  | bk δ1 S1 => rw [e] at h; with_unfolding_all exact h
  | ct δ1 S1 => rw [e] at h; with_unfolding_all exact h
  | bad => rw [e] at h; with_unfolding_all exact h
theorem wr_isX {tbl : Nat → Nat → Option Bool} {c d : Nat} {t : Bool} (h1 : S[l]? = some (.exo c [])) (h2 : tbl c d = some t) (h : QV (.bl t) S) : wr (fIsX tbl [.loc l, .cl d] S) QV E := by
  unfold fIsX
  dsimp only
  rw [h1]
  dsimp only
  rw [h2]
  with_unfolding_all exact h
theorem wr_isXT {tbl : Nat → Nat → Option Bool} {c : Nat} {t : Bool} {cs : List Va} (h1 : S[l]? = some (.exo c [])) (h2 : anyX tbl c (v :: cs) = some t) (h : QV (.bl t) S) : wr (fIsXT tbl [.loc l, .tup (v :: cs)] S) QV E := by
  unfold fIsXT
  dsimp only
  rw [h1]
  dsimp only
  rw [h2]
  with_unfolding_all exact h
/-! choices -/
theorem bif_t {A B : Prop} (h : A) : bif true then A else B := by with_unfolding_all exact h
theorem bif_f {A B : Prop} (h : B) : bif false then A else B := by with_unfolding_all exact h
theorem bif_ct {A B : Prop} {t : Bool} (e : t = true) (h : A) : bif t then A else B := by rw [e]; with_unfolding_all exact h
theorem bif_cf {A B : Prop} {t : Bool} (e : t = false) (h : B) : bif t then A else B := by rw [e]; with_unfolding_all exact h
theorem bif_n {A B : Prop} {t : Bool} (h : bif t then B else A) : bif !t then A else B := by cases t <;> with_unfolding_all exact h
theorem bif_d {A B c : Prop} [Decidable c] (h1 : c → A) (h2 : ¬ c → B) : bif decide c then A else B := by
  by_cases h : c
  · rw [decide_eq_true h]; exact h1 h
  · rw [decide_eq_false h]; exact h2 h
theorem bif_dt {A B c : Prop} [Decidable c] (hc : c) (h : A) : bif decide c then A else B := by rw [decide_eq_true hc]; with_unfolding_all exact h
theorem bif_df {A B c : Prop} [Decidable c] (hc : ¬ c) (h : B) : bif decide c then A else B := by rw [decide_eq_false hc]; with_unfolding_all exact h
/-! what stays -/
theorem Keep.at' {S T : Sto} {l : Nat} {o : Ob} (k : Keep S T) (h : S[l]? = some o) : T[l]? = some o := k _ _ h
theorem Keep.kb {S U V : Sto} {D : Nat} (k : Keep S U) (h : S.length ≤ D) (k2 : KeepB D U V) : Keep S V := fun j o e => k2 j o (by have := lt_of e; omega) (k _ _ e)
theorem KeepB.at' {S T : Sto} {l d : Nat} {o : Ob} (k : KeepB d S T) (n : l ≠ d) (h : S[l]? = some o) : T[l]? = some o := k _ _ n h
end
end Rz
namespace Rz
open PySem PySem.Spec PyProof.Rows L2 PySem.W
/-! ### a, b = xs of a list -/
section
variable {prog : Program} {w : World} {A : Around} {E : Value → Shared → Prop}
theorem keep_list {h h' : Heap} {l it : Addr} {items : Array Value} (hl : h.IsList l items) (s : Heap.SameBut it h h') (ne : l ≠ it) : h'.IsList l items := by
  obtain ⟨o, ho, hc, hd⟩ := hl
  exact ⟨o, s.extBut l o ne ho, hc, hd⟩
theorem draw_list {it l : Addr} {items : Array Value} (ne : l ≠ it) : ∀ (n i : Nat) (s : Shared) (Q : List Value → Shared → Prop), s.heap.IsListIter it l i → s.heap.IsList l items → i + n ≤ items.size →
    (∀ h' : Heap, h'.IsListIter it l (i + n) → Heap.SameBut it s.heap h' → Q ((items.toList.drop i).take n) { s with heap := h' }) → wpAny (model prog w) A (PySem.draw (.ref it) n) Q E s
  | 0, i, s, Q, hit, _, _, hQ => by
    unfold PySem.draw
    exact wpAny_pure (hQ s.heap hit (Heap.SameBut.refl it s.heap))
  | n + 1, i, s, Q, hit, hl, hle, hQ => by
    unfold PySem.draw
    have hi : i < items.size := by omega
    refine wpAny_bind (wpAny_pyNext_list_item hit hl (Array.getElem?_eq_getElem hi) fun h1 hit1 hs1 => ?_)
    refine wpAny_bind (wpAny_holding (draw_list ne n (i + 1) { s with heap := h1 } _ hit1 (keep_list hl hs1 ne) (by omega) fun h2 hit2 hs2 => ?_))
    refine wpAny_pure ?_
    have := hQ h2 (by rw [show i + (n + 1) = i + 1 + n by omega]; exact hit2) (hs1.trans hs2)
    rw [List.drop_eq_getElem_cons (by simpa using hi), List.take_succ_cons] at this
    simpa using this
theorem unpackItems_list {s : Shared} {l : Addr} {items : Array Value} {Q : List Value → Shared → Prop} (hh : A.handled = none) (hl : s.heap.IsList l items) (hQ : ∀ h' : Heap, Heap.ExtBut s.heap.objs.size s.heap h' → Q items.toList { s with heap := h' }) : wpAny (model prog w) A (PySem.unpackItems (.ref l) items.size none) Q E s := by
  have hlt : l ≠ s.heap.objs.size := by
    obtain ⟨o, ho, _⟩ := hl
    exact Nat.ne_of_lt (Heap.lt_size ho)
  have ty : s.TypeIs (.ref l) "list" := by
    obtain ⟨o, ho, hc, _⟩ := hl
    exact ⟨o, ho, hc⟩
  unfold PySem.unpackItems
  refine wpAny_bind ?_
  unfold PySem.notIterableAtAll
  refine wpAny_bind (wpAny_specialOf ty PySem.F.slot_list_iter.lookup ?_)
  refine wpAny_pure ?_
  simp only [Bool.false_eq_true, if_false]
  refine wpAny_bind (wpAny_holding (wpAny_pyIter_list hl ?_))
  have hl1 : (s.heap.push { cls := .type "list_iterator", data := .fields #[.ref l, .int 0 0] }).IsList l items := by
    obtain ⟨o, ho, hc⟩ := hl
    exact ⟨o, Heap.get?_push_of_some _ ho, hc⟩
  refine wpAny_bind (wpAny_holding (draw_list hlt items.size 0 _ _ ⟨_, Heap.get?_push_size _ rfl, rfl, rfl⟩ hl1 (by omega) fun h1 hit1 hs1 => ?_))
  have e : (items.toList.drop 0).take items.size = items.toList := by rw [List.drop_zero]; exact List.take_of_length_le (by simp)
  rw [e]
  have nl : ¬ items.toList.length < items.size := by simp
  rw [if_neg nl]
  refine wpAny_bind (wpAny_holding (wpAny_pyNext_list_end hh (i := items.size) (by rw [Nat.zero_add] at hit1; exact hit1) (keep_list hl1 hs1 hlt) (by simp) fun h2 he2 => ?_))
  simp only [Option.isSome_none, Bool.false_eq_true, if_false]
  exact wpAny_pure (hQ h2 fun b o hb e => he2 b o hb (hs1.extBut b o hb (Heap.get?_push_of_some _ e)))
theorem assign_Tuple_list {s : Shared} {env : PySem.Env} {elts : List Expr} {k : Nat} {pos : Pos} {l : Addr} {items : Array Value} {Q : Unit → Shared → Prop} (hh : A.handled = none) (hl : s.heap.IsList l items) (hn : (assignEach elts env).length = items.size) (hst : (assignEach elts env).findIdx? (·.1) = none)
    (h : ∀ h' : Heap, Heap.ExtBut s.heap.objs.size s.heap h' → wpAny (model prog w) A (assignInOrder ((assignEach elts env).map (·.2)) items.toList) Q E { s with heap := h' }) : wpAny (model prog w) A (PySem.assign (.Tuple elts k pos) env (.ref l)) Q E s := by
  rw [PyProof.Rows.assign_Tuple]
  refine wpAny_bind (wpAny_standAt ?_)
  unfold PySem.unpack
  rw [hn, hst]
  exact wpAny_bind (wpAny_holding (unpackItems_list hh hl h))
end
def gLst (K : PySem.W.Frag) (n : Nat) (t : TGs) : TG := fun v σ H Q => ∃ a xs, v = .ref a ∧ SqL K H a xs ∧ xs.length = n ∧ t xs σ H Q
section
variable {X : Cx} {g : G} {Wx : WX} {k : Nat} {pos : Pos} {x : XE}
theorem pg_lst {es : List Expr} {j : Nat} {t : TGs} {n : Nat} {p : Pos} (hc : X.calm = true) (h : PGs X es t) (hn : (assignEach es X.env).length = n := by rfl) (hst : (assignEach es X.env).findIdx? (·.1) = none := by rfl) : PG X (.Tuple es j p) (gLst X.K n t) := ⟨fun pins s σ H v u Q I r hw => by
  obtain ⟨a, xs, rfl, hq, hl, hw⟩ := hw
  obtain rfl : u = Value.ref a := r
  obtain ⟨its, rv, ht, hz⟩ := I.list hq
  have hl2 : s.heap.IsList a its.toArray := by
    obtain ⟨o, m, y1, y2, _, y3⟩ := ht
    exact ⟨o, y1, y2, m, y3⟩
  refine assign_Tuple_list (I.ok.hd hc) hl2 (by rw [hn, ← hl, rv.length]; simp) hst fun h' hx => ?_
  have I1 := I.kept (t' := s.toks) fun b o e => hx b o (Nat.ne_of_lt (Heap.lt_size e)) e
  exact h.run pins _ σ H xs _ Q I1 rv hw⟩
/-- a, b = e, e a list -/
@[simp] def sunl (n : Nat) (q : XPs) (x : XE) : XS := fun δ S => (x δ S).out δ fun w S1 => match w with
  | .loc l => match getL S1 l with
    | some ws => if ws.length = n then (match q ws δ with
      | some δ' => .nx δ' S1
      | none => .bad) else .bad
    | none => .bad
  | _ => .bad
theorem ss_unl (o : XO X g Wx k) {es : List Expr} {j : Nat} {p : Pos} {e : Expr} {q : XPs} {sl : List Nat} (n : Nat) (he : SE X g Wx e x) (hq : SGs X g es q sl) (hn : (assignEach es X.env).length = n := by rfl) (hst : (assignEach es X.env).findIdx? (·.1) = none := by rfl)
    (hs : swapsWithSole [.Tuple es j p] e pos.line X.env = pure false := by rfl) (hw : swappedStores [.Tuple es j p] e X.env = pure none := by rfl)
    (h1 : (assignEach [.Tuple es j p] X.env).map (·.2) = [assign (.Tuple es j p) X.env] := by rfl) : SS X g Wx (.Assign [.Tuple es j p] e pos) (sunl n q x) :=
  ps_imp (ps_asg he (pg_lst o.calm hq hn hst) hs hw h1) fun D σ H ⟨δ, S, ρ, sm, se, h⟩ => ⟨δ, S, ρ, sm, se, wpR.imp (wpR.out (rel := Rel g) se h) fun v H1 ⟨ρ1, w, S1, e1, s1, r1, h1⟩ => by
    cases r1 with
    | @loc l a hp =>
      dsimp only at h1
      cases e2 : getL S1 l with
      | none => rw [e2] at h1; exact h1.elim
      | some ws =>
        rw [e2] at h1
        dsimp only at h1
        by_cases c : ws.length = n
        · rw [if_pos c] at h1
          cases e3 : q ws δ with
          | none => rw [e3] at h1; exact h1.elim
          | some δ' =>
            rw [e3] at h1
            obtain ⟨vs, s2, r2⟩ := getL_at s1 e2 hp
            exact ⟨a, vs, rfl, o.K ▸ s2, by rw [← r2.length]; exact c, δ, ws, ρ1, δ', r2, se.mono e1, e3, fun σ' se' _ _ => h1 ρ1 H1 σ' .refl s1 se'⟩
        · rw [if_neg c] at h1
          exact h1.elim
    | _ => exact h1.elim⟩
end
def UnlGo (n : Nat) (q : XPs) (w : Va) (δ : Env) (S : Sto) (N : Env → Sto → Prop) : Prop := ∃ l ws δ', w = .loc l ∧ S[l]? = some (.lst ws) ∧ ws.length = n ∧ q ws δ = some δ' ∧ N δ' S
theorem unlGo {n l : Nat} {q : XPs} {ws : List Va} {δ δ' : Env} {S : Sto} {N : Env → Sto → Prop} (h1 : S[l]? = some (.lst ws)) (h2 : ws.length = n) (h3 : q ws δ = some δ') (h4 : N δ' S) : UnlGo n q (.loc l) δ S N := ⟨l, ws, δ', rfl, h1, h2, h3, h4⟩
theorem wo_unl {n : Nat} {q : XPs} {x : XE} {δ : Env} {S : Sto} {N : Env → Sto → Prop} {K : Ke} (h : wr (x δ S) (fun w S1 => UnlGo n q w δ S1 N) (K.ex δ)) : wo (sunl n q x δ S) N K := wo_out (h.mono fun w S1 ⟨l, ws, δ', e1, e2, e3, e4, h⟩ => by
  subst e1
  dsimp only
  rw [getL_lst e2]
  dsimp only
  rw [if_pos e3, e4]
  exact wo_of rfl h)
end Rz
namespace Rz
open PySem PySem.Spec PyProof.Rows L2 PySem.W
def MethGo (c n : Nat) (m : List Va → Sto → Rs Va) (as : XA) (δ : Env) (w : Va) (S : Sto) (Q : Va → Sto → Prop) (E : Xp) : Prop := ∃ l fs, w = .loc l ∧ S[l]? = some (.ins c fs) ∧ wr (as δ S) (fun us S2 => FnGo n m (w :: us) S2 Q E) E
theorem methGo {c n l : Nat} {m : List Va → Sto → Rs Va} {as : XA} {δ : Env} {S : Sto} {Q : Va → Sto → Prop} {E : Xp} {fs : List Va} (h1 : S[l]? = some (.ins c fs)) (h2 : wr (as δ S) (fun us S2 => FnGo n m (.loc l :: us) S2 Q E) E) : MethGo c n m as δ (.loc l) S Q E := ⟨l, fs, rfl, h1, h2⟩
theorem wr_me {c n : Nat} {m : List Va → Sto → Rs Va} {x : XE} {as : XA} {δ : Env} {S : Sto} {QV : Va → Sto → Prop} {E : Xp} (h : wr (x δ S) (fun w S1 => MethGo c n m as δ w S1 QV E) E) : wr (ymeth c n m x as δ S) QV E := wr_bind (h.mono fun w S1 ⟨l, fs, e1, e2, h⟩ => by
  subst e1
  rw [show insAt c (.loc l) S1 = some fs by simp only [insAt]; rw [e2]; simp]
  dsimp only
  exact wr_bind (h.mono fun us S2 h => by rw [if_pos (show us.length + 1 = n from h.1)]; exact h.2))
end Rz
namespace Rz
open PySem PySem.Spec PyProof.Rows L2 PySem.W
/-! ### dict(pairs), keys that are tuples -/
abbrev Pr4 := Addr × NestedKey × Addr × V
def storAll (L : List (NestedKey × Addr × V)) (ps : List (NestedKey × Addr × V)) : List (NestedKey × Addr × V) := ps.foldl (fun acc p => storN acc p.1 p.2.1 p.2.2) L
theorem paired_all : ∀ {ps : List (NestedKey × Addr × V)} {xs : List (NestedKey × Addr × Value)} {L : List (NestedKey × Addr × V)} {ys : List (NestedKey × Addr × Value)}, Paired PR ps xs → Paired PR L ys → Paired PR (storAll L ps) (storedAllH ys xs)
  | _, _, _, _, .nil, h => h
  | _, _, _, _, .cons (a := p) (b := x) ⟨e1, e2, e3⟩ r, h => by
    show Paired PR (storAll (storN _ p.1 p.2.1 p.2.2) _) (storedAllH (storedH _ x.1 x.2.1 x.2.2) _)
    rw [← e1, ← e2]
    exact paired_all r (paired_stor e3 h)
theorem storAll_len : ∀ (ps L : List (NestedKey × Addr × V)), (storAll L ps).length ≤ L.length + ps.length
  | [], _ => Nat.le_refl _
  | p :: ps, L => by
    have h1 := storAll_len ps (storN L p.1 p.2.1 p.2.2)
    have h2 := stor_len L p.1 p.2.1 p.2.2
    show (storAll (storN L p.1 p.2.1 p.2.2) ps).length ≤ _
    rw [List.length_cons]
    omega
theorem storAll_key : ∀ {ps L : List (NestedKey × Addr × V)}, (∀ r ∈ L, r.1.depth ≤ 8) → (∀ r ∈ ps, r.1.depth ≤ 8) → ∀ r ∈ storAll L ps, r.1.depth ≤ 8
  | [], _, h, _ => h
  | p :: ps, L, h, h2 => storAll_key (ps := ps) (stor_key h (h2 p List.mem_cons_self)) fun r hr => h2 r (List.mem_cons_of_mem _ hr)
def rDictP (K : PySem.W.Frag) (P : Program) (w : World) : List V → Hp → VK → Prop := fun xs H Q => ∃ (p : Addr) (L : List Pr4), xs = [.ref p] ∧ SqL K H p (L.map fun r => V.ref r.1) ∧ (∀ r ∈ L, SqT K H r.1 [.ref r.2.2.1, r.2.2.2]) ∧ (∀ r ∈ L, KOk K H r.2.1 r.2.2.1) ∧ ∀ q, H q = none → Q (.ref q) (upd H q (dN P w q (storAll [] (L.map Prod.snd))))
section
variable {X : Cx} {k : Nat} {pins : List (Addr × Obj)} {σ : L2.St} {H : Hp} {s : Shared}
theorem prs_at (I : Inv X pins σ H s) : ∀ (L : List Pr4), (∀ r ∈ L, SqT X.K H r.1 [.ref r.2.2.1, r.2.2.2]) → ∃ xs : List (NestedKey × Addr × Value), Paired PR (L.map Prod.snd) xs ∧ Paired (fun (r : Pr4) (x : NestedKey × Addr × Value) => IsTup s.heap r.1 #[.ref x.2.1, x.2.2]) L xs
  | [], _ => ⟨[], .nil, .nil⟩
  | r :: L, h => by
    obtain ⟨xs, h1, h2⟩ := prs_at I L fun r hr => h r (List.mem_cons_of_mem _ hr)
    obtain ⟨its, va, at1, _⟩ := I.tuple (h r List.mem_cons_self)
    cases va with
    | cons ra rb =>
      cases rb with
      | cons rc rd =>
        cases rd
        rename_i u1 u2
        obtain rfl : u1 = Value.ref r.2.2.1 := ra
        exact ⟨(r.2.1, r.2.2.1, u2) :: xs, .cons ⟨rfl, rfl, rc⟩ h1, .cons at1 h2⟩
theorem refs_vals : ∀ {L : List Pr4} {its : List Value}, Vals (L.map fun r => V.ref r.1) its → its = L.map fun r => Value.ref r.1
  | [], _, h => by cases h; rfl
  | r :: L, _, h => by
    cases h with
    | cons a b =>
      rw [refs_vals b]
      rw [show _ = Value.ref r.1 from a]
      rfl
theorem cr_dictP (hr : Room k X.A) (hc : X.calm = true) : CallR X (.type "dict") (rDictP X.K X.prog X.w) := by
  intro pins s σ H xs us Q I rv h
  obtain ⟨p, L, rfl, hl, ht, hk, q⟩ := h
  obtain ⟨u, rfl, ru⟩ := vals1 rv
  obtain rfl : u = Value.ref p := ru
  have un := hr.un
  obtain ⟨its, va, at1, lz⟩ := I.list hl
  obtain rfl := refs_vals va
  obtain ⟨ys, h1, h2⟩ := prs_at I L ht
  rw [List.length_map] at lz
  have ly : L.length = ys.length := paired_len h2
  have hgt : ∀ (j : Nat) (hj : j < L.length), ∃ y, ys[j]? = some y ∧ IsTup s.heap L[j].1 #[.ref y.2.1, y.2.2] := fun j hj => paired_get h2 (List.getElem?_eq_getElem hj)
  have pit : PairItems s.heap (L.map fun r => Value.ref r.1).toArray (fun j => (L[j]?.map Prod.fst).getD 0) (ys.map fun y => (Value.ref y.2.1, y.2.2)) := by
    refine ⟨by simp [ly], fun j kk v e => ?_⟩
    rw [List.getElem?_map] at e
    obtain ⟨y, e1, e2⟩ := Option.map_eq_some_iff.mp e
    have hj : j < L.length := by rw [ly]; exact (List.getElem?_eq_some_iff.mp e1).1
    obtain ⟨y', e3, e4⟩ := hgt j hj
    obtain rfl : y = y' := Option.some.inj (e1.symm.trans e3)
    cases e2
    refine ⟨by simp [hj], ?_⟩
    simp only [List.getElem?_eq_getElem hj, Option.map_some, Option.getD_some]
    exact .inl (let ⟨o, ho, hc, n, hd⟩ := e4; ⟨o, ho, hc, n, hd⟩)
  have kst : ∀ h' : Heap, (∀ b u, s.heap.get? b = some u → h'.get? b = some u) → ∀ x ∈ ys, (nestedKind X.prog X.w).is h' x.1 x.2.1 := fun h' kp => by
    have I1 : Inv X pins σ H { s with heap := h', toks := s.toks } := I.kept kp
    have : ∀ {L' : List Pr4} {ys : List (NestedKey × Addr × Value)}, Paired PR (L'.map Prod.snd) ys → (∀ r ∈ L', KOk X.K H r.2.1 r.2.2.1) → ∀ x ∈ ys, (nestedKind X.prog X.w).is h' x.1 x.2.1 := by
      intro L'
      induction L' with
      | nil => intro ys h _; cases h; exact fun x hx => nomatch hx
      | cons r L' ih =>
        intro ys h hk
        cases h with
        | cons a b =>
          intro x hx
          rcases List.mem_cons.mp hx with z | z
          · rw [z, ← a.1, ← a.2.1]
            exact (hk r List.mem_cons_self).at I1
          · exact ih b (fun r hr => hk r (List.mem_cons_of_mem _ hr)) x z
    exact this h1 hk
  obtain ⟨o, n, po, pc, pd, px⟩ := at1
  refine call_dict_pairsH (knd := nestedKind X.prog X.w) (ps := ys) (PairArg.list p (L.map fun r => Value.ref r.1).toArray (fun j => (L[j]?.map Prod.fst).getD 0) (ys.map fun y => (Value.ref y.2.1, y.2.2))) (I.ok.hd hc) (show X.A.in1.in1.units + 8 < cLine by rw [Around.in1_units, Around.in1_units]; omega) ⟨⟨o, n, po, pc, pd, px⟩, pit⟩ ⟨by rw [List.length_map], fun i key v e => ?_⟩ (fun h' kp x hx => kst h' (fun b u e => kp b u (Nat.ne_of_lt (Heap.lt_size e)) (fun m => nomatch m) e) x hx) (by rw [List.length_map, ← ly]; exact lz) fun h' tk hd hkp => ?_
  · have e' : (ys.map fun y => (Value.ref y.2.1, y.2.2))[i]? = some (key, v) := e
    rw [List.getElem?_map] at e'
    obtain ⟨y, e1, e2⟩ := Option.map_eq_some_iff.mp e'
    cases e2
    exact ⟨y.1, y.2.1, e1, rfl⟩
  · have kp : ∀ b u, s.heap.get? b = some u → h'.get? b = some u := fun b u e => hkp b u (fun m => nomatch m) e
    have hb : sysModules < s.heap.objs.size := I.big
    refine ⟨.ref s.heap.objs.size, upd H s.heap.objs.size (dN X.prog X.w s.heap.objs.size (storAll [] (L.map Prod.snd))), I.laid (t' := tk) kp (Nat.le_refl _) ?_, rfl, q _ (I.hok.fresh (Nat.le_refl _))⟩
    obtain ⟨ob, es, ep, e1, e2, e3, e4, e5, e6⟩ := hd
    have sl := storAll_len (L.map Prod.snd) []
    rw [List.length_map, List.length_nil] at sl
    exact ⟨⟨beq_eq_false_iff_ne.mpr (Ne.symm (Nat.ne_of_lt hb)), by omega, storAll_key (fun r hr => nomatch hr) (fun r hr => by obtain ⟨r', hr', rfl⟩ := List.mem_map.mp hr; obtain ⟨_, _, _, _, dd⟩ := hk r' hr'; exact dd), _, paired_all h1 .nil, ob, es, ep, e1, e2, e3, e4, e6⟩, ⟨_, e1⟩, fun h1 h2 ⟨u1, u2, u3, ys, u4, o', es', ep', u5, u6⟩ kp => ⟨u1, u2, u3, ys, u4, o', es', ep', kp o' u5, u6⟩⟩
end
/-! in the plain semantics -/
def prV : Va → Option (Va × Va)
  | .tup [k, v] => match keyT k with
    | some _ => some (k, v)
    | none => none
  | _ => none
def stP (acc : List (Va × Va)) (p : Va × Va) : List (Va × Va) := match keyT p.1 with
  | some k => stD acc p.1 k p.2
  | none => acc
def stAll (acc prs : List (Va × Va)) : List (Va × Va) := prs.foldl stP acc
def prsV : List Va → Option (List (Va × Va))
  | [] => some []
  | w :: ws => match prV w, prsV ws with
    | some p, some ps => some (p :: ps)
    | _, _ => none
@[simp] def fDictP (ws : List Va) (S : Sto) : Rs Va := match ws with
  | [.loc l] => match S[l]? with
    | some (.lst us) => match prsV us with
      | some ps => .ok (.loc S.length) (S ++ [.dct (stAll [] ps)])
      | none => .bad
    | _ => .bad
  | _ => .bad
section
variable {g : G}
theorem prs_ok {ρ : List Addr} {H : Hp} : ∀ {us : List Va} {vs : List V} {ps : List (Va × Va)}, RelL g ρ H us vs → prsV us = some ps → ∃ L : List Pr4, vs = L.map (fun r => V.ref r.1) ∧ (∀ r ∈ L, SqT g.K H r.1 [.ref r.2.2.1, r.2.2.2]) ∧ (∀ r ∈ L, KOk g.K H r.2.1 r.2.2.1) ∧
    ∀ (kvs : List (Va × Va)) (M : List (NestedKey × Addr × V)), RelL g ρ H (kvs.map Prod.fst) (M.map fun r => V.ref r.2.1) → RelL g ρ H (kvs.map Prod.snd) (M.map fun r => r.2.2) → kvs.map (fun p => nkV p.1) = M.map (fun r => some r.1) → (∀ r ∈ M, r.1.depth ≤ 8) →
      RelL g ρ H ((stAll kvs ps).map Prod.fst) ((storAll M (L.map Prod.snd)).map fun r => V.ref r.2.1) ∧ RelL g ρ H ((stAll kvs ps).map Prod.snd) ((storAll M (L.map Prod.snd)).map fun r => r.2.2) ∧ (stAll kvs ps).map (fun p => nkV p.1) = (storAll M (L.map Prod.snd)).map (fun r => some r.1) ∧ ∀ r ∈ storAll M (L.map Prod.snd), r.1.depth ≤ 8
  | [], _, _, r, h => by
    cases r
    cases h
    refine ⟨[], rfl, (fun r hr => nomatch hr), (fun r hr => nomatch hr), fun kvs M a b c d => ⟨a, b, c, d⟩⟩
  | w :: us, _, ps, r, h => by
    cases r with
    | cons ra rb =>
      have h' : (match prV w, prsV us with | some p, some ps => some (p :: ps) | _, _ => none) = some ps := h
      cases e1 : prV w with
      | none => rw [e1] at h'; cases h'
      | some p =>
        cases e2 : prsV us with
        | none => rw [e1, e2] at h'; cases h'
        | some qs =>
          rw [e1, e2] at h'
          cases h'
          obtain ⟨L, i1, i2, i3, i4⟩ := prs_ok rb e2
          unfold prV at e1
          split at e1
          · rename_i kw vw
            cases e3 : keyT kw with
            | none => rw [e3] at e1; cases e1
            | some k =>
              rw [e3] at e1
              cases e1
              cases ra with
              | @tup _ vs p sq rl =>
                cases rl with
                | cons rk rl =>
                  cases rl with
                  | cons rv rl =>
                    cases rl
                    obtain ⟨b, rfl, kb, ek⟩ := keyT_ok rk e3
                    rename_i v
                    refine ⟨(p, k, b, v) :: L, by rw [i1]; rfl, fun r hr => ?_, fun r hr => ?_, fun kvs M a1 a2 a3 a4 => ?_⟩
                    · rcases List.mem_cons.mp hr with z | z
                      · rw [z]; exact sq
                      · exact i2 r z
                    · rcases List.mem_cons.mp hr with z | z
                      · rw [z]; exact kb
                      · exact i3 r z
                    · have st := stD_ok rk ek rv a1 a2 a3
                      have e9 : stAll kvs ((kw, vw) :: qs) = stAll (stD kvs kw k vw) qs := by
                        show stAll (stP kvs (kw, vw)) qs = _
                        unfold stP
                        dsimp only
                        rw [e3]
                      rw [e9]
                      obtain ⟨_, _, _, _, dk⟩ := kb
                      exact i4 _ _ st.1 st.2.1 st.2.2 (stor_key a4 dk)
          · cases e1
theorem cs_dictP : CalS g (rDictP g.K g.P g.w) fDictP := fun Wx σ ρ S H ws vs Q sm rl h => by
  unfold fDictP at h
  split at h
  · rename_i l
    cases rl with
    | cons ra rn =>
      cases rn
      cases ra with
      | @loc l p hp =>
        split at h
        · rename_i us e0
          split at h
          · rename_i ps e1
            obtain ⟨vs, at1, rl⟩ := sm.ats l _ p e0 hp
            obtain ⟨L, rfl, i2, i3, i4⟩ := prs_ok rl e1
            obtain ⟨j1, j2, j3, j4⟩ := i4 [] [] .nil .nil rfl (fun r hr => nomatch hr)
            refine ⟨p, L, rfl, .of at1, i2, i3, fun q hq => ?_⟩
            obtain ⟨s2, e2⟩ := sm.laid (o := .dct (stAll [] ps)) (u := dN g.P g.w q (storAll [] (L.map Prod.snd))) hq (fun ρ' H' e z => ⟨_, z, j1.mono e, j2.mono e, j3, j4⟩) rfl
            exact wpR.fin_at (a := Va.loc S.length) h e2 s2 (.loc (by rw [sm.len]; simp))
          · exact h.elim
        · exact h.elim
  · exact h.elim
end
section
variable {X : Cx} {g : G} {Wx : WX} {k : Nat} {pos : Pos} {a : Expr} {r : XA}
theorem se_dictP (o : XO X g Wx k) {p : Pos} (hm : X.mg "dict" = none) (ha : SA X g Wx [a] r) (hg : Gl X "dict" := by rfl) (he : starEach [a] X.env = (false, eval a X.env) :: starEach [] X.env := by rfl) : SE X g Wx (.Call (.Name "dict" p) [a] [] pos) (xcall fDictP r) :=
  se_callT (cr_dictP o.room o.calm) (by have q := cs_dictP (g := g); rw [o.gP, o.gw, o.K] at q; exact q) hm ha hg (he := he)
end
end Rz
namespace Rz
open PySem PySem.Spec PyProof.Rows L2 PySem.StrLaws
/-! ### repr of data with dicts with tuple keys in it -/
mutual
/-- data, empty dicts too -/
inductive Dy (K : PySem.W.Frag) (P : Program) (W : World) (H : Hp) : V → PyData → Prop
  | non : Dy K P W H .non .none
  | bl (b : Bool) : Dy K P W H (.bl b) (.bool b)
  | int (i : Int) : Dy K P W H (.int i) (.int i)
  | str (y : Str) : Dy K P W H (.str y) (.str y)
  | lst {p : Addr} {vs : List V} {es : List PyData} (at1 : H p = some (.lst vs)) (all : DyAll K P W H vs es) : Dy K P W H (.ref p) (.list es)
  | tup {p : Addr} {vs : List V} {es : List PyData} (at1 : SqT K H p vs) (all : DyAll K P W H vs es) : Dy K P W H (.ref p) (.tuple es)
  | dk {p : Addr} (at1 : H p = some (.dK [])) : Dy K P W H (.ref p) (.dict [])
  | dn {p : Addr} {L : List (NestedKey × Addr × V)} {kvs : List (PyData × PyData)} (at1 : Rd H p (dN P W p L)) (all : DyKv K P W H L kvs) : Dy K P W H (.ref p) (.dict kvs)
  | ds {p : Addr} {L : List (Key × V)} {kvs : List (PyData × PyData)} (at1 : H p = some (.dK L)) (all : DyKs K P W H L kvs) : Dy K P W H (.ref p) (.dict kvs)
inductive DyAll (K : PySem.W.Frag) (P : Program) (W : World) (H : Hp) : List V → List PyData → Prop
  | nil : DyAll K P W H [] []
  | cons {v : V} {vs : List V} {e : PyData} {es : List PyData} (one : Dy K P W H v e) (rest : DyAll K P W H vs es) : DyAll K P W H (v :: vs) (e :: es)
inductive DyKv (K : PySem.W.Frag) (P : Program) (W : World) (H : Hp) : List (NestedKey × Addr × V) → List (PyData × PyData) → Prop
  | nil : DyKv K P W H [] []
  | cons {r : NestedKey × Addr × V} {L : List (NestedKey × Addr × V)} {a b : PyData} {kvs : List (PyData × PyData)} (key : Dy K P W H (.ref r.2.1) a) (one : Dy K P W H r.2.2 b) (rest : DyKv K P W H L kvs) : DyKv K P W H (r :: L) ((a, b) :: kvs)
inductive DyKs (K : PySem.W.Frag) (P : Program) (W : World) (H : Hp) : List (Key × V) → List (PyData × PyData) → Prop
  | nil : DyKs K P W H [] []
  | cons {x : Str} {v : V} {L : List (Key × V)} {b : PyData} {kvs : List (PyData × PyData)} (one : Dy K P W H v b) (rest : DyKs K P W H L kvs) : DyKs K P W H ((Sum.inr x, v) :: L) ((.str x, b) :: kvs)
end
section
variable {X : Cx} {pins : List (Addr × Obj)} {σ : L2.St} {H : Hp} {s : Shared}
mutual
theorem Dy.reads (I : Inv X pins σ H s) (M : SMod X.base) : ∀ (e : PyData) (v : V) (u : Value), Dy X.K X.prog X.w H v e → RelV v u → ∃ as, Reads s.heap u e as ∧ sysModules ∉ as
  | .none, _, _, h, r => by cases h; cases r; exact ⟨_, .none, by simp⟩
  | .bool b, _, _, h, r => by cases h; cases r; exact ⟨_, .bool b, by simp⟩
  | .int i, _, _, h, r => by cases h; obtain ⟨t, rfl⟩ := r; exact ⟨_, .int i t, by simp⟩
  | .str y, _, _, h, r => by cases h; obtain ⟨t, rfl⟩ := r; exact ⟨_, .str y t, by simp⟩
  | .list es, _, _, h, r => by
    cases h with
    | lst at1 all =>
      cases r
      obtain ⟨its, vals, ⟨o, n, y1, y2, _, y3⟩, _⟩ := I.list (.of at1)
      obtain ⟨as, q1, q2⟩ := DyAll.reads I M es _ its all vals
      exact ⟨_, .list y1 y2 y3 q1, fun m => by
        rcases List.mem_cons.mp m with z | z
        · exact not_mod I M (by rw [at1]; simp) z
        · exact q2 z⟩
  | .tuple es, _, _, h, r => by
    cases h with
    | tup at1 all =>
      cases r
      obtain ⟨its, vals, ⟨o, y1, y2, n, y3⟩, _⟩ := I.tuple at1
      obtain ⟨as, q1, q2⟩ := DyAll.reads I M es _ its all vals
      exact ⟨_, .tuple y1 y2 y3 q1, q2⟩
  | .dict kvs, _, _, h, r => by
    cases h with
    | dk at1 =>
      cases r
      obtain ⟨_, y0, vs, kv, o, es, ep, y1, y2, y3, _, y4, _⟩ := dk_rd I.hok (.inl at1)
      cases kv
      have e0 : es.toList = [] := by
        cases q : es.toList with
        | nil => rfl
        | cons a l => rw [q] at y4; cases y4
      exact ⟨_, .dict (as := []) (bs := []) y1 y2.1 y3 (by rw [e0]; exact .nil) (by rw [e0]; exact .nil), fun m => by
        have e9 := List.mem_singleton.mp (show sysModules ∈ [_] from m)
        rw [← e9] at y0
        simp at y0⟩
    | @ds p L _ at1 all =>
      cases r
      obtain ⟨_, y0, vs, kv, o, es, ep, y1, y2, y3, _, y4, _⟩ := dk_rd I.hok (.inl at1)
      obtain ⟨as, bs, q1, q2, z1, z2⟩ := DyKs.reads I M kvs L vs es.toList all kv y4
      exact ⟨_, .dict (as := as) (bs := bs) y1 y2.1 y3 q1 q2, fun m => by
        rcases List.mem_cons.mp m with z | z
        · rw [← z] at y0
          simp at y0
        · exact (List.mem_append.mp z).elim z1 z2⟩
    | @dn p L _ at1 all =>
      cases r
      obtain ⟨⟨y0, y1, _, xs, pr, o, es, ep, ho, hx, hdt, he, _⟩, _, _⟩ := at1.ok I.hok
      obtain ⟨as, bs, q1, q2, z1, z2⟩ := DyKv.reads I M kvs L xs all pr
      exact ⟨_, .dict (as := as) (bs := bs) ho hx.1 hdt (by rw [he, List.map_map]; exact q1) (by rw [he, List.map_map]; exact q2), fun m => by
        rcases List.mem_cons.mp m with z | z
        · rw [← z] at y0
          simp at y0
        · exact (List.mem_append.mp z).elim z1 z2⟩
theorem DyAll.reads (I : Inv X pins σ H s) (M : SMod X.base) : ∀ (es : List PyData) (vs : List V) (us : List Value), DyAll X.K X.prog X.w H vs es → Vals vs us → ∃ as, ReadsAll s.heap us es as ∧ sysModules ∉ as
  | [], _, _, h, r => by cases h; cases r; exact ⟨_, .nil, by simp⟩
  | e :: es, _, _, h, r => by
    cases h with
    | cons h1 h2 =>
      cases r with
      | cons r1 r2 =>
        obtain ⟨as, q1, z1⟩ := Dy.reads I M e _ _ h1 r1
        obtain ⟨bs, q2, z2⟩ := DyAll.reads I M es _ _ h2 r2
        exact ⟨_, .cons q1 q2, fun m => (List.mem_append.mp m).elim z1 z2⟩
theorem DyKv.reads (I : Inv X pins σ H s) (M : SMod X.base) : ∀ (kvs : List (PyData × PyData)) (L : List (NestedKey × Addr × V)) (xs : List (NestedKey × Addr × Value)), DyKv X.K X.prog X.w H L kvs → Paired PR L xs → ∃ as bs, ReadsAll s.heap (xs.map fun x => Value.ref x.2.1) (kvs.map (·.1)) as ∧ ReadsAll s.heap (xs.map fun x => x.2.2) (kvs.map (·.2)) bs ∧ sysModules ∉ as ∧ sysModules ∉ bs
  | [], _, _, h, r => by cases h; cases r; exact ⟨_, _, .nil, .nil, by simp, by simp⟩
  | (a, b) :: kvs, _, _, h, r => by
    cases h with
    | cons h1 h2 h3 =>
      cases r with
      | cons r1 r2 =>
        obtain ⟨as, q1, z1⟩ := Dy.reads I M a _ _ h1 (congrArg Value.ref r1.2.1.symm)
        obtain ⟨bs, q2, z2⟩ := Dy.reads I M b _ _ h2 r1.2.2
        obtain ⟨cs, ds, q3, q4, z3, z4⟩ := DyKv.reads I M kvs _ _ h3 r2
        exact ⟨_, _, .cons q1 q3, .cons q2 q4, fun m => (List.mem_append.mp m).elim z1 z3, fun m => (List.mem_append.mp m).elim z2 z4⟩
theorem DyKs.reads (I : Inv X pins σ H s) (M : SMod X.base) : ∀ (kvs : List (PyData × PyData)) (L : List (Key × V)) (vs : List (Key × Value)) (es : List DictEntry), DyKs X.K X.prog X.w H L kvs → KV L vs → Pairs (mixKind X.prog X.w) es vs → ∃ as bs, ReadsAll s.heap (es.map (·.key)) (kvs.map (·.1)) as ∧ ReadsAll s.heap (es.map (·.val)) (kvs.map (·.2)) bs ∧ sysModules ∉ as ∧ sysModules ∉ bs
  | [], _, _, _, h, r, p => by cases h; cases r; cases p; exact ⟨_, _, .nil, .nil, by simp, by simp⟩
  | (a, b) :: kvs, _, _, _, h, r, p => by
    cases h with
    | @cons x v L _ _ h2 h3 =>
      cases r with
      | @cons _ kv _ vs r1 r2 =>
        cases p with
        | @cons e _ es _ p1 p2 p3 =>
          obtain ⟨bs, q2, z2⟩ := Dy.reads I M b _ _ h2 r1.2
          obtain ⟨cs, ds, q3, q4, z3, z4⟩ := DyKs.reads I M kvs _ _ _ h3 r2 p3
          have k1 : (Sum.inr x : Key) = kv.1 := r1.1
          have p1' : keyIs kv.1 e.key = true := p1
          rw [← k1] at p1'
          rcases keyIs_shape p1' with ⟨_, _, y, _⟩ | ⟨x', t, y, ek⟩
          · exact nomatch y
          · obtain rfl := Sum.inr.inj y
            exact ⟨_, _, .cons (by show Reads s.heap e.key (.str x) []; rw [ek]; exact .str x t) q3, .cons (by show Reads s.heap e.val b bs; rw [p2]; exact q2) q4, fun m => (List.mem_append.mp m).elim (fun z => absurd z (by simp)) z3, fun m => (List.mem_append.mp m).elim z2 z4⟩
end
end
def rReprY (K : PySem.W.Frag) (P : Program) (W : World) : List V → Hp → VK → Prop := fun xs H Q => ∃ v e, xs = [v] ∧ Dy K P W H v e ∧ e.showable = true ∧ e.depth ≤ 100 ∧ e.shown.length ≤ sizeLine ∧ Q (.str e.shown) H
section
variable {X : Cx} {g : G} {Wx : WX} {k : Nat} {pos : Pos} {a : Expr} {r : XA}
theorem call_reprY (o : XO X g Wx k) (M : SMod X.base) : CallR X (.builtin "repr") (rReprY X.K X.prog X.w) := fun pins s σ H xs us Q I rv h => by
  obtain ⟨v, e, e0, dx, h1, h2, h3, q⟩ := h
  subst e0
  obtain ⟨u, rfl, ru⟩ := vals1 rv
  obtain ⟨as, rd, nm⟩ := Dy.reads I M e v u dx ru
  have un := o.room.un
  have far : ∀ p : Addr, u = .ref p → wpAny (model X.prog X.w) X.A (PySem.call (.builtin "repr") [u]) (EP X pins σ Q) X.xe s := fun p y => by
    subst y
    exact repr_of_reads' rd h1 (fun _ => nm) o.grd (by omega) (fun _ _ y => y) (fun g2 w2 t2 kept => ⟨.str e.shown, H, I.kept (t' := t2) kept, ⟨_, rfl⟩, q⟩) h3
  cases dx with
  | non => cases ru; exact PySem.P.repr_of_none ⟨.str _, H, I.tok _, ⟨_, rfl⟩, q⟩
  | bl b => cases ru; exact PySem.P.repr_of_bool ⟨.str _, H, I.tok _, ⟨_, rfl⟩, by cases b <;> exact q⟩
  | int i => obtain ⟨t, rfl⟩ := ru; exact PySem.P.repr_of_int (by simpa [PyData.showable] using h1) ⟨.str _, H, I.tok _, ⟨_, rfl⟩, q⟩
  | str y => obtain ⟨t, rfl⟩ := ru; exact PySem.P.repr_of_str ⟨.str _, H, I.tok _, ⟨_, rfl⟩, q⟩ h3
  | lst _ _ => exact far _ ru
  | tup _ _ => exact far _ ru
  | dk _ => exact far _ ru
  | dn _ _ => exact far _ ru
  | ds _ _ => exact far _ ru
def allKv (f : Va → Option PyData) : List (Va × Va) → Option (List (PyData × PyData))
  | [] => some []
  | p :: ps => match f p.1, f p.2, allKv f ps with
    | some a, some b, some ks => some ((a, b) :: ks)
    | _, _, _ => none
def allKs (f : Va → Option PyData) : List (Str × Va) → Option (List (PyData × PyData))
  | [] => some []
  | p :: ps => match f p.2, allKs f ps with
    | some b, some ks => some ((.str p.1, b) :: ks)
    | _, _ => none
def toY (S : Sto) : Nat → Va → Option PyData
  | 0, _ => none
  | n + 1, w => match w with
    | .non => some .none
    | .bl b => some (.bool b)
    | .int i => some (.int i)
    | .str y => some (.str y)
    | .tup ws => (allD (toY S n) ws).map .tuple
    | .loc l => match S[l]? with
      | some (.lst ws) => (allD (toY S n) ws).map .list
      | some (.dci []) => some (.dict [])
      | some (.dct kvs) => (allKv (toY S n) kvs).map .dict
      | some (.frd kvs) => (allKv (toY S n) kvs).map .dict
      | some (.dcs kvs) => (allKs (toY S n) kvs).map .dict
      | _ => none
    | _ => none
theorem allY_ok {ρ : List Addr} {H : Hp} {f : Va → Option PyData} (hf : ∀ w v d, f w = some d → Rel g ρ H w v → Dy g.K g.P g.w H v d) : ∀ {ws : List Va} {vs : List V} {ds : List PyData}, allD f ws = some ds → RelL g ρ H ws vs → DyAll g.K g.P g.w H vs ds
  | [], _, _, h, r => by
    cases h
    cases r
    exact .nil
  | w :: ws, _, ds, h, r => by
    cases r with
    | cons ra rb =>
      have h' : (match f w, allD f ws with | some d, some ds => some (d :: ds) | _, _ => none) = some ds := h
      cases e1 : f w with
      | none => rw [e1] at h'; cases h'
      | some d =>
        cases e2 : allD f ws with
        | none => rw [e1, e2] at h'; cases h'
        | some es =>
          rw [e1, e2] at h'
          cases h'
          exact .cons (hf _ _ _ e1 ra) (allY_ok hf e2 rb)
theorem kvY_ok {ρ : List Addr} {H : Hp} {f : Va → Option PyData} (hf : ∀ w v d, f w = some d → Rel g ρ H w v → Dy g.K g.P g.w H v d) : ∀ {kvs : List (Va × Va)} {L : List (NestedKey × Addr × V)} {ds : List (PyData × PyData)}, allKv f kvs = some ds → RelL g ρ H (kvs.map Prod.fst) (L.map fun r => V.ref r.2.1) → RelL g ρ H (kvs.map Prod.snd) (L.map fun r => r.2.2) → DyKv g.K g.P g.w H L ds
  | [], [], _, h, _, _ => by
    cases h
    exact .nil
  | [], _ :: _, _, _, r, _ => nomatch r
  | _ :: _, [], _, _, r, _ => nomatch r
  | p :: ps, x :: L, ds, h, .cons a1 b1, .cons a2 b2 => by
    have h' : (match f p.1, f p.2, allKv f ps with | some a, some b, some ks => some ((a, b) :: ks) | _, _, _ => none) = some ds := h
    split at h'
    · rename_i a b ks e1 e2 e3
      cases h'
      exact .cons (hf _ _ _ e1 a1) (hf _ _ _ e2 a2) (kvY_ok hf e3 b1 b2)
    · cases h'
theorem ksY_ok {ρ : List Addr} {H : Hp} {f : Va → Option PyData} (hf : ∀ w v d, f w = some d → Rel g ρ H w v → Dy g.K g.P g.w H v d) : ∀ {kvs : List (Str × Va)} {L : List (Key × V)} {ds : List (PyData × PyData)}, allKs f kvs = some ds → L.map Prod.fst = kvs.map (fun p => Sum.inr p.1) → RelL g ρ H (kvs.map Prod.snd) (L.map Prod.snd) → DyKs g.K g.P g.w H L ds
  | [], [], _, h, _, _ => by
    cases h
    exact .nil
  | [], _ :: _, _, _, r, _ => nomatch r
  | _ :: _, [], _, _, r, _ => nomatch r
  | p :: ps, (k, v) :: L, ds, h, e, .cons a2 b2 => by
    rw [List.map_cons, List.map_cons] at e
    obtain ⟨e1, e2⟩ := List.cons.inj e
    have e1' : k = Sum.inr p.1 := e1
    subst e1'
    have h' : (match f p.2, allKs f ps with | some b, some ks => some ((PyData.str p.1, b) :: ks) | _, _ => none) = some ds := h
    split at h'
    · rename_i b ks e3 e4
      cases h'
      exact .cons (hf _ _ _ e3 a2) (ksY_ok hf e4 e2 b2)
    · cases h'
theorem toY_ok {ρ : List Addr} {S : Sto} {H : Hp} (sm : Sim g ρ S H) : ∀ (n : Nat) (w : Va) (v : V) (d : PyData), toY S n w = some d → Rel g ρ H w v → Dy g.K g.P g.w H v d
  | 0, _, _, _, h, _ => nomatch h
  | n + 1, w, v, d, h, r => by
    cases r with
    | non => cases h; exact .non
    | bl b => cases h; exact .bl b
    | int i => cases h; exact .int i
    | str y => cases h; exact .str y
    | ty m => cases h
    | cl m => cases h
    | @tup ws vs p sq rl =>
      obtain ⟨es, e, rfl⟩ := Option.map_eq_some_iff.mp (show (allD (toY S n) ws).map PyData.tuple = some d from h)
      exact .tup sq (allY_ok (toY_ok sm n) e rl)
    | @loc l p hp =>
      have h' : (match S[l]? with | some (.lst ws) => (allD (toY S n) ws).map PyData.list | some (.dci []) => some (.dict []) | some (.dct kvs) => (allKv (toY S n) kvs).map .dict | some (.frd kvs) => (allKv (toY S n) kvs).map .dict | some (.dcs kvs) => (allKs (toY S n) kvs).map .dict | _ => none) = some d := h
      split at h'
      · rename_i ws e0
        obtain ⟨es, e, rfl⟩ := Option.map_eq_some_iff.mp h'
        obtain ⟨vs, at1, rl⟩ := sm.ats l _ p e0 hp
        exact .lst at1 (allY_ok (toY_ok sm n) e rl)
      · rename_i e0
        cases h'
        obtain ⟨L, at1, e2, _⟩ := sm.ats l _ p e0 hp
        have : L = [] := List.map_eq_nil_iff.mp e2
        subst this
        exact .dk at1
      · rename_i kvs e0
        obtain ⟨es, e, rfl⟩ := Option.map_eq_some_iff.mp h'
        obtain ⟨L, at1, r1, r2, _⟩ := sm.ats l _ p e0 hp
        exact .dn (.inl at1) (kvY_ok (toY_ok sm n) e r1 r2)
      · rename_i kvs e0
        obtain ⟨es, e, rfl⟩ := Option.map_eq_some_iff.mp h'
        obtain ⟨o, L, at1, r1, r2, _⟩ := sm.ats l _ p e0 hp
        exact .dn (.inr ⟨o, at1⟩) (kvY_ok (toY_ok sm n) e r1 r2)
      · rename_i kvs e0
        obtain ⟨es, e, rfl⟩ := Option.map_eq_some_iff.mp h'
        obtain ⟨L, at1, r1, r2⟩ := sm.ats l _ p e0 hp
        exact .ds at1 (ksY_ok (toY_ok sm n) e r1 r2)
      · cases h'
def fReprY (ws : List Va) (S : Sto) : Rs Va := match ws with
  | [w] => match toY S 64 w with
    | some d => bif d.showable && decide (d.depth ≤ 100) && decide (d.shown.length ≤ sizeLine) then .ok (.str d.shown) S else .bad
    | none => .bad
  | _ => .bad
theorem cs_reprY : CalS g (rReprY g.K g.P g.w) fReprY := fun Wx σ ρ S H ws vs Q sm rl h => by
  unfold fReprY at h
  split at h
  · rename_i w
    cases rl with
    | cons ra rn =>
      cases rn
      cases e : toY S 64 w with
      | none => rw [e] at h; exact h.elim
      | some d =>
        rw [e] at h
        dsimp only at h
        by_cases z : (d.showable && decide (d.depth ≤ 100) && decide (d.shown.length ≤ sizeLine)) = true
        · rw [z] at h
          rw [Bool.and_eq_true, Bool.and_eq_true, decide_eq_true_eq, decide_eq_true_eq] at z
          exact ⟨_, d, rfl, toY_ok sm 64 w _ d e ra, z.1.1, z.1.2, z.2, wpR.fin (a := Va.str d.shown) h sm (.str _)⟩
        · rw [Bool.not_eq_true _ |>.mp z] at h
          exact h.elim
  · exact h.elim
theorem se_reprY (o : XO X g Wx k) (M : SMod X.base) {p : Pos} (hm : X.mg "repr" = none) (ha : SA X g Wx [a] r) (hg : Gl X "repr" := by rfl) (he : starEach [a] X.env = (false, eval a X.env) :: starEach [] X.env := by rfl) : SE X g Wx (.Call (.Name "repr" p) [a] [] pos) (xcall fReprY r) :=
  se_callB (call_reprY o M) (by have q := cs_reprY (g := g); rw [o.gP, o.gw, o.K] at q; exact q) hm ha hg (he := he)
end
/-! how long such a repr is -/
mutual
def szY : PyData → Nat
  | .none => 4
  | .bool _ => 5
  | .int i => if i.natAbs.log2 < 7 then 8 else 250
  | .str x => 10 * x.length + 2
  | .list xs => szYL xs + 3
  | .tuple xs => szYL xs + 3
  | .dict kvs => szYK kvs + 3
def szYL : List PyData → Nat
  | [] => 0
  | x :: xs => szY x + 2 + szYL xs
def szYK : List (PyData × PyData) → Nat
  | [] => 0
  | (a, b) :: xs => szY a + szY b + 4 + szYK xs
end
mutual
def okY : PyData → Bool
  | .none => true
  | .bool _ => true
  | .int i => decide (i.natAbs.log2 < 200)
  | .str x => x.cps.toList.all fun c => decide (c < 16 ^ 8)
  | .list xs => okYL xs
  | .tuple xs => okYL xs
  | .dict kvs => okYK kvs
def okYL : List PyData → Bool
  | [] => true
  | x :: xs => okY x && okYL xs
def okYK : List (PyData × PyData) → Bool
  | [] => true
  | (a, b) :: xs => okY a && okY b && okYK xs
end
mutual
theorem shownY_le : ∀ d : PyData, okY d = true → d.shown.length ≤ szY d ∧ d.showable = true
  | .none, _ => ⟨by decide, by simp [PyData.showable]⟩
  | .bool b, _ => ⟨by cases b <;> decide, by simp [PyData.showable]⟩
  | .int i, h => by
    have h' : i.natAbs.log2 < 200 := by simpa [okY] using h
    refine ⟨?_, by simp [PyData.showable]; omega⟩
    simp only [PyData.shown, szY]
    show (Str.ofString (toString i)).length ≤ _
    rw [PySem.ofString_length]
    split
    · rename_i c
      have := PySem.int_text_length_le (a := i) (by decide : 0 < 7) c
      omega
    · have := PySem.int_text_length_le (a := i) (by decide : 0 < 200) h'
      omega
  | .str x, h => by
    have h' : ∀ c ∈ x.cps.toList, c < 16 ^ 8 := fun c hc => by
      have q : (x.cps.toList.all fun c => decide (c < 16 ^ 8)) = true := by simpa only [okY] using h
      exact of_decide_eq_true (List.all_eq_true.mp q c hc)
    refine ⟨?_, by simp [PyData.showable]⟩
    have := StrLaws.reprText_len x h'
    simp only [PyData.shown, szY]
    omega
  | .list xs, h => by
    have h' : okYL xs = true := by simpa [okY] using h
    obtain ⟨h1, h2⟩ := shownYL_le xs h'
    refine ⟨?_, by simpa [PyData.showable] using h2⟩
    have := listText_le (PyData.shownAll xs)
    simp only [PyData.shown, szY]
    omega
  | .tuple xs, h => by
    have h' : okYL xs = true := by simpa [okY] using h
    obtain ⟨h1, h2⟩ := shownYL_le xs h'
    refine ⟨?_, by simpa [PyData.showable] using h2⟩
    have := tupleText_le (PyData.shownAll xs)
    simp only [PyData.shown, szY]
    omega
  | .dict kvs, h => by
    have h' : okYK kvs = true := by simpa [okY] using h
    obtain ⟨h1, h2⟩ := shownYK_le kvs h'
    refine ⟨?_, by simpa [PyData.showable] using h2⟩
    have h4 := dictText_len_le (PyData.shownKv kvs)
    have h3 := PyData.shownKv_length kvs
    simp only [PyData.shown, szY]
    omega
theorem shownYL_le : ∀ ds : List PyData, okYL ds = true → piled (PyData.shownAll ds) ≤ szYL ds ∧ PyData.showableAll ds = true
  | [], _ => ⟨by simp [PyData.shownAll, piled, szYL], by simp [PyData.showableAll]⟩
  | d :: ds, h => by
    have h' : okY d = true ∧ okYL ds = true := by simpa [okYL] using h
    obtain ⟨a1, a2⟩ := shownY_le d h'.1
    obtain ⟨b1, b2⟩ := shownYL_le ds h'.2
    refine ⟨?_, by simp [PyData.showableAll, a2, b2]⟩
    have p : piled (PyData.shownAll (d :: ds)) = d.shown.length + 2 + piled (PyData.shownAll ds) := by simp [PyData.shownAll, piled]
    simp only [szYL]
    omega
theorem shownYK_le : ∀ kvs : List (PyData × PyData), okYK kvs = true → ((PyData.shownKv kvs).map (·.length)).sum + 2 * kvs.length ≤ szYK kvs ∧ PyData.showableKv kvs = true
  | [], _ => ⟨by simp [PyData.shownKv, szYK], by simp [PyData.showableKv]⟩
  | (a, b) :: ks, h => by
    have h' : (okY a = true ∧ okY b = true) ∧ okYK ks = true := by simpa [okYK] using h
    obtain ⟨a1, a2⟩ := shownY_le a h'.1.1
    obtain ⟨b1, b2⟩ := shownY_le b h'.1.2
    obtain ⟨c1, c2⟩ := shownYK_le ks h'.2
    refine ⟨?_, by simp [PyData.showableKv, a2, b2, c2]⟩
    have e2 : (a.shown ++ ": " ++ b.shown).length = a.shown.length + 2 + b.shown.length := by
      rw [strLen_append, strLen_append]; rfl
    simp only [PyData.shownKv, szYK, List.map_cons, List.sum_cons, List.length_cons]
    omega
end
theorem fReprY_eq {w : Va} {S : Sto} {d : PyData} (h : toY S 64 w = some d) (h1 : okY d = true) (h2 : szY d ≤ 16777216) (h3 : d.depth ≤ 100) : fReprY [w] S = .ok (.str d.shown) S := by
  obtain ⟨a1, a2⟩ := shownY_le d h1
  have hz : sizeLine = 16777216 := sizeLine_eq
  unfold fReprY
  dsimp only
  rw [h]
  dsimp only
  rw [a2]
  have e : (true && decide (d.depth ≤ 100) && decide (d.shown.length ≤ sizeLine)) = true := by simp; omega
  rw [e]
  rfl
end Rz
namespace Rz
open PySem PySem.Spec PyProof.Rows L2 PySem.W
/-! ### d.clear(), {k: v} -/
def tClrD (P : Program) (w : World) (t : TE) : TE := fun σ H Q => t σ H fun x H1 => ∃ p L, x = .ref p ∧ H1 p = some (dN P w p L) ∧ Q .non (upd H1 p (dN P w p []))
section
variable {X : Cx} {g : G} {Wx : WX} {k : Nat} {pos : Pos} {a b e : Expr} {x y z : XE} {r : XA} {t t' : TE}
theorem dN_obj {H : Hp} {h' : Heap} {p : Addr} {ob : Obj} {es : Array DictEntry} {ep : Nat} {xs : List (NestedKey × Addr × Value)} {L : List (NestedKey × Addr × V)} (hd : (p == sysModules) = false) (hl : L.length ≤ sizeLine) (dd : ∀ r ∈ L, r.1.depth ≤ 8) (pr : Paired PR L xs) (e1 : h'.get? p = some ob) (e2 : ob.ExactDict) (e3 : ob.data = .dict es ep) (e4 : es.toList = xs.map (entryOfKey (nestedKind X.prog X.w))) (e6 : (xs.map (·.1)).Nodup) : ObjOk X.prog X.w H h' p (dN X.prog X.w p L) :=
  ⟨⟨hd, hl, dd, _, pr, ob, es, ep, e1, e2, e3, e4, e6⟩, ⟨_, e1⟩, fun h1 h2 ⟨u1, u2, u3, ys, u4, o', es', ep', u5, u6⟩ kp => ⟨u1, u2, u3, ys, u4, o', es', ep', kp o' u5, u6⟩⟩
theorem pe_clrD {ap : Pos} (ha : PE X a t) (hbase : attributeBase a "clear" X.env (eval a X.env) = eval a X.env := by rfl) (hline : (ap.endLine == pos.line) = true := by rfl) : PE X (.Call (.Attribute a "clear" ap) [] [] pos) (tClrD X.prog X.w t) := by
  refine ⟨fun pins s σ H Q I h => ?_⟩
  refine wpAny_Call_method0_late hbase hline (thn (ha.run pins s σ H _ I h) fun v s1 ⟨x, H1, I1, r1, p, L, e0, hw, q⟩ => ?_)
  subst e0
  obtain rfl : v = Value.ref p := r1
  obtain ⟨⟨h1, h2, h3, xs, pr, o, es, ep, ho, hx, hdt, he, _⟩, _, _⟩ := (show Rd H1 p (dN X.prog X.w p L) from .inl hw).ok I1.hok
  have hr : s1.heap.DictRaw p es ep := ⟨o, ho, hx, hdt⟩
  have l1 : es.size = xs.length := size_of_entries he
  have l2 : L.length = xs.length := paired_len pr
  refine ⟨"dict", "dict.clear", PySem.F.plainAttrs_dict, PySem.F.slot_dict_clear, PySem.F.type_dict_clear, hr.typeIs, (fun b e => by cases e; exact ⟨o, ho, hx.2.1⟩), Calls.callWith_builtin rfl (PySem.evalArgs_none ?_)⟩
  refine call_meetsIn PySem.F.slot_dict_clear hr.typeIs PySem.F.entry_dict_clear (PySem.F.args_dict_clear_1 _) (meets_dict_clear_raw p) ⟨es, ep, hr, by omega, fun h' hr' hs' => ?_⟩
  obtain ⟨ob, e1, e2, e3⟩ := hr'
  exact ⟨.non, _, I1.write (x := p) (e := p) (o := dN X.prog X.w p []) (by rw [hw]; trivial) (.inl rfl) (fun c y hc hy => (hs'.2 c hc).trans hy) ⟨_, e1⟩
    (dN_obj h1 (Nat.zero_le _) (fun r hr => nomatch hr) .nil e1 e2 e3 rfl List.nodup_nil), rfl, q⟩
def tDict1 (K : PySem.W.Frag) (P : Program) (w : World) (tk tv : TE) : TE := fun σ H Q => ∀ p, H p = none → tk σ (upd H p (dN P w p [])) fun x H1 => tv σ H1 fun y H2 => ∃ b k, x = .ref b ∧ H2 p = some (dN P w p []) ∧ KOk K H2 k b ∧ Q (.ref p) (upd H2 p (dN P w p [(k, b, y)]))
theorem pe_dict1 (hr : Room k X.A) (ha : PE X a t) (hb : PE X b t') : PE X (.Dict [some a] [b] pos) (tDict1 X.K X.prog X.w t t') := by
  refine ⟨fun pins s σ H Q I h => ?_⟩
  have un := hr.un
  let prs : List (Sem Value × Sem Value) := [(eval a X.env, do let x ← eval b X.env; standAt pos; pure x)]
  have hshape : (evalEachOpt [some a] X.env).zip ((evalEach [b] X.env).map fun v => do let x ← v; standAt pos; pure x) = prs.map fun p => (some p.1, p.2) := rfl
  rw [arm_eval_Dict, hshape, dictDisplay_pairs prs (by simp [prs]) (by simp [prs])]
  refine wpAny_bind (wpAny_standAt (wpAny_bind (wpAny_subDictH (knd := nestedKind X.prog X.w) (Q := fun d s' => wpAny (model X.prog X.w) X.A (pure (Value.ref d)) (EP X pins σ Q) X.xe s') (show X.A.units + 8 < cLine by omega) (by simp [prs]) ?_)))
  have hf := I.hok.fresh (a := s.heap.objs.size) (Nat.le_refl _)
  have I0 := I.laid (a := s.heap.objs.size) (o := dN X.prog X.w s.heap.objs.size []) (t' := s.toks) (fun _ _ q => Heap.get?_push_of_some _ q) (Nat.le_refl _) (dN_new s.heap I.big)
  show wpAny _ _ (evalPairs [(eval a X.env, do let x ← eval b X.env; standAt pos; pure x)]) _ _ _
  unfold evalPairs
  refine wpAny_bind (thn (ha.run pins _ σ _ _ I0 (h _ hf)) fun kv s1 ⟨x, H1, I1, r1, q1⟩ => ?_)
  refine wpAny_bind (wpAny_holding (wpAny_bind (thn (hb.run pins s1 σ H1 _ I1 q1) fun vv s2 ⟨y, H2, I2, r2, bb, k, e0, hw, kb, q⟩ => ?_)))
  subst e0
  obtain rfl : kv = Value.ref bb := r1
  refine wpAny_bind (wpAny_standAt (wpAny_pure ?_))
  refine wpAny_bind (wpAny_holding ?_)
  unfold evalPairs
  refine wpAny_pure (wpAny_pure ?_)
  obtain ⟨hd, _, xs, hp, hm⟩ := dict_at I2 (.inl hw) (fun r hr => nomatch hr)
  cases hp
  refine ⟨[(k, bb, vv)], ⟨rfl, rfl, kb.at I2, trivial⟩, hm, fun h' tk hd' hs => wpAny_pure ?_⟩
  obtain ⟨_, _, _, _, dd⟩ := kb
  obtain ⟨ob, es, ep, e1, e2, e3, e4, e5, e6⟩ := hd'
  exact ⟨.ref s.heap.objs.size, _, I2.write (x := s.heap.objs.size) (e := s.heap.objs.size) (o := dN X.prog X.w s.heap.objs.size [(k, bb, y)]) (by rw [hw]; trivial) (.inl rfl) (fun c y hc hy => (hs.2 c hc).trans hy) ⟨_, e1⟩
    (dN_obj hd (by rw [sizeLine_eq]; simp) (fun r hr => by rw [List.mem_singleton.mp hr]; exact dd) (.cons ⟨rfl, rfl, r2⟩ .nil) e1 e2 e3 e4 e6), rfl, q⟩
/-! in the plain semantics -/
def oClrD (w : Va) (S : Sto) : Rs Va := match w with
  | .loc l => match S[l]? with
    | some (.dct _) => .ok .non (S.set l (.dct []))
    | _ => .bad
  | _ => .bad
@[simp] def xclrD (x : XE) : XE := fun δ S => (x δ S).bind oClrD
theorem se_clrD (o : XO X g Wx k) {ap : Pos} (ha : SE X g Wx a x) (hbase : attributeBase a "clear" X.env (eval a X.env) = eval a X.env := by rfl) (hline : (ap.endLine == pos.line) = true := by rfl) : SE X g Wx (.Call (.Attribute a "clear" ap) [] [] pos) (xclrD x) :=
  pe_imp (pe_clrD ha hbase hline) fun σ H Q ⟨δ, S, ρ, sm, se, h⟩ => ⟨δ, S, ρ, sm, se, wpR.imp (wpR.bind (rel := Rel g) h) fun v H1 ⟨ρ1, w, S1, e1, s1, r1, h1⟩ => by
    unfold oClrD at h1
    split at h1
    · rename_i l
      split at h1
      · rename_i kvs e0
        cases r1 with
        | @loc _ p hp =>
          obtain ⟨L, hw, _⟩ := s1.ats l _ p e0 hp
          obtain ⟨s2, e2⟩ := s1.put (o' := .dct []) (u := dN g.P g.w p []) e0 hp rfl rfl fun H' e' q' => ⟨[], q', .nil, .nil, rfl, fun r hr => nomatch hr⟩
          have fin := wpR.fin_at h1 e2 s2 .non
          rw [o.gP, o.gw] at hw fin
          exact ⟨p, L, rfl, hw, fin⟩
      · exact h1.elim
    · exact h1.elim⟩
@[simp] def xdict1 (x y : XE) : XE := fun δ S => (x δ (S ++ [.dct []])).bind fun kw S1 => (y δ S1).bind fun w S2 => match S2[S.length]?, keyT kw with
  | some (.dct []), some _ => .ok (.loc S.length) (S2.set S.length (.dct [(kw, w)]))
  | _, _ => .bad
theorem se_dict1 (o : XO X g Wx k) (ha : SE X g Wx a x) (hb : SE X g Wx b y) : SE X g Wx (.Dict [some a] [b] pos) (xdict1 x y) :=
  pe_imp (pe_dict1 o.room ha hb) fun σ H Q ⟨δ, S, ρ, sm, se, h⟩ => fun p hp => by
    obtain ⟨s2, e2⟩ := sm.laid (o := .dct []) (u := dN g.P g.w p []) hp (fun ρ' H' e q => ⟨[], q, .nil, .nil, rfl, fun r hr => nomatch hr⟩) rfl
    rw [o.gP, o.gw] at s2 e2
    have hl : (ρ ++ [p])[S.length]? = some p := by rw [sm.len]; simp
    have h2 : wpR g Wx σ (Rel g) (ρ ++ [p]) (upd H p (dN X.prog X.w p [])) (xdict1 x y δ S) Q := by
      cases q : xdict1 x y δ S with
      | ok w T => rw [q] at h; exact fun ρ' H' b e s r => h ρ' H' b (e2.trans e) s r
      | ex c fs T => rw [q] at h; exact fun ρ' H' b e s r => h ρ' H' b (e2.trans e) s r
      | bad => rw [q] at h; exact h
    refine ⟨δ, S ++ [.dct []], ρ ++ [p], s2, se.mono e2, wpR.imp (wpR.bind (rel := Rel g) h2) fun v H1 ⟨ρ1, kw, S1, e3, s3, r3, h3⟩ => ?_⟩
    refine ⟨δ, S1, ρ1, s3, se.mono (e2.trans e3), wpR.imp (wpR.bind (rel := Rel g) h3) fun u H2 ⟨ρ2, w, S2, e4, s4, r4, h4⟩ => ?_⟩
    split at h4
    · rename_i k z1 z2
      have r3' := r3.mono e4
      obtain ⟨bb, rfl, kb, nk⟩ := keyT_ok r3' z2
      have hp2 := e4.at (e3.at hl)
      obtain ⟨L, hw, a1, _, _⟩ := s4.ats _ _ p z1 hp2
      have : L = [] := by
        cases L with
        | nil => rfl
        | cons x L => cases a1
      subst this
      obtain ⟨_, _, _, _, dd⟩ := id kb
      obtain ⟨s5, e5⟩ := s4.put (o' := .dct [(kw, w)]) (u := dN g.P g.w p [(k, bb, u)]) z1 hp2 rfl rfl fun H' e' q' => ⟨_, q', .cons (r3'.mono e') .nil, .cons (r4.mono e') .nil, by simp [nk], fun r hr => by rw [List.mem_singleton.mp hr]; exact dd⟩
      have fin := wpR.fin_at h4 e5 s5 (.loc hp2)
      rw [o.gP, o.gw] at hw fin
      rw [o.K] at kb
      exact ⟨bb, k, rfl, hw, kb, fin⟩
    · exact h4.elim
end
end Rz
namespace Rz
open PySem PySem.Spec PyProof.Rows L2 PySem.W
/-! ### ends: a statement under a lock, d.clear(), {k: v}, dict(pairs) -/
theorem nx_ex {o : Out} {N : Env → Sto → Prop} (h : wo o N noK) : ∃ δ S, o = .nx δ S ∧ N δ S := by
  unfold wo at h
  cases o with
  | nx δ S => exact ⟨δ, S, rfl, h⟩
  | _ => exact (h : False).elim
section
variable {N : Env → Sto → Prop} {K : Ke} {δ : Env} {S S1 : Sto} {x y : XE} {l : Nat} {us : List Va} {QV : Va → Sto → Prop} {E : Xp}
theorem wo_lock {s : XS} {kvs : List (Va × Va)} (hx : x δ S = .ok (.loc l) S1) (h1 : S[l]? = some (.dct kvs)) (h : ∀ T, T.length = S.length → KeepB l S T → T[l]? = some (.frd kvs) → wo (s δ T) (fun δ' U => U[l]? = some (.frd kvs) ∧ ∀ V, V.length = U.length → KeepB l U V → V[l]? = some (.dct kvs) → N δ' V) noK) : wo (slock x s δ S) N K := by
  have g := h _ (by simp) (KeepB.set l S (.frd kvs)) (List.getElem?_set_self (lt_of h1))
  obtain ⟨δ', U, e1, e2, e3⟩ := nx_ex g
  unfold slock
  rw [hx]
  dsimp only
  rw [h1]
  dsimp only
  rw [e1]
  dsimp only
  unfold unlS
  rw [e2]
  with_unfolding_all exact e3 _ (by simp) (KeepB.set _ _ _) (List.getElem?_set_self (lt_of e2))
theorem wr_clrD (h : wr (x δ S) (fun w S1 => ∃ l kvs, w = .loc l ∧ S1[l]? = some (.dct kvs) ∧ ∀ T, T.length = S1.length → KeepB l S1 T → T[l]? = some (.dct []) → QV .non T) E) : wr (xclrD x δ S) QV E := wr_bind (h.mono fun w S1 ⟨l, kvs, e, e2, h⟩ => by
  subst e
  unfold oClrD
  dsimp only
  rw [e2]
  with_unfolding_all exact h _ (by simp) (KeepB.set _ _ _) (List.getElem?_set_self (lt_of e2)))
theorem wr_dict1 (h : ∀ d T, d = S.length → T.length = S.length + 1 → Keep S T → T[d]? = some (.dct []) → wr (x δ T) (fun kw S1 => wr (y δ S1) (fun w S2 => S2[d]? = some (.dct []) ∧ (∃ k, keyT kw = some k) ∧ ∀ U, U.length = S2.length → KeepB d S2 U → U[d]? = some (.dct [(kw, w)]) → QV (.loc d) U) E) E) : wr (xdict1 x y δ S) QV E :=
  wr_bind ((h _ _ rfl (by simp) (Keep.app S _) (get_new _ _ _)).mono fun kw S1 h => wr_bind (h.mono fun w S2 ⟨a, ⟨k, b⟩, c⟩ => by
    rw [a, b]
    with_unfolding_all exact c _ (by simp) (KeepB.set _ _ _) (List.getElem?_set_self (lt_of a))))
theorem wr_dictP {ps : List (Va × Va)} (h1 : S[l]? = some (.lst us)) (h2 : prsV us = some ps) (h : ∀ d T, d = S.length → T.length = S.length + 1 → Keep S T → T[d]? = some (.dct (stAll [] ps)) → QV (.loc d) T) : wr (fDictP [.loc l] S) QV E := by
  unfold fDictP
  dsimp only
  rw [h1]
  dsimp only
  rw [h2]
  with_unfolding_all exact h _ _ rfl (by simp) (Keep.app S _) (get_new _ _ _)
theorem prsV_of : ∀ {ps : List (Va × Va)}, (∀ p ∈ ps, ∃ k, keyT p.1 = some k) → prsV (ps.map fun p => Va.tup [p.1, p.2]) = some ps
  | [], _ => rfl
  | p :: ps, h => by
    obtain ⟨k, hk⟩ := h p List.mem_cons_self
    show (match prV (.tup [p.1, p.2]), prsV (ps.map fun p => Va.tup [p.1, p.2]) with | some p, some ps => some (p :: ps) | _, _ => none) = _
    rw [prsV_of fun q hq => h q (List.mem_cons_of_mem _ hq)]
    unfold prV
    dsimp only
    rw [hk]
end
end Rz
namespace Rz
open PySem PySem.Spec PyProof.Rows L2 PySem.W LamX
/-! ### f(lambda: e), f a def that keeps what the call raises -/
section
variable {X : Cx} {pins : List (Addr × Obj)} {σ : L2.St} {H : Hp} {s : Shared}
/-- the call of what was handed over, in the def that got it -/
theorem act_in {Ng : List Str} {qg : Str} {sg : Scope} {gf f c' : Addr} {cdg pm ctv : Value} {params : Arguments} {body : Expr} {scope : Scope} {k i : Nat} {a : Str} {pn : List (Addr × Obj)} {xe : Value → Shared → Prop} {W : WX} {E : XK} {tb : TE} {p1 p2 : Pos}
    (I : Inv X pins σ H s) (L : LamS X.env.scope scope) (hf : s.heap.get? f = some (kla_obj "<lambda>" (X.env.qual ++ "<lambda>") params body scope (cloFrom X.env.cells scope.names []) pm c' ctv)) (hfn : H f = none) (hfr : f ∉ frs X.stack)
    (hbind : bindArgs (kla_fn "<lambda>" (X.env.qual ++ "<lambda>") params body scope (cloFrom X.env.cells scope.names []) pm (.ref c') ctv) ⟨[], []⟩ = pure [])
    (tk : Takes ((cxOf C8.CX0 X.prog X.w X.K X.mg X.base Ng qg sg gf cdg X.A X.stack s H C8.E0).tr pn xe) W) (hW : ∀ cls d σ' H', E cls d H' → W cls d σ' H') (hr : Room (k + 1) (X.A.deeper (envOfC qg sg s.heap.objs.size gf cdg)))
    (hbody : ∀ (outer : List PySem.Env) (s0 : Shared) (H0 : Hp), Room k ((X.A.deeper (envOfC qg sg s.heap.objs.size gf cdg)).deeper (lamEnv X scope s0.heap.objs.size f c')) → PE (lamCx X (X.A.deeper (envOfC qg sg s.heap.objs.size gf cdg)) outer s0 H0 E scope f c') body tb)
    (hN : Ng[i]? = some a) (hv : Vis sg a) (hd : (a == ("__debug__" : Str)) = false) (hcd : (a == ("__classdict__" : Str)) = false) :
    PE ((cxOf C8.CX0 X.prog X.w X.K X.mg X.base Ng qg sg gf cdg X.A X.stack s H C8.E0).tr pn xe) (.Call (.Name a p1) [] [] p2)
      (fun σZ HZ Q => σZ[i]? = some (some (.ref f)) ∧ HZ c' = some (CodeO c' (X.env.qual ++ "<lambda>")) ∧ tb σ HZ Q) := ⟨fun pinsZ sZ σZ HZ Q IZ ⟨h1, h2, h3⟩ => by
  have var := (pe_var (X := (cxOf C8.CX0 X.prog X.w X.K X.mg X.base Ng qg sg gf cdg X.A X.stack s H C8.E0).tr pn xe) (pos := p1) (i := i) hN hv hd hcd).run pinsZ sZ σZ HZ (fun v H1 => v = .ref f ∧ H1 = HZ) IZ ⟨.ref f, h1, rfl, rfl⟩
  refine wpAny_Call_Name_kw (thn var fun u s1 ⟨v, H1, I1, r1, ev, eH⟩ => ?_)
  subst ev
  subst eH
  obtain rfl : u = Value.ref f := r1
  have at1 := I1.base.keep f _ hf hfn hfr (fun z => nomatch z)
  have un := I1.base
  obtain ⟨⟨oc, vs, t, g1, g2, g3⟩, _⟩ := I1.hok c' _ h2
  refine callWith_F0 ⟨_, _, _, _, at1⟩ ?_
  have rc : codeAny (model X.prog X.w) (X.A.deeper (envOfC qg sg s.heap.objs.size gf cdg)) (.call (.ref f) ⟨[], []⟩) (CR (L2.CX X.prog X.w) (envOfC qg sg s.heap.objs.size gf cdg :: X.stack) X.prog X.w H1 s1 Q E) s1 := by
    refine kla_callFunE hr.depth at1 rfl L.co L.gen rfl ⟨c', oc, vs, t, rfl, g1, g2, g3⟩ ?_
    rw [hbind]
    refine wpAny_pure (wpAny_newFunctionEnv (fun y hy => (L.own y hy).2) (fun y hy => nomatch hy) (fun h2 hns hsb => ⟨I1.nolimit.fresh _ hsb, ?_⟩) L.kind)
    have kp : ∀ b o, s1.heap.get? b = some o → h2.get? b = some o := fun b o e => hsb.extBut b o (Nat.ne_of_lt (Heap.lt_size e)) (Heap.get?_push_of_some _ e)
    have J := lam_start2 (E := E) (f := f) (c' := c') (outer := envOfC qg sg s.heap.objs.size gf cdg :: X.stack) (tk := s1.toks + ([] : List (Str × Value)).length) I L I1.env0 hr.hd un hns kp
    refine kla_codeExpr (wpAny_mono ((hbody _ s1 H1 (hr.deeper _)).run [] _ _ H1 Q J h3) (fun v s' ⟨w', H', J', rv, q⟩ => ⟨w', H', J'.os, J'.bare, J'.base, J'.hok, rv, q⟩) fun e s' hq => hq)
  have hx : Passes (L2.CX X.prog X.w) ((cxOf C8.CX0 X.prog X.w X.K X.mg X.base Ng qg sg gf cdg X.A X.stack s H C8.E0).tr pn xe) E := passes_call tk hW
  refine wpAny_call (codeAny_mono rc fun r s' hq => ?_)
  cases r with
  | error e => exact hx pinsZ σZ H1 s1 e s' I1 hq
  | ok fl => cases fl with
    | ret u => exact I1.after hq
    | _ => exact False.elim hq⟩
end

def lamFin : Out → Rs Va
  | .rt w S => .ok w S
  | _ => .bad
/-- the slots of the def behind its try: what it keeps stands at kk -/
def envW (n kk : Nat) (v : Va) : Env := (List.replicate n none).set kk (some v)
/-- f(lambda: x): sr is what f does behind its try -/
def ylam (exm : Nat → Bool) (n kk : Nat) (sr : XS) (x : XE) : XE := fun δ S => match x δ S with
  | .ok _ S' => lamFin (sr (envW n kk .non) S')
  | .ex c [] S' => bif exm c then lamFin (sr (envW n kk (.loc S'.length)) (S' ++ [.exo c []])) else .bad
  | _ => .bad
abbrev W0 : WX := fun _ _ _ _ => False
section
variable {g : G} {ρ : List Addr} {H H' : Hp} {S : Sto}
theorem simE_W {n kk : Nat} {w : Va} {v : V} {σ : L2.St} (hl : σ.length = n) (hk : σ[kk]? = some (some v)) (r : Rel g ρ H w v) : SimE g ρ H (envW n kk w) σ := by
  refine ⟨by unfold envW; simp [hl], fun i u q => ?_⟩
  unfold envW at q
  by_cases e : i = kk
  · subst e
    have il : i < n := by rw [← hl]; exact (List.getElem?_eq_some_iff.mp hk).1
    rw [List.getElem?_set_self (by simpa using il)] at q
    cases q
    exact ⟨v, hk, r⟩
  · rw [List.getElem?_set_ne (Ne.symm e), List.getElem?_replicate] at q
    split at q
    · cases q
    · cases q
/-- the tables grow -/
theorem Sim.extN (sm : Sim g ρ S H) (e : ExtN H H') (t : Tabs g.T H') : Sim g ρ S H' ∧ Ext g ρ H ρ H' := by
  have x : Ext g ρ H ρ H' := ⟨⟨[], by simp⟩, fun a vs q => by
    rcases q with (q | ⟨ob, q⟩) | q
    · exact .inl (.inl (e _ _ q fun ps z => nomatch z))
    · exact .inl (.inr ⟨ob, e _ _ q fun ps z => nomatch z⟩)
    · exact .inr q, fun b ob u q => e _ _ q fun ps z => nomatch z⟩
  refine ⟨⟨sm.len, sm.inj, fun i ob a h1 h2 => ?_, t⟩, x⟩
  have z := sm.ats i ob a h1 h2
  by_cases f : isFr ob = true
  · cases ob with
    | frl ws =>
      rcases z with ⟨o2, vs, z, r⟩ | ⟨vs, z, r⟩
      · exact .inl ⟨o2, vs, e _ _ z (fun ps z => nomatch z), r.mono x⟩
      · exact .inr ⟨vs, z, r.mono x⟩
    | _ => cases f
  · obtain ⟨u, hu, nt, _⟩ := z.code (by simpa using f)
    exact z.mono x fun u' hu' => e _ _ hu' (by rw [hu] at hu'; cases hu'; exact nt)
end
section
variable {X : Cx} {g : G} {Wx : WX} {K k n kk ii c0 : Nat} {exm : Nat → Bool} {rest : List Stmt} {sr : XS} {xt : XE} {x a ce m nm : Str} {gf c P : Addr} {st : Stmt} {fd : FuncData} {Ng : List Str} {params : Arguments} {body : Expr} {scope : Scope} {j : Nat} {p lpos pos pa pb pc p1 p2 pe q1 p4 p5 p6 q2 q3 : Pos}
theorem se_lam (o : XO X g Wx K) (hK : k + 2 ≤ K) (F : L2.Fun X.K x x st gf fd) (hb : L2.Binds X.K fd [a] []) (Sg : FnScope Ng [a] (defScope st)) (hm : X.mg x = some (.ref gf)) (hce : ∀ Z : Cx, Z.mg = X.mg → Z.env.scope = defScope st → Names Z ce (.ref (g.cls c0)))
    (ex : ∀ c, exm c = true → exmOne X.K (.ref (g.cls c)) (.ref (g.cls c0)) = some true)
    (TB : TabB X.base X.mg c P) (hcode : X.env.code = .ref c) (hmT : (P, X.env.qual ++ "<lambda>") ∈ g.T) (hu : ∀ p ∈ g.T, p.1 = P → p.2 = X.env.qual ++ "<lambda>") (L : LamS X.env.scope scope)
    (hB : defBody st = .Assign [.Name m pa] (.Constant .none j pb) pc :: .Try [.Expr (.Call (.Name a p1) [] [] p2) pe] [.ExceptHandler (some (.Name ce q1)) (some nm) [.Assign [.Name m p4] (.Name nm p5) p6] q2] [] [] q3 :: rest)
    (hrest : ∀ (cdv : Value) (s0 : Shared) (H0 : Hp), XO (cxOf C8.CX0 X.prog X.w X.K X.mg X.base Ng x (defScope st) gf cdv X.A X.stack s0 H0 C8.E0).nox g W0 k → SB (cxOf C8.CX0 X.prog X.w X.K X.mg X.base Ng x (defScope st) gf cdv X.A X.stack s0 H0 C8.E0).nox g W0 rest sr)
    (hbody : ∀ (A : Around) (outer : List PySem.Env) (s0 : Shared) (H0 : Hp) (E : XK) (f c' : Addr), XO (lamCx X A outer s0 H0 E scope f c') g (Eo E) k → SE (lamCx X A outer s0 H0 E scope f c') g (Eo E) body xt)
    (hdef : defaultsOf params X.env = ([], []) := by rfl)
    (hbind : ∀ (q : Str) (cl : List (Str × Addr)) (pm cv ctv : Value), bindArgs (kla_fn "<lambda>" q params body scope cl pm cv ctv) ⟨[], []⟩ = pure [] := by intros; rfl)
    (hg : Gl X x := by rfl) (hn : Ng.length = n := by rfl) (hNa : Ng[0]? = some a := by rfl) (hNm : Ng[kk]? = some m := by rfl) (hNn : Ng[ii]? = some nm := by rfl) (hik : ii ≠ kk := by decide) (hk0 : kk ≠ 0 := by decide)
    (hva : Vis (defScope st) a := by exact Or.inl rfl) (hvn : Vis (defScope st) nm := by exact Or.inl rfl) (hlm : (defScope st).names.lookup m = some .local := by rfl) (hln : (defScope st).names.lookup nm = some .local := by rfl)
    (hdb : (x == ("__debug__" : Str)) = false := by decide) (hda : (a == ("__debug__" : Str)) = false := by decide) (hca : (a == ("__classdict__" : Str)) = false := by decide) (hdn : (nm == ("__debug__" : Str)) = false := by decide) (hcn : (nm == ("__classdict__" : Str)) = false := by decide)
    (sw1 : ∀ env : PySem.Env, swapsWithSole [.Name m pa] (.Constant .none j pb) pc.line env = pure false := by intro _; rfl)
    (sw2 : ∀ env : PySem.Env, swapsWith (.Name nm p5) (some (.Name m p4)) p6.line env = pure false := by intro _; rfl) (sw3 : ∀ env : PySem.Env, swapsWith (.Call (.Name a p1) [] [] p2) none pe.line env = pure false := by intro _; rfl) :
    SE X g Wx (.Call (.Name x p) [.Lambda params body scope lpos] [] pos) (ylam exm n kk sr xt) := by
  obtain ⟨oc, od, kV, doc, pm, an, cdv, ct, osl, rfl, lk, hcg⟩ := F.ex
  refine ⟨fun pins s σ H Q I ⟨δ, S, ρ, sm, se, h⟩ => ?_⟩
  have hr := o.room.mono hK
  refine wpAny_Call_Name_kw (ld_glob I hg hm ?_ hdb)
  refine callWith_K (h₀ := X.base) I.ok.mod.kin F.kp ?_ (by rfl) (by rfl)
  show wpAny _ _ (spliced ((false, eval (.Lambda params body scope lpos) X.env) :: backTo pos (starEach [] X.env))) _ _ s
  refine Calls.spliced_cons (lam_make2 (T := g.T) I TB hcode hmT hu sm.tabs hdef (L.has I.ok) fun f c' pm' ctv H1 s' I1 eN T1 hf hfn hfr hco => ?_)
  refine Calls.spliced_nil ⟨I1.kIn, ?_⟩
  obtain ⟨sm1, e01⟩ := sm.extN eN T1
  have rc : codeAny (model X.prog X.w) X.A (.call (.ref gf) ⟨[.ref f], []⟩) (CR C8.CX0 X.stack X.prog X.w H1 s' Q C8.E0) s' := by
    refine run_ofS (N := Ng) (ps := [a]) (us := [.ref f]) (vs := [.ref f]) lk hcg Sg hr I1.env0 (hb s' [.ref f] I1.kIn rfl) (.cons rfl .nil) rfl fun hr' => ?_
    let Z := (cxOf C8.CX0 X.prog X.w X.K X.mg X.base Ng x (defScope st) gf cdv X.A X.stack s' H1 C8.E0).nox
    have xz : XO Z g W0 k := ⟨o.K, Sg.nd, rfl, hr'.mono (Nat.le_succ k), o.grd, L2.takes0, PassesOwn.never, o.gP, o.gw⟩
    let Dq : Ends := { nx := fun _ H' => Q .non H', rt := Q }
    let Ech : XK := fun cls d H' => ∃ c, exm c = true ∧ cls = .ref (g.cls c) ∧ d = none ∧ ∀ z, H' z = none → ∀ σ' : L2.St, σ'[kk]? = some (some (.ref z)) → σ'.length = n → tS g W0 sr Dq σ' (upd H' z (exH (.ref (g.cls c)) z))
    let σ1 : L2.St := (L2.start Ng [V.ref f]).set kk (some .non)
    have ps1 : PS Z (.Assign [.Name m pa] (.Constant .none j pb) pc) (tAsg (tC .non) (gName kk)) := ps_asg pe_non (pg_name (i := kk) Sg.nd hNm (.inl hlm) (.inr hlm)) (sw1 _)
    have ps2 : PS Z (.Try [.Expr (.Call (.Name a p1) [] [] p2) pe] [.ExceptHandler (some (.Name ce q1)) (some nm) [.Assign [.Name m p4] (.Name nm p5) p6] q2] [] [] q3) _ :=
      ps_keep (X := Z) (i := ii) rfl rfl rfl Sg.nd hNn hln (hce Z rfl rfl) (tb := fun W D σ' H' => (∀ cls d σ2 H2, Ech cls d H2 → σ2.length = n → W cls d σ2 H2) ∧ σ'[0]? = some (some (.ref f)) ∧ H' c' = some (CodeO c' (X.env.qual ++ "<lambda>")) ∧ tE g (Eo Ech) xt σ H' (fun _ H2 => D.nx σ' H2)) (ts := fun _ => _)
        (fun W pn xe tk _ => ⟨fun pins2 s2 σ2 H2 D I2 ⟨w1, w2, w3, w4⟩ => by
          have hp := act_in (k := k) (i := 0) (tb := tE g (Eo Ech) xt) (p1 := p1) (p2 := p2) (W := fun cls d σ3 H3 => σ3.length = n → W cls d σ3 H3) I1 L hf hfn hfr (hbind _ _ _ _ _) (fun u q ⟨a1, B, sI, pn1, σ3, H3, cls, d, e, J, nb, up, sky, na, os, ag, w⟩ => tk u q ⟨a1, B, sI, pn1, σ3, H3, cls, d, e, J, nb, up, sky, na, os, ag, w (J.len.trans hn)⟩) (fun cls d σ3 H3 z hl => w1 cls d σ3 H3 z hl) hr'
            (fun outer s0 H0 hr2 => hbody _ outer s0 H0 Ech f c' ⟨o.K, o.nd, rfl, hr2, o.grd, takes_of rfl rfl rfl rfl, passes_of rfl, o.gP, o.gw⟩) hNa hva hda hca
          exact (pss_one (ps_expr hp (sw3 _))).run pins2 s2 σ2 H2 D I2 ⟨w2, w3, w4⟩⟩)
        (fun z pn => pss_one (ps_asg (X := Z.suite z pn) (pe_var hNn hvn hdn hcn) (pg_name (i := kk) Sg.nd hNm (.inl hlm) (.inr hlm)) (by exact sw2 Z.env)))
    rw [hB]
    refine ⟨_, (pss_cons ps1 (pss_cons ps2 (hrest cdv s' H1 xz))).nox, ?_⟩
    have kl : kk < n := by rw [← hn]; exact (List.getElem?_eq_some_iff.mp hNm).1
    have l0 : (L2.start Ng [V.ref f]).length = n := by
      unfold L2.start
      simp [hn]
      omega
    have il : ii < n := by rw [← hn]; exact (List.getElem?_eq_some_iff.mp hNn).1
    have s1k : σ1[kk]? = some (some .non) := List.getElem?_set_self (by rw [l0]; exact kl)
    have s1l : σ1.length = n := by show ((L2.start Ng [V.ref f]).set kk _).length = n; rw [List.length_set]; exact l0
    refine ⟨fun cls d σ2 H2 ⟨c, e1, e2, e3, e4⟩ hl => ?_, ?_, hco, δ, S, ρ, sm1, se.mono e01, ?_⟩
    · subst e2
      refine ⟨ex c e1, e3, fun z hz => ⟨.ref z, List.getElem?_set_self (by rw [hl]; exact il), fun _ => ?_⟩⟩
      refine e4 z hz _ ?_ ?_
      · rw [List.getElem?_set_ne hik, List.getElem?_set_self (by rw [List.length_set, hl]; exact kl)]
      · rw [List.length_set, List.length_set, List.length_set, hl]
    · rw [List.getElem?_set_ne hk0]
      rfl
    · unfold ylam at h
      cases q : xt δ S with
      | ok w S' =>
        rw [q] at h
        dsimp only at h
        intro ρ2 H2 v x1 s2 r2
        refine ⟨envW n kk .non, S', ρ2, s2, simE_W s1l s1k .non, ?_⟩
        unfold lamFin at h
        cases q2 : sr (envW n kk .non) S' with
        | rt w2 S2 => rw [q2] at h; exact fun ρ3 H3 v3 x2 s3 r3 => h ρ3 H3 v3 ((e01.trans x1).trans x2) s3 r3
        | _ => rw [q2] at h; exact h.elim
      | ex c fs S' =>
        rw [q] at h
        cases fs with
        | cons f2 fs => exact h.elim
        | nil =>
          dsimp only at h
          by_cases q1 : exm c = true
          · rw [q1] at h
            intro ρ2 H2 d x1 s2 xd
            have dn : d = none := by
              rcases xd with ⟨_, y⟩ | ⟨_, _, y, _⟩
              · exact y
              · exact absurd rfl y
            refine ⟨c, q1, rfl, dn, fun z hz σ2 h1 h2 => ?_⟩
            obtain ⟨s3, e3⟩ := s2.laid (o := .exo c []) (u := exH (.ref (g.cls c)) z) hz (fun ρ' H' _ y => ⟨rfl, y⟩) rfl
            have rz : Rel g (ρ2 ++ [z]) (upd H2 z (exH (.ref (g.cls c)) z)) (.loc S'.length) (.ref z) := .loc (by rw [s2.len]; simp)
            refine ⟨envW n kk (.loc S'.length), S' ++ [.exo c []], _, s3, simE_W h2 h1 rz, ?_⟩
            have h' : wpR g Wx σ (Rel g) ρ H (lamFin (sr (envW n kk (.loc S'.length)) (S' ++ [.exo c []]))) Q := h
            unfold lamFin at h'
            cases q2 : sr (envW n kk (.loc S'.length)) (S' ++ [.exo c []]) with
            | rt w2 S2 => rw [q2] at h'; exact fun ρ3 H3 v3 x2 s4 r3 => h' ρ3 H3 v3 (((e01.trans x1).trans e3).trans x2) s4 r3
            | _ => rw [q2] at h'; exact h'.elim
          · rw [Bool.not_eq_true _ |>.mp q1] at h
            exact h.elim
      | bad => rw [q] at h; exact h.elim
  refine wpAny_call (codeAny_mono rc fun r s2 hq => ?_)
  cases r with
  | error e => exact (show False from hq).elim
  | ok fl => cases fl with
    | ret u => exact I1.after hq
    | _ => exact False.elim hq
end
end Rz
namespace Rz
open PySem PySem.Spec PyProof.Rows L2
/-! ### the end of a law that makes lambdas: cs, the code objects that make them and their tables -/
section
variable {P : Program} {w : World} {K : PySem.W.Frag} {mg mb : Str → Option Value} {k : Nat} {fa a : Addr} {fd : FuncData} {x : Str} {g : G} {m : List Va → Sto → Rs Va} {s₁ : Shared} {vs : List Value} {ns : List Int} {cs : List (Addr × Addr)}
theorem core_T (hg : g.K = K) (hTT : ∀ p ∈ g.T, ∃ c, (c, p.1) ∈ cs) (hL : LawOk m) (hlen : ns.length ≤ 63) (hb0 : s₁.heap.Ns builtinsNs mb) (hbb : ∀ x : Str, x ≠ "__name__" → mb x = bootBuiltins x) (hlim : s₁.heap.NoLimit) (hgen : s₁.gens = #[]) (KX : K.In s₁.heap) (hns : s₁.heap.Ns mainGlobals mg)
    (hT : ∀ p ∈ cs, s₁.heap.get? p.2 = some { cls := .none, data := .fields #[] }) (nT : ∀ p ∈ cs, K.lookup p.2 = none) (C : ∀ p ∈ cs, PySem.W.CodeHd s₁.heap p.1 p.2)
    (hbm : ∃ (bm : Addr) (ob : Obj), mg "__builtins__" = some (.ref bm) ∧ bm ≠ builtinsNs ∧ s₁.heap.get? bm = some ob ∧ ob.cls = .type "module" ∧ ob.dict = some builtinsNs ∧ ob.data = .plain)
    (ha : s₁.heap.get? a = some { cls := .type "list", data := .seq vs.toArray }) (hr : Room k callerA) (hM : ∃ mm, s₁.heap.Ns sysModules mm)
    (F : ∀ base : Heap, K.In base → base.Ns mainGlobals mg → (∃ mm, base.Ns sysModules mm) → (∀ p ∈ cs, LamX.TabB base mg p.1 p.2) → FnG P w K mg base k fa fd [x] (spM g 1 m)) (hbind : ∀ (s : Shared) (u : Value), BindsTo s fd ⟨[u], []⟩ [(x, u)])
    (H : Hp) (hH : ∀ p ∈ cs, H p.2 = some (.tbl #[])) (hO : ∀ b, H b = none ∨ (∃ c, (c, b) ∈ cs) ∨ ∃ o xs, H b = some (.frz o (.lst xs))) (hS : (∃ o, H a = some (.frz o (.lst (ns.map V.int)))) ∨ ∀ H', SqL K H' a (ns.map V.int)) (hok : HOk P w H s₁.heap) (hA : ∀ b, H b ≠ none → b = a ∨ ∃ c, (c, b) ∈ cs) (hK : H a ≠ none → K.lookup a = none) :
    codeAny (model P w) callerA (.call (.ref fa) ⟨[.ref a], []⟩) (fun r s' => r = .ok (.ret (.bool true)) ∧ OldK s₁.heap s'.heap ∧ s'.os = s₁.os ∧ AllBare s'.gens) s₁ := by
  have none_of : ∀ {b : Addr} {o : Obj}, s₁.heap.get? b = some o → (∀ xs n, o.data ≠ .seq xs n) → o.data ≠ .fields #[] → H b = none := fun {b o} e n1 n2 => by
    cases q : H b with
    | none => rfl
    | some u =>
      rcases hA b (by rw [q]; simp) with z | ⟨c, z⟩
      · rw [z, ha] at e
        cases e
        exact absurd rfl (n1 _ _)
      · rw [hT _ z] at e
        cases e
        exact absurd rfl n2
  have free : ∀ {b : Addr} {o : Obj}, s₁.heap.get? b = some o → (∀ xs n, o.data ≠ .seq xs n) → o.data ≠ .fields #[] → (hidT s₁.heap H).get? b = some o := fun e n1 n2 => hidT_get e (none_of e n1 n2)
  have dictA : ∀ {b : Addr} {q : Str → Option Value}, s₁.heap.Ns b q → (hidT s₁.heap H).Ns b q := fun {b q} ⟨o, es, ep, e, d, r⟩ => ⟨o, es, ep, free e (fun xs n z => by rw [d] at z; cases z) (fun z => by rw [d] at z; cases z), d, r⟩
  have kin : K.In (hidT s₁.heap H) := fun b o e => by
    refine hidT_get (KX b o e) ?_
    cases q : H b with
    | none => rfl
    | some u =>
      rcases hA b (by rw [q]; simp) with z | ⟨c, z⟩
      · subst z
        rw [hK (by rw [q]; simp)] at e
        cases e
      · rw [nT _ z] at e
        cases e
  have tb : ∀ p ∈ cs, LamX.TabB (hidT s₁.heap H) mg p.1 p.2 := fun p hp => by
    have tp := hT p hp
    have ng : mainGlobals ≠ p.2 := fun z => by
      obtain ⟨o, es, ep, e, d, _⟩ := hns
      rw [z, tp] at e
      cases e
      cases d
    obtain ⟨bm, ob, b1, b2, b3, b4, b5, b6⟩ := hbm
    have n1 : bm ≠ mainGlobals := fun z => by
      obtain ⟨o, es, ep, e, d, _⟩ := hns
      rw [← z, b3] at e
      cases e
      rw [d] at b6
      cases b6
    have n2 : bm ≠ p.2 := fun z => by
      rw [z, tp] at b3
      cases b3
      cases b6
    refine ⟨?_, ⟨bm, ob, b1, b2, n1, n2, free b3 (fun xs n z => by rw [b6] at z; cases z) (fun z => by rw [b6] at z; cases z), b4, b5, b6⟩, ng⟩
    obtain ⟨o, us, f1, f2, f3, f4, f5, f6, f7, e, c1, c2, c3, r⟩ := C p hp
    exact ⟨o, us, f1, f2, f3, f4, f5, f6, f7, free e (fun xs n z => by rw [c2] at z; cases z) (fun z => by rw [c2] at z; cases z; simp at c3), c1, c2, c3, r⟩
  obtain ⟨mc, l1, l2⟩ := hlim
  have env : Env0 P w K mg (hidT s₁.heap H) callerA [] s₁ H :=
    { frames := rfl, mod := ⟨kin, dictA hns, ⟨mb, dictA hb0, hbb⟩, ⟨mc, dictA l1, l2⟩⟩, bs := fun b o e => of_hidT e, bsz := Nat.le_of_eq (hidT_size _ _), funs := trivial, frf := fun b hb => absurd (show b ∈ ([] : List Addr) from hb) (by simp), hok := hok, bare := .of_eq hgen }
  obtain ⟨T, hT2⟩ := hL ns hlen
  have prom : spM g 1 m [.ref a] H (fun v _ => v = .bl true) (fun _ _ _ => False) := by
    refine ⟨rfl, [.loc 0], _, [a], sim_script hg hS (fun p hp => ?_), .cons (.loc rfl) .nil, ?_⟩
    · obtain ⟨c, z⟩ := hTT p hp
      exact LamX.TabS.nil (hH _ z)
    · rw [hT2]
      intro ρ' H' v e s r
      cases r
      rfl
  refine codeAny_mono ((F _ kin (dictA hns) (let ⟨mm, z⟩ := hM; ⟨mm, dictA z⟩) tb).run callerA [] s₁ H ⟨[.ref a], []⟩ [.ref a] [.ref a] _ _ hr rfl env (hbind s₁ (.ref a)) (.cons rfl .nil) prom) fun r s' h => ?_
  cases r with
  | error e =>
    obtain ⟨_, _, _, _, _, _, _, _, _, _, _, _, z⟩ := h
    exact z.elim
  | ok fl =>
    cases fl with
    | ret u =>
      obtain ⟨v, H', os, bare, un, hok', r', q⟩ := h
      obtain rfl : v = .bl true := q
      obtain rfl : u = Value.bool true := r'
      have kept : ∀ b o, (∀ c, (c, b) ∉ cs) → s₁.heap.get? b = some o → s'.heap.get? b = some o := fun b o nb e => by
        rcases hO b with z | ⟨c, z⟩ | ⟨ob, xs, z⟩
        · exact un.keep b o e z (fun z => absurd (show b ∈ ([] : List Addr) from z) (by simp)) (by simp)
        · exact absurd z (nb c)
        · have e1 := (hok b _ z).1
          have e2 := (hok' b _ (un.frzs b ob _ z)).1
          rw [e] at e1
          cases e1
          exact e2
      have grown : ∀ p ∈ cs, ∃ more : Array Value, s'.heap.get? p.2 = some { cls := .none, data := .fields more } := fun p hp => by
        obtain ⟨more, z⟩ := un.tbls p.2 #[] (hH p hp)
        exact ⟨_, hok' p.2 _ z⟩
      refine ⟨rfl, ⟨fun b o e => ?_, fun b o e => ?_⟩, os, bare⟩
      · by_cases hb : ∃ c, (c, b) ∈ cs
        · obtain ⟨c, z⟩ := hb
          obtain ⟨more, z2⟩ := grown _ z
          rw [hT _ z] at e
          cases e
          exact .inr (.inl ⟨((C _ z).tab (hT _ z)).isCodeTable, rfl, #[], more, rfl, by rw [Array.empty_append]; exact z2⟩)
        · exact .inl (kept b o (fun c z => hb ⟨c, z⟩) e)
      · by_cases hb : ∃ c, (c, b) ∈ cs
        · obtain ⟨c, z⟩ := hb
          obtain ⟨more, z2⟩ := grown _ z
          exact ⟨_, z2⟩
        · exact ⟨o, kept b o (fun c z => hb ⟨c, z⟩) e⟩
    | _ => exact h.elim
theorem law_T (hg : g.K = K) (hTT : ∀ p ∈ g.T, ∃ c, (c, p.1) ∈ cs) (hL : LawOk m) (hlen : ns.length ≤ 63) (hb0 : s₁.heap.Ns builtinsNs mb) (hbb : ∀ x : Str, x ≠ "__name__" → mb x = bootBuiltins x) (hlim : s₁.heap.NoLimit) (hgen : s₁.gens = #[]) (KX : K.In s₁.heap) (hns : s₁.heap.Ns mainGlobals mg)
    (hT : ∀ p ∈ cs, s₁.heap.get? p.2 = some { cls := .none, data := .fields #[] }) (nT : ∀ p ∈ cs, K.lookup p.2 = none) (C : ∀ p ∈ cs, PySem.W.CodeHd s₁.heap p.1 p.2)
    (hbm : ∃ (bm : Addr) (ob : Obj), mg "__builtins__" = some (.ref bm) ∧ bm ≠ builtinsNs ∧ s₁.heap.get? bm = some ob ∧ ob.cls = .type "module" ∧ ob.dict = some builtinsNs ∧ ob.data = .plain)
    (ha : s₁.heap.get? a = some { cls := .type "list", data := .seq vs.toArray }) (hi : PyProof.Rows.IntsAre vs ns) (hr : Room k callerA) (hM : ∃ mm, s₁.heap.Ns sysModules mm)
    (F : ∀ base : Heap, K.In base → base.Ns mainGlobals mg → (∃ mm, base.Ns sysModules mm) → (∀ p ∈ cs, LamX.TabB base mg p.1 p.2) → FnG P w K mg base k fa fd [x] (spM g 1 m)) (hbind : ∀ (s : Shared) (u : Value), BindsTo s fd ⟨[u], []⟩ [(x, u)]) :
    codeAny (model P w) callerA (.call (.ref fa) ⟨[.ref a], []⟩) (fun r s' => r = .ok (.ret (.bool true)) ∧ OldK s₁.heap s'.heap ∧ s'.os = s₁.os ∧ AllBare s'.gens) s₁ := by
  have rv := vals_ints hi
  have hz : ns.length ≤ sizeLine := Nat.le_trans hlen (by decide)
  have aT : ∀ c, (c, a) ∉ cs := fun c z => by
    have q := hT _ z
    rw [ha] at q
    have z' : Data.seq vs.toArray _ = Data.fields #[] := congrArg Obj.data (Option.some.inj q)
    cases z'
  let tabs : Hp := fun b => open Classical in if ∃ c, (c, b) ∈ cs then some (.tbl #[]) else none
  have tabs_y : ∀ {b : Addr}, (∃ c, (c, b) ∈ cs) → tabs b = some (.tbl #[]) := fun h => if_pos h
  have tabs_n : ∀ {b : Addr}, ¬ (∃ c, (c, b) ∈ cs) → tabs b = none := fun h => if_neg h
  have ta : tabs a = none := tabs_n fun ⟨c, z⟩ => aT c z
  cases hk : K.lookup a with
  | some o =>
    have e := KX a o hk
    rw [ha] at e
    cases e
    refine core_T hg hTT hL hlen hb0 hbb hlim hgen KX hns hT nT C hbm ha hr hM F hbind tabs (fun p hp => tabs_y ⟨p.1, hp⟩) (fun b => ?_) (.inr fun H' => .inr ⟨_, vs.toArray, _, hk, rfl, rfl, rfl, ?_, by simpa using rv⟩) (fun b u z => ?_) (fun b z => ?_) fun z => absurd ta z
    · by_cases hb : ∃ c, (c, b) ∈ cs
      · exact .inr (.inl hb)
      · exact .inl (tabs_n hb)
    · rw [List.size_toArray, hi.length]
      exact hz
    · by_cases hb : ∃ c, (c, b) ∈ cs
      · have q := (tabs_y hb).symm.trans z
        cases q
        obtain ⟨c, y⟩ := hb
        exact hT _ y
      · have q := (tabs_n hb).symm.trans z
        cases q
    · by_cases hb : ∃ c, (c, b) ∈ cs
      · exact .inr hb
      · exact absurd (tabs_n hb) z
  | none =>
    let H : Hp := upd tabs a (.frz { cls := .type "list", data := .seq vs.toArray } (.lst (ns.map V.int)))
    have Hn : ∀ {b : Addr}, b ≠ a → H b = tabs b := fun h => upd_ne h
    have Ha : H a = some (.frz { cls := .type "list", data := .seq vs.toArray } (.lst (ns.map V.int))) := upd_same
    refine core_T hg hTT hL hlen hb0 hbb hlim hgen KX hns hT nT C hbm ha hr hM F hbind H (fun p hp => (Hn fun z => aT p.1 (by rw [← z]; exact hp)).trans (tabs_y ⟨p.1, hp⟩)) (fun b => ?_) (.inl ⟨_, Ha⟩) (fun b u z => ?_) (fun b z => ?_) fun _ => hk
    all_goals by_cases ha2 : b = a
    · subst ha2; exact .inr (.inr ⟨_, _, Ha⟩)
    · by_cases hb : ∃ c, (c, b) ∈ cs
      · exact .inr (.inl hb)
      · exact .inl ((Hn ha2).trans (tabs_n hb))
    · subst ha2
      have q := Ha.symm.trans z
      cases q
      exact ⟨ha, by rw [List.length_map]; exact hz, vs, _, rv, ha⟩
    · have z1 := (Hn ha2).symm.trans z
      by_cases hb : ∃ c, (c, b) ∈ cs
      · have q := (tabs_y hb).symm.trans z1
        cases q
        obtain ⟨c, y⟩ := hb
        exact hT _ y
      · have q := (tabs_n hb).symm.trans z1
        cases q
    · exact .inl ha2
    · by_cases hb : ∃ c, (c, b) ∈ cs
      · exact .inr hb
      · exact absurd ((Hn ha2).trans (tabs_n hb)) z
end
/-- the goal that the head leaves, for a law that makes lambdas itself -/
theorem walk_T {l : PySem.W.OpenLaw} {k : Nat} {q : Program} {loose : List Str} {XP : (Str → Option Value) → Heap → Prop} {YP : World → Heap → Prop} {d : DefRec} {K : Params → PySem.W.Frag} {x : Str} {m : List Va → Sto → Rs Va} (hL : LawOk m) (hn : l.most = some 63) (hdf : d.params.defaults = []) (hr : Room k callerA) (hrec : ((recsOf q).any fun e => e.name == d.name) = true)
    (hY : ∀ (w : World) (h : Heap), YP w h → (K w.params).In h) (hq : PyProof.Rows.importsNone q = true)
    (F : ∀ (w : World) (mg : Str → Option Value) (fa : Addr) (h : Heap), (K w.params).In h → h.Ns mainGlobals mg → mg d.name = some (.ref fa) → LamX.OwnTab (K w.params) fa h → ∃ (g : G) (fd : FuncData) (cs : List (Addr × Addr)), g.K = K w.params ∧ (∀ p ∈ g.T, ∃ c, (c, p.1) ∈ cs) ∧ (∀ p ∈ cs, h.get? p.2 = some { cls := .none, data := .fields #[] }) ∧ (∀ p ∈ cs, (K w.params).lookup p.2 = none) ∧ (∀ p ∈ cs, PySem.W.CodeHd h p.1 p.2) ∧
        (∀ (s : Shared) (u : Value), BindsTo s fd ⟨[u], []⟩ [(x, u)]) ∧
        ∀ base : Heap, (K w.params).In base → base.Ns mainGlobals mg → (∃ mm, base.Ns sysModules mm) → (∀ p ∈ cs, LamX.TabB base mg p.1 p.2) → FnG l.prog w (K w.params) mg base k fa fd [x] (spM g 1 m)) : PySem.W.WalkO q loose XP YP l.row.toRowW d [] (fun f vs => PySem.call f vs) :=
  Att.attach_call hn hdf fun w s₀ s₁ mg mb fa o pm cd doc a vs ns Gr Y ho hd hcd hmg hobj hints hlen hg => by
    have KX := hY w _ Y
    have own : LamX.OwnTab (K w.params) fa s₁.heap := fun c P o1 fd1 e dd us sl q1 q2 q3 q4 q5 => by
      obtain ⟨dL, y1, y2⟩ := List.any_eq_true.mp hrec
      obtain ⟨a2, o2, fd2, c2, P2, z1, z2, z3, z4, _, ⟨oc, vc, x1, _, x3, x4⟩, x5⟩ := Gr.T.tab dL y1
      rw [show dL.name = d.name from beq_iff_eq.mp y2, hmg] at z1
      cases z1
      rw [KX _ _ q1] at z2
      cases z2
      rw [q2] at z3
      cases z3
      rw [q3] at z4
      cases z4
      rw [KX _ _ q4] at x1
      cases x1
      cases x3
      rw [q5] at x4
      cases x4
      exact x5
    obtain ⟨g, fd, cs, hgK, hTT, hT, nT, C, hb, hF⟩ := F w mg fa _ KX Gr.T.g hmg own
    exact law_T hgK hTT hL hlen Gr.T.b Gr.T.builtins Gr.T.nolimit hg KX Gr.T.g hT nT C Gr.T.bmain hobj hints hr (let ⟨mm, z, _⟩ := (Gr.T.seer hq).mods; ⟨mm, z⟩) hF hb
end Rz
namespace Rz
open PySem PySem.Spec PyProof.Rows L2
/-! ### dict(pairs), keys that are different texts -/
abbrev Pr3 := Addr × Str × V
def rDictS (K : PySem.W.Frag) : List V → Hp → VK → Prop := fun xs H Q => ∃ (p : Addr) (L : List Pr3), xs = [.ref p] ∧ SqL K H p (L.map fun r => V.ref r.1) ∧ (∀ r ∈ L, SqT K H r.1 [.str r.2.1, r.2.2]) ∧ (L.map fun r => r.2.1).Nodup ∧ ∀ q, H q = none → Q (.ref q) (upd H q (.dK (L.map fun r => (Sum.inr r.2.1, r.2.2))))
section
variable {X : Cx} {k : Nat} {pins : List (Addr × Obj)} {σ : L2.St} {H : Hp} {s : Shared}
abbrev PS3 (h : Heap) : Pr3 → Str × Value × Value → Prop := fun r y => y.1 = r.2.1 ∧ IsTup h r.1 #[y.2.1, y.2.2] ∧ (∃ t, y.2.1 = .str y.1 t) ∧ RelV r.2.2 y.2.2
theorem prsS_at (I : Inv X pins σ H s) : ∀ (L : List Pr3), (∀ r ∈ L, SqT X.K H r.1 [.str r.2.1, r.2.2]) → ∃ ys : List (Str × Value × Value), Paired (PS3 s.heap) L ys
  | [], _ => ⟨[], .nil⟩
  | r :: L, h => by
    obtain ⟨ys, h1⟩ := prsS_at I L fun r hr => h r (List.mem_cons_of_mem _ hr)
    obtain ⟨its, va, at1, _⟩ := I.tuple (h r List.mem_cons_self)
    cases va with
    | cons ra rb =>
      cases rb with
      | cons rc rd =>
        cases rd
        rename_i u1 u2
        obtain ⟨t, e⟩ := (show ∃ t, u1 = Value.str r.2.1 t from ra)
        exact ⟨(r.2.1, u1, u2) :: ys, .cons ⟨rfl, at1, ⟨t, e⟩, rc⟩ h1⟩
theorem refs_vals3 : ∀ {L : List Pr3} {its : List Value}, Vals (L.map fun r => V.ref r.1) its → its = L.map fun r => Value.ref r.1
  | [], _, h => by cases h; rfl
  | r :: L, _, h => by
    cases h with
    | cons a b =>
      rw [refs_vals3 b]
      rw [show _ = Value.ref r.1 from a]
      rfl
theorem kv3 {h : Heap} : ∀ {L : List Pr3} {ys : List (Str × Value × Value)}, Paired (PS3 h) L ys → KV (L.map fun r => ((Sum.inr r.2.1 : Key), r.2.2)) (ys.map fun y => ((Sum.inr y.1 : Key), y.2.2)) ∧ ys.map (fun y => y.1) = L.map fun r => r.2.1
  | _, _, .nil => ⟨.nil, rfl⟩
  | _, _, .cons ⟨e, _, _, r⟩ b => by
    obtain ⟨x, y⟩ := kv3 b
    exact ⟨.cons ⟨congrArg Sum.inr e.symm, r⟩ x, by rw [List.map_cons, List.map_cons, y, e]⟩
theorem cr_dictS (hc : X.calm = true) : CallR X (.type "dict") (rDictS X.K) := by
  intro pins s σ H xs us Q I rv h
  obtain ⟨p, L, rfl, hl, ht, nd, q⟩ := h
  obtain ⟨u, rfl, ru⟩ := vals1 rv
  obtain rfl : u = Value.ref p := ru
  obtain ⟨its, va, at1, lz⟩ := I.list hl
  obtain rfl := refs_vals3 va
  obtain ⟨ys, h2⟩ := prsS_at I L ht
  rw [List.length_map] at lz
  have ly : L.length = ys.length := paired_len h2
  obtain ⟨kv, ek⟩ := kv3 h2
  have hgt : ∀ (j : Nat) (hj : j < L.length), ∃ y, ys[j]? = some y ∧ PS3 s.heap L[j] y := fun j hj => paired_get h2 (List.getElem?_eq_getElem hj)
  have pit : PairItems s.heap (L.map fun r => Value.ref r.1).toArray (fun j => (L[j]?.map Prod.fst).getD 0) (ys.map fun y => (y.2.1, y.2.2)) := by
    refine ⟨by simp [ly], fun j kk v e => ?_⟩
    rw [List.getElem?_map] at e
    obtain ⟨y, e1, e2⟩ := Option.map_eq_some_iff.mp e
    have hj : j < L.length := by rw [ly]; exact (List.getElem?_eq_some_iff.mp e1).1
    obtain ⟨y', e3, _, e4, _⟩ := hgt j hj
    obtain rfl : y = y' := Option.some.inj (e1.symm.trans e3)
    cases e2
    refine ⟨by simp [hj], ?_⟩
    simp only [List.getElem?_eq_getElem hj, Option.map_some, Option.getD_some]
    exact .inl (let ⟨o, ho, hc, n, hd⟩ := e4; ⟨o, ho, hc, n, hd⟩)
  obtain ⟨o, n, po, pc, pd, px⟩ := at1
  refine call_dict_pairs (knd := mixKind X.prog X.w) (kvs := ys.map fun y => ((Sum.inr y.1 : Key), y.2.2)) (PairArg.list p (L.map fun r => Value.ref r.1).toArray (fun j => (L[j]?.map Prod.fst).getD 0) (ys.map fun y => (y.2.1, y.2.2))) (I.ok.hd hc) ⟨⟨o, n, po, pc, pd, px⟩, pit⟩ ⟨by rw [List.length_map, List.length_map], fun i key v e => ?_⟩ (by rw [List.length_map, ← ly]; exact lz) fun h' tk hd hkp => ?_
  · have e' : (ys.map fun y => (y.2.1, y.2.2))[i]? = some (key, v) := e
    rw [List.getElem?_map] at e'
    obtain ⟨y, e1, e2⟩ := Option.map_eq_some_iff.mp e'
    cases e2
    have hj : i < L.length := by rw [ly]; exact (List.getElem?_eq_some_iff.mp e1).1
    obtain ⟨y', e3, _, _, ⟨t, e4⟩, _⟩ := hgt i hj
    obtain rfl : y = y' := Option.some.inj (e1.symm.trans e3)
    exact ⟨Sum.inr y.1, by rw [List.getElem?_map, e1]; rfl, by show keyIs (Sum.inr y.1) y.2.1 = true; rw [e4]; exact keyIs_str y.1 t⟩
  · have kp : ∀ b u, s.heap.get? b = some u → h'.get? b = some u := fun b u e => hkp b u (fun m => nomatch m) e
    have hb : sysModules < s.heap.objs.size := I.big
    rw [merged_nil_of_nodup _ (by
      rw [List.map_map]
      have : (ys.map fun y => (Sum.inr y.1 : Key)) = (L.map fun r => r.2.1).map Sum.inr := by
        rw [← ek, List.map_map]
        rfl
      show (ys.map fun y => (Sum.inr y.1 : Key)).Nodup
      rw [this]
      exact List.pairwise_map.mpr (nd.imp fun h e => h (Sum.inr.inj e)))] at hd
    exact ⟨.ref s.heap.objs.size, upd H s.heap.objs.size (.dK (L.map fun r => (Sum.inr r.2.1, r.2.2))), I.laid (t' := tk) kp (Nat.le_refl _) (show ObjOk X.prog X.w _ _ _ (.dK _) from ⟨by rw [List.length_map]; exact lz, beq_eq_false_iff_ne.mpr (Ne.symm (Nat.ne_of_lt hb)), _, kv, hd⟩), rfl, q _ (I.hok.fresh (Nat.le_refl _))⟩
end
def prS : Va → Option (Str × Va)
  | .tup [.str x, v] => some (x, v)
  | _ => none
def prsS : List Va → Option (List (Str × Va))
  | [] => some []
  | w :: ws => match prS w, prsS ws with
    | some p, some ps => some (p :: ps)
    | _, _ => none
@[simp] def fDictS (ws : List Va) (S : Sto) : Rs Va := match ws with
  | [.loc l] => match S[l]? with
    | some (.lst us) => match prsS us with
      | some ps => bif decide (ps.map Prod.fst).Nodup then .ok (.loc S.length) (S ++ [.dcs ps]) else .bad
      | none => .bad
    | _ => .bad
  | _ => .bad
section
variable {g : G}
theorem prsS_ok {ρ : List Addr} {H : Hp} : ∀ {us : List Va} {vs : List V} {ps : List (Str × Va)}, RelL g ρ H us vs → prsS us = some ps → ∃ L : List Pr3, vs = L.map (fun r => V.ref r.1) ∧ (∀ r ∈ L, SqT g.K H r.1 [.str r.2.1, r.2.2]) ∧ ps.map Prod.fst = L.map (fun r => r.2.1) ∧ RelL g ρ H (ps.map Prod.snd) (L.map fun r => r.2.2)
  | [], _, _, r, h => by
    cases r
    cases h
    exact ⟨[], rfl, (fun r hr => nomatch hr), rfl, .nil⟩
  | w :: us, _, ps, r, h => by
    cases r with
    | cons ra rb =>
      have h' : (match prS w, prsS us with | some p, some ps => some (p :: ps) | _, _ => none) = some ps := h
      cases e1 : prS w with
      | none => rw [e1] at h'; cases h'
      | some p =>
        cases e2 : prsS us with
        | none => rw [e1, e2] at h'; cases h'
        | some qs =>
          rw [e1, e2] at h'
          cases h'
          obtain ⟨L, i1, i2, i3, i4⟩ := prsS_ok rb e2
          unfold prS at e1
          split at e1
          · rename_i x v
            cases e1
            cases ra with
            | @tup _ vs p sq rl =>
              cases rl with
              | cons rk rl =>
                cases rk
                cases rl with
                | cons rv rl =>
                  cases rl
                  rename_i u
                  exact ⟨(p, x, u) :: L, by rw [i1]; rfl, fun r hr => by
                    rcases List.mem_cons.mp hr with z | z
                    · rw [z]; exact sq
                    · exact i2 r z, by rw [List.map_cons, List.map_cons, i3], .cons rv i4⟩
          · cases e1
theorem cs_dictS : CalS g (rDictS g.K) fDictS := fun Wx σ ρ S H ws vs Q sm rl h => by
  unfold fDictS at h
  split at h
  · rename_i l
    cases rl with
    | cons ra rn =>
      cases rn
      cases ra with
      | @loc l p hp =>
        split at h
        · rename_i us e0
          split at h
          · rename_i ps e1
            obtain ⟨vs, at1, rl⟩ := sm.ats l _ p e0 hp
            obtain ⟨L, rfl, i2, i3, i4⟩ := prsS_ok rl e1
            by_cases nd : (ps.map Prod.fst).Nodup
            · rw [decide_eq_true nd] at h
              refine ⟨p, L, rfl, .of at1, i2, by rw [← i3]; exact nd, fun q hq => ?_⟩
              obtain ⟨s2, e2⟩ := sm.laid (o := .dcs ps) (u := .dK (L.map fun r => (Sum.inr r.2.1, r.2.2))) hq (fun ρ' H' e z => ⟨_, z, by
                rw [List.map_map]
                show L.map (fun r => (Sum.inr r.2.1 : Key)) = ps.map fun p => Sum.inr p.1
                have := congrArg (List.map (Sum.inr : Str → Key)) i3
                rw [List.map_map, List.map_map] at this
                exact this.symm, by rw [List.map_map]; exact i4.mono e⟩) rfl
              exact wpR.fin_at (a := Va.loc S.length) h e2 s2 (.loc (by rw [sm.len]; simp))
            · rw [decide_eq_false nd] at h
              exact h.elim
          · exact h.elim
        · exact h.elim
  · exact h.elim
end
section
variable {X : Cx} {g : G} {Wx : WX} {k : Nat} {pos : Pos} {a : Expr} {r : XA}
theorem se_dictS (o : XO X g Wx k) {p : Pos} (hm : X.mg "dict" = none) (ha : SA X g Wx [a] r) (hg : Gl X "dict" := by rfl) (he : starEach [a] X.env = (false, eval a X.env) :: starEach [] X.env := by rfl) : SE X g Wx (.Call (.Name "dict" p) [a] [] pos) (xcall fDictS r) :=
  se_callT (cr_dictS o.calm) (by have q := cs_dictS (g := g); rw [o.K] at q; exact q) hm ha hg (he := he)
end
end Rz
namespace Rz
open PySem PySem.Spec PyProof.Rows L2
/-- the rule for a def, its code object told -/
theorem fng_ofC {g : G} {P : Program} {w : World} {K : PySem.W.Frag} {mg : Str → Option Value} {base : Heap} {x qual : Str} {st : Stmt} {f : Addr} {fd : FuncData} {N ps : List Str} {k n : Nat} {sem : XS} (F : Fun K x qual st f fd) (S : FnScope N ps (defScope st)) (hK : g.K = K)
    (hn : ps.length = n)
    (hbody : ∀ (cdv : Value) (A : Around) (outer : List PySem.Env) (s : Shared) (H : Hp) (E : XK), fd.code = cdv → XO (cxOf (L2.CX P w) P w K mg base N qual (defScope st) f cdv A outer s H E) g (Eo E) k →
      SB (cxOf (L2.CX P w) P w K mg base N qual (defScope st) f cdv A outer s H E) g (Eo E) (defBody st) sem)
    (hgP : g.P = P := by rfl) (hgw : g.w = w := by rfl) :
    FnG P w K mg base (k + 1) f fd ps (spM g n (mkFn N.length sem)) := by
  obtain ⟨oc, od, kV, doc, pm, an, cdv, ct, osl, rfl, lk, hcd⟩ := F.ex
  refine ⟨fun vs H Q E h => h.1.trans hn.symm, fun A outer s H args us vs Q E hr hgd e0 hb r hsp => ?_⟩
  obtain ⟨hl, ws, T, ρ, sm, rl, hw⟩ := hsp
  have hl' : vs.length = ps.length := hl.trans hn.symm
  have at0 : ∀ b o, base.get? b = some o → s.heap.get? b = some o := fun b o e => (e0.bs b o e).1
  have KX : K.In s.heap := e0.mod.kin.keeps at0
  have hkind : ∀ y ∈ ps.zip us, (defScope st).names.lookup y.1 = some .local ∨ ((defScope st).names.lookup y.1 = some .cell ∧ ((cellsFrom (s.heap.objs.size + 1) (defScope st).names []).lookup y.1).isSome = true) := by
    intro y hy
    obtain ⟨nm, v⟩ := y
    rcases S.par nm (List.of_mem_zip hy).1 with q | q
    · left; exact q
    · right; exact ⟨q, PySem.W.cellsFrom_some _ _ _ (.inl q)⟩
  refine codeAny_call_function hr.depth (KX _ _ lk) rfl S.co S.gen rfl (PySem.W.codeRec_of KX hcd) (hb _ _ _ _ (wpAny_newFunctionEnv_cells S.kind hkind fun env he s1 x => ?_))
  subst he
  refine ⟨(e0.mod.nolimit.keeps at0).keeps x.toInCall.keep, codeAny_func ?_⟩
  have xo : XO (cxOf (L2.CX P w) P w K mg base N qual (defScope st) f cdv A outer s H E) g (Eo E) k := ⟨hK, S.nd, rfl, hr.deeper _, hgd, takes_of rfl rfl rfl rfl, passes_of rfl, hgP, hgw⟩
  have ht := hbody cdv A outer s H E rfl xo
  have I : Inv (cxOf (L2.CX P w) P w K mg base N qual (defScope st) f cdv A outer s H E) [] (L2.start N vs) H s1 := inv_start S hr.hd e0 hl' r x
  have fin : ∀ {σ' : L2.St} {H' : Hp} {s' : Shared} {v : V} {u : Value}, Inv (cxOf (L2.CX P w) P w K mg base N qual (defScope st) f cdv A outer s H E) [] σ' H' s' → RelV v u → Q v H' → CE outer P w H s Q u s' :=
    fun {σ' H' s' v u} J rv q => ⟨v, H', J.os, J.bare, J.base, J.hok, rv, q⟩
  have hq : tS g (Eo E) sem { nx := fun _ H' => Q .non H', rt := Q } (L2.start N vs) H := by
    refine ⟨_, T, ρ, sm, simE_start rl, ?_⟩
    unfold mkFn at hw
    unfold Out.fin at hw
    generalize sem (ws.map some ++ List.replicate (N.length - ws.length) none) T = z at hw ⊢
    cases z with
    | nx δ S' => exact fun ρ' H' σ' e a b => hw ρ' H' .non e a .non
    | rt w S' => exact hw
    | ex c fs δ S' => exact fun ρ' H' σ' d e a b c => hw ρ' H' d e a c
    | bk δ S' => exact hw.elim
    | ct δ S' => exact hw.elim
    | bad => exact hw.elim
  refine wpAny_mono (ht.run [] s1 (L2.start N vs) H _ I hq) (fun fl s' hs => ?_) fun e s' hs => hs
  cases fl with
  | ret u => obtain ⟨v, σ', H', J, rv, q⟩ := hs; exact fin J rv q
  | next => obtain ⟨σ', H', J, q⟩ := hs; exact fin (v := V.non) (u := Value.none) J rfl q
  | brk => obtain ⟨_, _, _, q⟩ := hs; exact q.elim
  | cont => obtain ⟨_, _, _, q⟩ := hs; exact q.elim
end Rz
namespace Law
open PySem PySem.Spec PyProof.Rows L2 Rz
set_option maxRecDepth 100000
set_option maxHeartbeats 4000000
def top (i : Nat) : Stmt := PySem.Challenge.pw_loosecursors_k03_bits_refused.main.body.getD i (.Pass ⟨0, 0, 0, 0⟩)
abbrev exmT : Nat → Bool := exmTb [4, 5, 3]
abbrev subT : Nat → Nat → Option Bool := subTb [4, 5, 3] [4, 5, 6, 3]
abbrev s__law_next : Stmt := top 22
def b__law_next : XS := (sseq (sset 1 (xbin oIx (xvar 0) (xlit (.int 1))))
  (sseq (ssub (xvar 0) (xlit (.int 1)) (xbin oAdd (xvar 1) (xlit (.int 1))))
  (sseq (sset 2 (xbin oAdd (xbin oMul (xvar 1) (xlit (.int 1051))) (xlit (.int 53))))
  (sseq (sif (xbinB cNe (xbin oIx (xvar 0) (xlit (.int 0))) (xlst anil)) (sset 2 (xbin oIx (xbin oIx (xvar 0) (xlit (.int 0))) (xbin oMod (xcall fInt (acons (xvar 1) anil)) (xcall fLen (acons (xbin oIx (xvar 0) (xlit (.int 0))) anil))))) snext)
  (sseq (sif (xand (xbinB cLt (xvar 1) (xcall fLen (acons (xbin oIx (xvar 0) (xlit (.int 0))) anil))) (xbinB cGe (xvar 2) (xbin oPow (xlit (.int 10)) (xlit (.int 18))))) (sret (xvar 2)) snext)
  (sseq (sset 3 (xbin oMod (xcall fInt (acons (xbin oAdd (xbin oAdd (xbin oMod (xcall fInt (acons (xvar 2) anil)) (xlit (.int 2147483587))) (xbin oMul (xvar 1) (xlit (.int 30103)))) (xlit (.int 79))) anil)) (xlit (.int 2147483587))))
  (sseq (sset 4 (xbin oMod (xcall fInt (acons (xbin oAdd (xbin oAdd (xbin oMul (xvar 3) (xvar 3)) (xbin oMul (xvar 1) (xlit (.int 70039)))) (xlit (.int 61))) anil)) (xlit (.int 2147483563))))
  (sseq (sset 5 (xbin oMod (xcall fInt (acons (xbin oAdd (xbin oAdd (xbin oMul (xvar 4) (xvar 4)) (xvar 3)) (xbin oMul (xbin oMul (xvar 1) (xvar 1)) (xlit (.int 37)))) anil)) (xlit (.int 2147483549))))
  (sret (xbin oAdd (xbin oMul (xbin oAdd (xbin oMul (xvar 5) (xlit (.int 2147483587))) (xvar 4)) (xlit (.int 2147483563))) (xvar 3)))))))))))
def m__law_next : List Va → Sto → Rs Va := mkFn 6 b__law_next
abbrev s__law_draw : Stmt := top 23
def b__law_draw : XS := (sseq (sif (xbinB cLt (xbin oIx (xvar 0) (xlit (.int 2))) (xvar 1)) (ssub (xvar 0) (xlit (.int 2)) (ycall 1 m__law_next (acons (xvar 0) anil))) snext)
  (sseq (sset 2 (xbin oMod (xcall fInt (acons (xbin oIx (xvar 0) (xlit (.int 2))) anil)) (xvar 1)))
  (sseq (ssub (xvar 0) (xlit (.int 2)) (xbin oDiv (xbin oIx (xvar 0) (xlit (.int 2))) (xvar 1)))
  (sret (xvar 2)))))
def m__law_draw : List Va → Sto → Rs Va := mkFn 3 b__law_draw
abbrev s__law_any : Stmt := top 24
def b__law_any (rec : List Va → Sto → Rs Va) : XS := (sseq (sset 2 (ycall 2 m__law_draw (acons (xvar 0) (acons (xite (xbinB cGt (xvar 1) (xlit (.int 0))) (xlit (.int 15)) (xlit (.int 11))) anil))))
  (sseq (sif (xbinB cLt (xvar 2) (xlit (.int 11))) (sret (xbin oIx (xlst (acons (xlit (.int 0)) (acons (xlit (.int 1)) (acons (xun oNeg (xlit (.int 1))) (acons (xlit (.bl true)) (acons (xlit .non) (acons (xlit (.str "")) (acons (xlit (.str "0")) (acons (xlit (.str "a")) (acons (xlit (.str "aA")) (acons (xbin oPow (xlit (.int 10)) (xlit (.int 39))) (acons (xlit (.str "10")) anil)))))))))))) (xvar 2))) snext)
  (sseq (sset 3 (xcomp [4] (irg1 (ycall 2 m__law_draw (acons (xvar 0) (acons (xlit (.int 4)) anil)))) (pname 4) xyes (ycall 2 rec (acons (xvar 0) (acons (xbin oSub (xvar 1) (xlit (.int 1))) anil)))))
  (sseq (sif (xbinB cEq (xvar 2) (xlit (.int 11))) (sret (xvar 3)) snext)
  (sseq (sif (xbinB cEq (xvar 2) (xlit (.int 12))) (sret (xcall fDictS (acons (xcomp [5] (irg1 (xcall fLen (acons (xvar 3) anil))) (pname 5) xyes (xtup (acons (xbin oIx (xlst (acons (xlit (.str "a")) (acons (xlit (.str "b")) (acons (xlit (.str "c")) (acons (xlit (.int 0)) anil))))) (xvar 5)) (acons (xbin oIx (xvar 3) (xvar 5)) anil)))) anil))) snext)
  (sret (xcall fTup (acons (xvar 3) anil))))))))
def r__law_any : Nat → List Va → Sto → Rs Va
  | 0 => fun _ _ => .bad
  | j + 1 => mkFn 6 (b__law_any (r__law_any j))
abbrev m__law_any : List Va → Sto → Rs Va := r__law_any 3
abbrev s__law_is_whole : Stmt := top 25
def b__law_is_whole : XS := (sret (xandV (xcall fIsi (acons (xvar 0) (acons (xlit (.ty 2)) anil))) (xandV (xnotV (xcall fIsi (acons (xvar 0) (acons (xlit (.ty 1)) anil)))) (xboo (xchain cLe cLt (xlit (.int 0)) (xvar 0) (xvar 1))))))
def m__law_is_whole : List Va → Sto → Rs Va := mkFn 2 b__law_is_whole
abbrev s__law_pen : Stmt := top 21
def b__law_pen : XS := (sret (xlst (acons (xcall fList (acons (xslice (xvar 0) xnop (xpart (xlit (.int 60)))) anil)) (acons (xlit (.int 0)) (acons (xlit (.int 0)) anil)))))
def m__law_pen : List Va → Sto → Rs Va := mkFn 1 b__law_pen
abbrev s__law_word : Stmt := top 26
def b__law_word : XS := (sseq (sif (xisN (xvar 1)) (sret (xlit (.str ""))) snext)
  (sseq (sset 3 (xlst (acons (xcall (fIsX subT) (acons (xvar 1) (acons (xlit (.cl 3)) anil))) (acons (xcall (fIsX subT) (acons (xvar 1) (acons (xlit (.cl 4)) anil))) anil))))
  (sseq (sset 3 (xbin oAdd (xvar 3) (xlst (acons (xcall (fIsX subT) (acons (xvar 1) (acons (xlit (.cl 5)) anil))) (acons (xcall (fIsX subT) (acons (xvar 1) (acons (xlit (.cl 6)) anil))) anil)))))
  (sret (xite (xbinB cEq (xmetL oCnt (xvar 3) (acons (xlit (.bl true)) anil)) (xlit (.int 1))) (xbin oIx (xlst (acons (xlit (.str "width")) (acons (xlit (.str "hash")) (acons (xlit (.str "number")) (acons (xlit (.str "other")) anil))))) (xmetL oIdx (xvar 3) (acons (xlit (.bl true)) anil))) (xlit (.str "other")))))))
abbrev s_buckets_of : Stmt := top 15
def b_buckets_of : XS := (sret (xbin oShl (xlit (.int 1)) (xvar 0)))
def m_buckets_of : List Va → Sto → Rs Va := mkFn 1 b_buckets_of
abbrev s_is_integer : Stmt := top 9
def b_is_integer : XS := (sret (xandV (xcall fIsi (acons (xvar 0) (acons (xlit (.ty 2)) anil))) (xnotV (xcall fIsi (acons (xvar 0) (acons (xlit (.ty 1)) anil))))))
def m_is_integer : List Va → Sto → Rs Va := mkFn 1 b_is_integer
abbrev s_is_between : Stmt := top 10
def b_is_between : XS := (sret (xandV (ycall 1 m_is_integer (acons (xvar 0) anil)) (xboo (xchain cLe cLe (xvar 1) (xvar 0) (xvar 2)))))
def m_is_between : List Va → Sto → Rs Va := mkFn 3 b_is_between
abbrev s_is_hash : Stmt := top 12
def b_is_hash : XS := (sret (ycall 3 m_is_between (acons (xvar 0) (acons (xlit (.int 0)) (acons (xlit (.int 31)) anil)))))
def m_is_hash : List Va → Sto → Rs Va := mkFn 1 b_is_hash
abbrev s_check_hash : Stmt := top 14
def b_check_hash : XS := (sif (xnot (xtru (ycall 1 m_is_hash (acons (xvar 0) anil)))) (sraise 4) snext)
def m_check_hash : List Va → Sto → Rs Va := mkFn 1 b_check_hash
abbrev s_is_width : Stmt := top 11
def b_is_width : XS := (sret (ycall 3 m_is_between (acons (xvar 0) (acons (xlit (.int 0)) (acons (xlit (.int 5)) anil)))))
def m_is_width : List Va → Sto → Rs Va := mkFn 1 b_is_width
abbrev s_check_width : Stmt := top 13
def b_check_width : XS := (sif (xnot (xtru (ycall 1 m_is_width (acons (xvar 0) anil)))) (sraise 3) snext)
def m_check_width : List Va → Sto → Rs Va := mkFn 1 b_check_width
abbrev s_bucket : Stmt := top 16
def b_bucket : XS := (sseq (sexp (ycall 1 m_check_width (acons (xvar 1) anil)))
  (sseq (sexp (ycall 1 m_check_hash (acons (xvar 0) anil)))
  (sret (xbin oMod (xvar 0) (ycall 1 m_buckets_of (acons (xvar 1) anil))))))
def m_bucket : List Va → Sto → Rs Va := mkFn 2 b_bucket
abbrev s__check_number : Stmt := top 19
def b__check_number : XS := (sif (xnot (xtru (ycall 3 m_is_between (acons (xvar 0) (acons (xlit (.int 0)) (acons (xbin oSub (ycall 1 m_buckets_of (acons (xvar 1) anil)) (xlit (.int 1))) anil)))))) (sraise 5) snext)
def m__check_number : List Va → Sto → Rs Va := mkFn 2 b__check_number
abbrev s_turned : Stmt := top 17
def l_turned_0 : XS := (sseq (sset 3 (xbin oAdd (xbin oMul (xvar 3) (xlit (.int 2))) (xbin oMod (xvar 2) (xlit (.int 2)))))
  (sset 2 (xbin oDiv (xvar 2) (xlit (.int 2)))))
def b_turned : XS := (sseq (sexp (ycall 1 m_check_width (acons (xvar 1) anil)))
  (sseq (sexp (ycall 2 m__check_number (acons (xvar 0) (acons (xvar 1) anil))))
  (sseq (sset 2 (xvar 0))
  (sseq (sset 3 (xlit (.int 0)))
  (sseq (sfor (irg1 (xvar 1)) (pname 4) l_turned_0)
  (sret (xvar 3)))))))
def m_turned : List Va → Sto → Rs Va := mkFn 5 b_turned
abbrev s_within : Stmt := top 18
def b_within : XS := (sseq (sexp (ycall 1 m_check_width (acons (xvar 1) anil)))
  (sseq (sexp (ycall 1 m_check_width (acons (xvar 2) anil)))
  (sseq (sexp (ycall 2 m__check_number (acons (xvar 0) (acons (xvar 1) anil))))
  (sseq (sif (xbinB cGt (xvar 1) (xvar 2)) (sraise 5) snext)
  (sret (xcall fLR3 (acons (xvar 0) (acons (ycall 1 m_buckets_of (acons (xvar 2) anil)) (acons (ycall 1 m_buckets_of (acons (xvar 1) anil)) anil)))))))))
def m_within : List Va → Sto → Rs Va := mkFn 3 b_within
abbrev s_law : Stmt := top 27
def l_law_0 : XS := (sseq (sset 4 (xlst (acons (xlit (.int 0)) (acons (xlit (.int 1)) (acons (xlit (.int 2)) (acons (xlit (.int 3)) (acons (xlit (.int 4)) (acons (xlit (.int 5)) (acons (xlit (.int 6)) (acons (xlit (.int 7)) (acons (xlit (.int 8)) (acons (xlit (.int 15)) (acons (xlit (.int 16)) (acons (xlit (.int 31)) (acons (xlit (.int 32)) (acons (xun oNeg (xlit (.int 1))) (acons (xlit (.bl true)) (acons (xlit (.bl false)) (acons (xlit .non) (acons (xlit (.str "1")) (acons (xlit (.str "")) (acons (xlst (acons (xlit (.int 1)) anil)) (acons (xtup (acons (xlit (.int 1)) anil)) (acons xdictI0 (acons (xbin oPow (xlit (.int 10)) (xlit (.int 39))) anil)))))))))))))))))))))))))
  (sseq (sexp (xmetL oApp (xvar 4) (acons (ycall 2 m__law_any (acons (xvar 1) (acons (xlit (.int 2)) anil))) anil)))
  (sseq (sunl 3 (pcons (pname 7) (pcons (pname 8) (pcons (pname 9) pnil))) (xcomp [10] (irg1 (xlit (.int 3))) (pname 10) xyes (xbin oIx (xvar 4) (ycall 2 m__law_draw (acons (xvar 1) (acons (xlit (.int 24)) anil))))))
  (sseq (sset 5 (xcall fReprY (acons (xlst (acons (xvar 7) (acons (xvar 8) (acons (xvar 9) anil)))) anil)))
  (sseq (sif (xbinB cNe (xcall fReprY (acons (xlst (acons (ycall 1 m_is_width (acons (xvar 7) anil)) (acons (ycall 1 m_is_hash (acons (xvar 7) anil)) anil))) anil)) (xcall fReprY (acons (xlst (acons (ycall 2 m__law_is_whole (acons (xvar 7) (acons (xlit (.int 6)) anil))) (acons (ycall 2 m__law_is_whole (acons (xvar 7) (acons (xlit (.int 32)) anil))) anil))) anil))) (sret (xlit (.bl false))) snext)
  (sseq (sset 6 (xite (xnot (xtru (ycall 2 m__law_is_whole (acons (xvar 8) (acons (xlit (.int 6)) anil))))) (xlit (.str "width")) (xite (xtru (ycall 2 m__law_is_whole (acons (xvar 7) (acons (xlit (.int 32)) anil)))) (xlit (.str "")) (xlit (.str "hash")))))
  (sseq (sif (xbinB cNe (ylam exmT 4 1 b__law_word (ycall 2 m_bucket (acons (xvar 7) (acons (xvar 8) anil)))) (xvar 6)) (sret (xlit (.bl false))) snext)
  (sseq (sset 6 (xite (xnot (xtru (ycall 2 m__law_is_whole (acons (xvar 8) (acons (xlit (.int 6)) anil))))) (xlit (.str "width")) (xite (xtru (ycall 2 m__law_is_whole (acons (xvar 7) (acons (xbin oIx (xvar 2) (xvar 8)) anil)))) (xlit (.str "")) (xlit (.str "number")))))
  (sseq (sif (xbinB cNe (ylam exmT 4 1 b__law_word (ycall 2 m_turned (acons (xvar 7) (acons (xvar 8) anil)))) (xvar 6)) (sret (xlit (.bl false))) snext)
  (sseq (sset 6 (xlit (.str "")))
  (sseq (sif (xor (xnot (xtru (ycall 2 m__law_is_whole (acons (xvar 8) (acons (xlit (.int 6)) anil))))) (xnot (xtru (ycall 2 m__law_is_whole (acons (xvar 9) (acons (xlit (.int 6)) anil)))))) (sset 6 (xlit (.str "width"))) (sif (xor (xbinB cGt (xvar 8) (xvar 9)) (xnot (xtru (ycall 2 m__law_is_whole (acons (xvar 7) (acons (xbin oIx (xvar 2) (xvar 8)) anil)))))) (sset 6 (xlit (.str "number"))) snext))
  (sif (xor (xbinB cNe (ylam exmT 4 1 b__law_word (ycall 3 m_within (acons (xvar 7) (acons (xvar 8) (acons (xvar 9) anil))))) (xvar 6)) (xbinB cNe (xcall fReprY (acons (xlst (acons (xvar 7) (acons (xvar 8) (acons (xvar 9) anil)))) anil)) (xvar 5))) (sret (xlit (.bl false))) snext))))))))))))
def b_law : XS := (sseq (sset 1 (ycall 1 m__law_pen (acons (xvar 0) anil)))
  (sseq (sset 2 (xlst (acons (xlit (.int 1)) (acons (xlit (.int 2)) (acons (xlit (.int 4)) (acons (xlit (.int 8)) (acons (xlit (.int 16)) (acons (xlit (.int 32)) anil))))))))
  (sseq (sfor (irg1 (xlit (.int 60))) (pname 3) l_law_0)
  (sret (xlit (.bl true))))))
def m_law : List Va → Sto → Rs Va := mkFn 11 b_law
abbrev gg (P : Program) (w : World) (K : PySem.W.Frag) (cls : Nat → Addr) (tb : List (Addr × Str)) : G := ⟨K, cls, fun n => [], P, w, tb⟩
structure Tx (P : Program) (w : World) (K : PySem.W.Frag) (mg : Str → Option Value) (cls : Nat → Addr) (tb : List (Addr × Str)) : Prop where
  z_bool : mg "bool" = none
  z_dict : mg "dict" = none
  z_int : mg "int" = none
  z_isinstance : mg "isinstance" = none
  z_len : mg "len" = none
  z_list : mg "list" = none
  z_range : mg "range" = none
  z_repr : mg "repr" = none
  z_tuple : mg "tuple" = none
  c_GREATEST_HASH : ∃ t, mg "GREATEST_HASH" = some (.int 31 t)
  c_GREATEST_WIDTH : ∃ t, mg "GREATEST_WIDTH" = some (.int 5 t)
  e_CursorError : ExT K mg "CursorError" (cls 0)
  e_InvalidHash : ExT K mg "InvalidHash" (cls 4)
  e_InvalidNumber : ExT K mg "InvalidNumber" (cls 5)
  e_InvalidShape : ExT K mg "InvalidShape" (cls 6)
  e_InvalidWidth : ExT K mg "InvalidWidth" (cls 3)
  xm : ∀ c, exmT c = true → PySem.W.exmOne K (.ref (cls c)) (.ref (cls 0)) = some true
  xt : ExTb K (gg P w K cls tb) subT
section
variable {P : Program} {w : World} {K : PySem.W.Frag} {mg : Str → Option Value} {base : Heap} {cls : Nat → Addr} {tb : List (Addr × Str)}
theorem sc__law_next : FnScope ["pen", "index", "cell_here", "some", "more", "top"] ["pen"] (defScope s__law_next) := ⟨rfl, rfl, rfl, by decide +kernel, rfl, by decide +kernel, by decide +kernel⟩
theorem ok__law_next {f : Addr} {fd : FuncData} (hsm : SMod base) (T : Tx P w K mg cls tb) (F : FnT K mg "_law_next" "_law_next" s__law_next ["pen"] f fd) : FnG P w K mg base 1 f fd ["pen"] (spM (gg P w K cls tb) 1 m__law_next) :=
  fng_of (k := 0) F.F sc__law_next rfl rfl fun cdv A outer s H E o => by
    show SB _ _ _ (defBody s__law_next) b__law_next
    exact (sb_cons (ss_set o 1 (se_ix o (se_var 0) se_int))
    (sb_cons (ss_sub o (se_add o (se_var 1) se_int) (se_var 0) se_int)
    (sb_cons (ss_set o 2 (se_add o (se_mul (se_var 1) se_int) se_int))
    (sb_cons (ss_if (sq_cmp (or_ne o) ob_ne (se_ix o (se_var 0) se_int) (se_lst sa_nil)) (sb_one (ss_set o 2 (se_ix o (se_ix o (se_var 0) se_int) (se_mod (se_int_ T.z_int (sa_cons (se_var 1) sa_nil)) (se_len o T.z_len (sa_cons (se_ix o (se_var 0) se_int) sa_nil)))))) sb_nil)
    (sb_cons (ss_if (sq_boo (sw_and (sq_cmp op_lt ob_lt (se_var 1) (se_len o T.z_len (sa_cons (se_ix o (se_var 0) se_int) sa_nil))) (sw_and1 (sq_cmp op_ge ob_ge (se_var 2) (se_pow se_int se_int))))) (sb_one (ss_ret (se_var 2))) sb_nil)
    (sb_cons (ss_set o 3 (se_mod (se_int_ T.z_int (sa_cons (se_add o (se_add o (se_mod (se_int_ T.z_int (sa_cons (se_var 2) sa_nil)) se_int) (se_mul (se_var 1) se_int)) se_int) sa_nil)) se_int))
    (sb_cons (ss_set o 4 (se_mod (se_int_ T.z_int (sa_cons (se_add o (se_add o (se_mul (se_var 3) (se_var 3)) (se_mul (se_var 1) se_int)) se_int) sa_nil)) se_int))
    (sb_cons (ss_set o 5 (se_mod (se_int_ T.z_int (sa_cons (se_add o (se_add o (se_mul (se_var 4) (se_var 4)) (se_var 3)) (se_mul (se_mul (se_var 1) (se_var 1)) se_int)) sa_nil)) se_int))
    (sb_one (ss_ret (se_add o (se_mul (se_add o (se_mul (se_var 5) se_int) (se_var 4)) se_int) (se_var 3))))))))))))
theorem sc__law_draw : FnScope ["pen", "under", "digit"] ["pen", "under"] (defScope s__law_draw) := ⟨rfl, rfl, rfl, by decide +kernel, rfl, by decide +kernel, by decide +kernel⟩
theorem ok__law_draw {f : Addr} {fd : FuncData} (hsm : SMod base) (T : Tx P w K mg cls tb) (F : FnT K mg "_law_draw" "_law_draw" s__law_draw ["pen", "under"] f fd) (C__law_next : Cal P w K mg base (gg P w K cls tb) "_law_next" 1 1 m__law_next) : FnG P w K mg base 2 f fd ["pen", "under"] (spM (gg P w K cls tb) 2 m__law_draw) :=
  fng_of (k := 1) F.F sc__law_draw rfl rfl fun cdv A outer s H E o => by
    show SB _ _ _ (defBody s__law_draw) b__law_draw
    exact (sb_cons (ss_if (sq_cmp op_lt ob_lt (se_ix o (se_var 0) se_int) (se_var 1)) (sb_one (ss_sub o (se_calld o C__law_next (by decide) (sa_cons (se_var 0) sa_nil)) (se_var 0) se_int)) sb_nil)
    (sb_cons (ss_set o 2 (se_mod (se_int_ T.z_int (sa_cons (se_ix o (se_var 0) se_int) sa_nil)) (se_var 1)))
    (sb_cons (ss_sub o (se_div (se_ix o (se_var 0) se_int) (se_var 1)) (se_var 0) se_int)
    (sb_one (ss_ret (se_var 2))))))
theorem sc__law_any : FnScope ["pen", "levels", "way_no", "inner", "turn", "k"] ["pen", "levels"] (defScope s__law_any) := ⟨rfl, rfl, rfl, by decide +kernel, rfl, by decide +kernel, by decide +kernel⟩
theorem ok__law_any {f : Addr} {fd : FuncData} (hsm : SMod base) (T : Tx P w K mg cls tb) (F : FnT K mg "_law_any" "_law_any" s__law_any ["pen", "levels"] f fd) (C__law_draw : Cal P w K mg base (gg P w K cls tb) "_law_draw" 2 2 m__law_draw) : ∀ j, FnG P w K mg base (3 + j) f fd ["pen", "levels"] (spM (gg P w K cls tb) 2 (r__law_any j))
  | 0 => ⟨fun vs H Q E h => h.1, fun A outer s H args us vs Q E _ _ _ _ _ h => (let ⟨_, _, _, _, _, _, z⟩ := h; (z : False).elim)⟩
  | j + 1 => by
    have C__law_any := F.cal (ok__law_any hsm T F C__law_draw j)
    exact fng_of (k := 3 + j) F.F sc__law_any rfl rfl fun cdv A outer s H E o => by
      show SB _ _ _ (defBody s__law_any) (b__law_any (r__law_any j))
      exact (sb_cons (ss_set o 2 (se_calld o C__law_draw (by omega) (sa_cons (se_var 0) (sa_cons (se_ite (sq_cmp op_gt ob_gt (se_var 1) se_int) se_int se_int) sa_nil))))
    (sb_cons (ss_if (sq_cmp op_lt ob_lt (se_var 2) se_int) (sb_one (ss_ret (se_ix o (se_lst (sa_cons se_int (sa_cons se_int (sa_cons (se_neg se_int) (sa_cons se_bl (sa_cons se_non (sa_cons se_str (sa_cons se_str (sa_cons se_str (sa_cons se_str (sa_cons (se_pow se_int se_int) (sa_cons se_str sa_nil)))))))))))) (se_var 2)))) sb_nil)
    (sb_cons (ss_set o 3 (se_comp o [("turn", 4)] (si_rg1 T.z_range (se_calld o C__law_draw (by omega) (sa_cons (se_var 0) (sa_cons se_int sa_nil)))) (blkOk_by (N := ["pen", "levels", "way_no", "inner", "turn", "k"]) (sc := defScope s__law_any) (by decide +kernel)) (fun s H C cl fp o => (sg_name o 4)) (fun s H C cl fp o => st_nil) (fun s H C cl fp o => (se_calld o C__law_any (by omega) (sa_cons (se_var 0) (sa_cons (se_sub (se_var 1) se_int) sa_nil))))))
    (sb_cons (ss_if (sq_cmp (or_eq o) ob_eq (se_var 2) se_int) (sb_one (ss_ret (se_var 3))) sb_nil)
    (sb_cons (ss_if (sq_cmp (or_eq o) ob_eq (se_var 2) se_int) (sb_one (ss_ret (se_dictS o T.z_dict (sa_cons (se_comp o [("k", 5)] (si_rg1 T.z_range (se_len o T.z_len (sa_cons (se_var 3) sa_nil))) (blkOk_by (N := ["pen", "levels", "way_no", "inner", "turn", "k"]) (sc := defScope s__law_any) (by decide +kernel)) (fun s H C cl fp o => (sg_name o 5)) (fun s H C cl fp o => st_nil) (fun s H C cl fp o => (se_tup (n := 0) (sa_cons (se_ix o (se_lst (sa_cons se_str (sa_cons se_str (sa_cons se_str (sa_cons se_int sa_nil))))) (se_var 5)) (sa_cons (se_ix o (se_var 3) (se_var 5)) sa_nil))))) sa_nil)))) sb_nil)
    (sb_one (ss_ret (se_tuple o T.z_tuple (sa_cons (se_var 3) sa_nil)))))))))
theorem sc__law_is_whole : FnScope ["thing", "under"] ["thing", "under"] (defScope s__law_is_whole) := ⟨rfl, rfl, rfl, by decide +kernel, rfl, by decide +kernel, by decide +kernel⟩
theorem ok__law_is_whole {f : Addr} {fd : FuncData} (hsm : SMod base) (T : Tx P w K mg cls tb) (F : FnT K mg "_law_is_whole" "_law_is_whole" s__law_is_whole ["thing", "under"] f fd) : FnG P w K mg base 1 f fd ["thing", "under"] (spM (gg P w K cls tb) 2 m__law_is_whole) :=
  fng_of (k := 0) F.F sc__law_is_whole rfl rfl fun cdv A outer s H E o => by
    show SB _ _ _ (defBody s__law_is_whole) b__law_is_whole
    exact (sb_one (ss_ret (se_and (se_isi o T.z_isinstance (sa_cons (se_var 0) (sa_cons (se_ty 2 T.z_int) sa_nil))) (se_and (se_not (se_isi o T.z_isinstance (sa_cons (se_var 0) (sa_cons (se_ty 1 T.z_bool) sa_nil)))) (se_one (se_chain op_le op_lt ob_le ob_lt se_int (se_var 0) (se_var 1)))))))
theorem sc__law_pen : FnScope ["script"] ["script"] (defScope s__law_pen) := ⟨rfl, rfl, rfl, by decide +kernel, rfl, by decide +kernel, by decide +kernel⟩
theorem ok__law_pen {f : Addr} {fd : FuncData} (hsm : SMod base) (T : Tx P w K mg cls tb) (F : FnT K mg "_law_pen" "_law_pen" s__law_pen ["script"] f fd) : FnG P w K mg base 1 f fd ["script"] (spM (gg P w K cls tb) 1 m__law_pen) :=
  fng_of (k := 0) F.F sc__law_pen rfl rfl fun cdv A outer s H E o => by
    show SB _ _ _ (defBody s__law_pen) b__law_pen
    exact (sb_one (ss_ret (se_lst (sa_cons (se_list o T.z_list (sa_cons (se_slice o (se_var 0) so_none (so_some se_int)) sa_nil)) (sa_cons se_int (sa_cons se_int sa_nil))))))
theorem sc__law_word : FnScope ["act", "caught", "e", "kinds"] ["act"] (defScope s__law_word) := ⟨rfl, rfl, rfl, by decide +kernel, rfl, by decide +kernel, by decide +kernel⟩
theorem rs__law_word {gf : Addr} {cdv : Value} {A : Around} {st : List PySem.Env} {s0 : Shared} {H0 : Hp} (T : Tx P w K mg cls tb) (o : XO (cxOf C8.CX0 P w K mg base ["act", "caught", "e", "kinds"] "_law_word" (defScope s__law_word) gf cdv A st s0 H0 C8.E0).nox (gg P w K cls tb) W0 5) : SB (cxOf C8.CX0 P w K mg base ["act", "caught", "e", "kinds"] "_law_word" (defScope s__law_word) gf cdv A st s0 H0 C8.E0).nox (gg P w K cls tb) W0 ((defBody s__law_word).drop 2) b__law_word := by
    exact (sb_cons (ss_if (sq_isN (se_var 1)) (sb_one (ss_ret se_str)) sb_nil)
    (sb_cons (ss_set o 3 (se_lst (sa_cons (se_isX o T.xt T.z_isinstance (sa_cons (se_var 1) (sa_cons (se_cls (c := 3) T.e_InvalidWidth.m) sa_nil))) (sa_cons (se_isX o T.xt T.z_isinstance (sa_cons (se_var 1) (sa_cons (se_cls (c := 4) T.e_InvalidHash.m) sa_nil))) sa_nil))))
    (sb_cons (ss_set o 3 (se_add o (se_var 3) (se_lst (sa_cons (se_isX o T.xt T.z_isinstance (sa_cons (se_var 1) (sa_cons (se_cls (c := 5) T.e_InvalidNumber.m) sa_nil))) (sa_cons (se_isX o T.xt T.z_isinstance (sa_cons (se_var 1) (sa_cons (se_cls (c := 6) T.e_InvalidShape.m) sa_nil))) sa_nil)))))
    (sb_one (ss_ret (se_ite (sq_cmp (or_eq o) ob_eq (se_cnt o (se_var 3) (sa_cons se_bl sa_nil)) se_int) (se_ix o (se_lst (sa_cons se_str (sa_cons se_str (sa_cons se_str (sa_cons se_str sa_nil))))) (se_idx o (se_var 3) (sa_cons se_bl sa_nil))) se_str))))))
theorem sc_buckets_of : FnScope ["width"] ["width"] (defScope s_buckets_of) := ⟨rfl, rfl, rfl, by decide +kernel, rfl, by decide +kernel, by decide +kernel⟩
theorem ok_buckets_of {f : Addr} {fd : FuncData} (hsm : SMod base) (T : Tx P w K mg cls tb) (F : FnT K mg "buckets_of" "buckets_of" s_buckets_of ["width"] f fd) : FnG P w K mg base 1 f fd ["width"] (spM (gg P w K cls tb) 1 m_buckets_of) :=
  fng_of (k := 0) F.F sc_buckets_of rfl rfl fun cdv A outer s H E o => by
    show SB _ _ _ (defBody s_buckets_of) b_buckets_of
    exact (sb_one (ss_ret (se_shl se_int (se_var 0))))
theorem sc_is_integer : FnScope ["thing"] ["thing"] (defScope s_is_integer) := ⟨rfl, rfl, rfl, by decide +kernel, rfl, by decide +kernel, by decide +kernel⟩
theorem ok_is_integer {f : Addr} {fd : FuncData} (hsm : SMod base) (T : Tx P w K mg cls tb) (F : FnT K mg "is_integer" "is_integer" s_is_integer ["thing"] f fd) : FnG P w K mg base 1 f fd ["thing"] (spM (gg P w K cls tb) 1 m_is_integer) :=
  fng_of (k := 0) F.F sc_is_integer rfl rfl fun cdv A outer s H E o => by
    show SB _ _ _ (defBody s_is_integer) b_is_integer
    exact (sb_one (ss_ret (se_and (se_isi o T.z_isinstance (sa_cons (se_var 0) (sa_cons (se_ty 2 T.z_int) sa_nil))) (se_one (se_not (se_isi o T.z_isinstance (sa_cons (se_var 0) (sa_cons (se_ty 1 T.z_bool) sa_nil))))))))
theorem sc_is_between : FnScope ["thing", "low", "high"] ["thing", "low", "high"] (defScope s_is_between) := ⟨rfl, rfl, rfl, by decide +kernel, rfl, by decide +kernel, by decide +kernel⟩
theorem ok_is_between {f : Addr} {fd : FuncData} (hsm : SMod base) (T : Tx P w K mg cls tb) (F : FnT K mg "is_between" "is_between" s_is_between ["thing", "low", "high"] f fd) (C_is_integer : Cal P w K mg base (gg P w K cls tb) "is_integer" 1 1 m_is_integer) : FnG P w K mg base 2 f fd ["thing", "low", "high"] (spM (gg P w K cls tb) 3 m_is_between) :=
  fng_of (k := 1) F.F sc_is_between rfl rfl fun cdv A outer s H E o => by
    show SB _ _ _ (defBody s_is_between) b_is_between
    exact (sb_one (ss_ret (se_and (se_calld o C_is_integer (by decide) (sa_cons (se_var 0) sa_nil)) (se_one (se_chain op_le op_le ob_le ob_le (se_var 1) (se_var 0) (se_var 2))))))
theorem sc_is_hash : FnScope ["thing"] ["thing"] (defScope s_is_hash) := ⟨rfl, rfl, rfl, by decide +kernel, rfl, by decide +kernel, by decide +kernel⟩
theorem ok_is_hash {f : Addr} {fd : FuncData} (hsm : SMod base) (T : Tx P w K mg cls tb) (F : FnT K mg "is_hash" "is_hash" s_is_hash ["thing"] f fd) (C_is_between : Cal P w K mg base (gg P w K cls tb) "is_between" 2 3 m_is_between) : FnG P w K mg base 3 f fd ["thing"] (spM (gg P w K cls tb) 1 m_is_hash) :=
  fng_of (k := 2) F.F sc_is_hash rfl rfl fun cdv A outer s H E o => by
    show SB _ _ _ (defBody s_is_hash) b_is_hash
    exact (sb_one (ss_ret (se_calld o C_is_between (by decide) (sa_cons (se_var 0) (sa_cons se_int (sa_cons (se_gint T.c_GREATEST_HASH.choose_spec) sa_nil))))))
theorem sc_check_hash : FnScope ["code"] ["code"] (defScope s_check_hash) := ⟨rfl, rfl, rfl, by decide +kernel, rfl, by decide +kernel, by decide +kernel⟩
theorem ok_check_hash {f : Addr} {fd : FuncData} (hsm : SMod base) (T : Tx P w K mg cls tb) (F : FnT K mg "check_hash" "check_hash" s_check_hash ["code"] f fd) (C_is_hash : Cal P w K mg base (gg P w K cls tb) "is_hash" 3 1 m_is_hash) : FnG P w K mg base 4 f fd ["code"] (spM (gg P w K cls tb) 1 m_check_hash) :=
  fng_of (k := 3) F.F sc_check_hash rfl rfl fun cdv A outer s H E o => by
    show SB _ _ _ (defBody s_check_hash) b_check_hash
    exact (sb_one (ss_if (sq_not (sq_tru o (se_calld o C_is_hash (by decide) (sa_cons (se_var 0) sa_nil)))) (sb_one (ss_raised o 4 T.e_InvalidHash)) sb_nil))
theorem sc_is_width : FnScope ["thing"] ["thing"] (defScope s_is_width) := ⟨rfl, rfl, rfl, by decide +kernel, rfl, by decide +kernel, by decide +kernel⟩
theorem ok_is_width {f : Addr} {fd : FuncData} (hsm : SMod base) (T : Tx P w K mg cls tb) (F : FnT K mg "is_width" "is_width" s_is_width ["thing"] f fd) (C_is_between : Cal P w K mg base (gg P w K cls tb) "is_between" 2 3 m_is_between) : FnG P w K mg base 3 f fd ["thing"] (spM (gg P w K cls tb) 1 m_is_width) :=
  fng_of (k := 2) F.F sc_is_width rfl rfl fun cdv A outer s H E o => by
    show SB _ _ _ (defBody s_is_width) b_is_width
    exact (sb_one (ss_ret (se_calld o C_is_between (by decide) (sa_cons (se_var 0) (sa_cons se_int (sa_cons (se_gint T.c_GREATEST_WIDTH.choose_spec) sa_nil))))))
theorem sc_check_width : FnScope ["width"] ["width"] (defScope s_check_width) := ⟨rfl, rfl, rfl, by decide +kernel, rfl, by decide +kernel, by decide +kernel⟩
theorem ok_check_width {f : Addr} {fd : FuncData} (hsm : SMod base) (T : Tx P w K mg cls tb) (F : FnT K mg "check_width" "check_width" s_check_width ["width"] f fd) (C_is_width : Cal P w K mg base (gg P w K cls tb) "is_width" 3 1 m_is_width) : FnG P w K mg base 4 f fd ["width"] (spM (gg P w K cls tb) 1 m_check_width) :=
  fng_of (k := 3) F.F sc_check_width rfl rfl fun cdv A outer s H E o => by
    show SB _ _ _ (defBody s_check_width) b_check_width
    exact (sb_one (ss_if (sq_not (sq_tru o (se_calld o C_is_width (by decide) (sa_cons (se_var 0) sa_nil)))) (sb_one (ss_raised o 3 T.e_InvalidWidth)) sb_nil))
theorem sc_bucket : FnScope ["code", "width"] ["code", "width"] (defScope s_bucket) := ⟨rfl, rfl, rfl, by decide +kernel, rfl, by decide +kernel, by decide +kernel⟩
theorem ok_bucket {f : Addr} {fd : FuncData} (hsm : SMod base) (T : Tx P w K mg cls tb) (F : FnT K mg "bucket" "bucket" s_bucket ["code", "width"] f fd) (C_buckets_of : Cal P w K mg base (gg P w K cls tb) "buckets_of" 1 1 m_buckets_of) (C_check_hash : Cal P w K mg base (gg P w K cls tb) "check_hash" 4 1 m_check_hash) (C_check_width : Cal P w K mg base (gg P w K cls tb) "check_width" 4 1 m_check_width) : FnG P w K mg base 5 f fd ["code", "width"] (spM (gg P w K cls tb) 2 m_bucket) :=
  fng_of (k := 4) F.F sc_bucket rfl rfl fun cdv A outer s H E o => by
    show SB _ _ _ (defBody s_bucket) b_bucket
    exact (sb_cons (ss_exp (se_calld o C_check_width (by decide) (sa_cons (se_var 1) sa_nil)))
    (sb_cons (ss_exp (se_calld o C_check_hash (by decide) (sa_cons (se_var 0) sa_nil)))
    (sb_one (ss_ret (se_mod (se_var 0) (se_calld o C_buckets_of (by decide) (sa_cons (se_var 1) sa_nil)))))))
theorem sc__check_number : FnScope ["number", "width"] ["number", "width"] (defScope s__check_number) := ⟨rfl, rfl, rfl, by decide +kernel, rfl, by decide +kernel, by decide +kernel⟩
theorem ok__check_number {f : Addr} {fd : FuncData} (hsm : SMod base) (T : Tx P w K mg cls tb) (F : FnT K mg "_check_number" "_check_number" s__check_number ["number", "width"] f fd) (C_buckets_of : Cal P w K mg base (gg P w K cls tb) "buckets_of" 1 1 m_buckets_of) (C_is_between : Cal P w K mg base (gg P w K cls tb) "is_between" 2 3 m_is_between) : FnG P w K mg base 3 f fd ["number", "width"] (spM (gg P w K cls tb) 2 m__check_number) :=
  fng_of (k := 2) F.F sc__check_number rfl rfl fun cdv A outer s H E o => by
    show SB _ _ _ (defBody s__check_number) b__check_number
    exact (sb_one (ss_if (sq_not (sq_tru o (se_calld o C_is_between (by decide) (sa_cons (se_var 0) (sa_cons se_int (sa_cons (se_sub (se_calld o C_buckets_of (by decide) (sa_cons (se_var 1) sa_nil)) se_int) sa_nil)))))) (sb_one (ss_raised o 5 T.e_InvalidNumber)) sb_nil))
theorem sc_turned : FnScope ["number", "width", "rest", "result", "_"] ["number", "width"] (defScope s_turned) := ⟨rfl, rfl, rfl, by decide +kernel, rfl, by decide +kernel, by decide +kernel⟩
theorem ok_turned {f : Addr} {fd : FuncData} (hsm : SMod base) (T : Tx P w K mg cls tb) (F : FnT K mg "turned" "turned" s_turned ["number", "width"] f fd) (C__check_number : Cal P w K mg base (gg P w K cls tb) "_check_number" 3 2 m__check_number) (C_check_width : Cal P w K mg base (gg P w K cls tb) "check_width" 4 1 m_check_width) : FnG P w K mg base 5 f fd ["number", "width"] (spM (gg P w K cls tb) 2 m_turned) :=
  fng_of (k := 4) F.F sc_turned rfl rfl fun cdv A outer s H E o => by
    show SB _ _ _ (defBody s_turned) b_turned
    exact (sb_cons (ss_exp (se_calld o C_check_width (by decide) (sa_cons (se_var 1) sa_nil)))
    (sb_cons (ss_exp (se_calld o C__check_number (by decide) (sa_cons (se_var 0) (sa_cons (se_var 1) sa_nil))))
    (sb_cons (ss_set o 2 (se_var 0))
    (sb_cons (ss_set o 3 se_int)
    (sb_cons (ss_for (body := l_turned_0) o (si_rg1 T.z_range (se_var 1)) (sg_name o 4) (sb_cons (ss_set o 3 (se_add o (se_mul (se_var 3) se_int) (se_mod (se_var 2) se_int)))
    (sb_one (ss_set o 2 (se_div (se_var 2) se_int)))))
    (sb_one (ss_ret (se_var 3))))))))
theorem sc_within : FnScope ["number", "small", "large"] ["number", "small", "large"] (defScope s_within) := ⟨rfl, rfl, rfl, by decide +kernel, rfl, by decide +kernel, by decide +kernel⟩
theorem ok_within {f : Addr} {fd : FuncData} (hsm : SMod base) (T : Tx P w K mg cls tb) (F : FnT K mg "within" "within" s_within ["number", "small", "large"] f fd) (C__check_number : Cal P w K mg base (gg P w K cls tb) "_check_number" 3 2 m__check_number) (C_buckets_of : Cal P w K mg base (gg P w K cls tb) "buckets_of" 1 1 m_buckets_of) (C_check_width : Cal P w K mg base (gg P w K cls tb) "check_width" 4 1 m_check_width) : FnG P w K mg base 5 f fd ["number", "small", "large"] (spM (gg P w K cls tb) 3 m_within) :=
  fng_of (k := 4) F.F sc_within rfl rfl fun cdv A outer s H E o => by
    show SB _ _ _ (defBody s_within) b_within
    exact (sb_cons (ss_exp (se_calld o C_check_width (by decide) (sa_cons (se_var 1) sa_nil)))
    (sb_cons (ss_exp (se_calld o C_check_width (by decide) (sa_cons (se_var 2) sa_nil)))
    (sb_cons (ss_exp (se_calld o C__check_number (by decide) (sa_cons (se_var 0) (sa_cons (se_var 1) sa_nil))))
    (sb_cons (ss_if (sq_cmp op_gt ob_gt (se_var 1) (se_var 2)) (sb_one (ss_raised o 5 T.e_InvalidNumber)) sb_nil)
    (sb_one (ss_ret (se_lrng3 o T.z_list T.z_range (sa_cons (se_var 0) (sa_cons (se_calld o C_buckets_of (by decide) (sa_cons (se_var 2) sa_nil)) (sa_cons (se_calld o C_buckets_of (by decide) (sa_cons (se_var 1) sa_nil)) sa_nil))))))))))
theorem sc_law : FnScope ["script", "pen", "many", "turn", "odd", "seen", "due", "one", "two", "three", "k"] ["script"] (defScope s_law) := ⟨rfl, rfl, rfl, by decide +kernel, rfl, by decide +kernel, by decide +kernel⟩
theorem ok_law {f : Addr} {fd : FuncData} {cL PL : Addr} (hsm : SMod base) (T : Tx P w K mg cls tb) (F : FnT K mg "law" "law" s_law ["script"] f fd) (hcode0 : fd.code = .ref cL) (TB : LamX.TabB base mg cL PL) (hT0 : tb = [(PL, (envOfC "law" (defScope s_law) 0 0 .none).qual ++ "<lambda>")]) (C__law_any : Cal P w K mg base (gg P w K cls tb) "_law_any" 6 2 m__law_any) (C__law_draw : Cal P w K mg base (gg P w K cls tb) "_law_draw" 2 2 m__law_draw) (C__law_is_whole : Cal P w K mg base (gg P w K cls tb) "_law_is_whole" 1 2 m__law_is_whole) (C__law_pen : Cal P w K mg base (gg P w K cls tb) "_law_pen" 1 1 m__law_pen) (C_bucket : Cal P w K mg base (gg P w K cls tb) "bucket" 5 2 m_bucket) (C_is_hash : Cal P w K mg base (gg P w K cls tb) "is_hash" 3 1 m_is_hash) (C_is_width : Cal P w K mg base (gg P w K cls tb) "is_width" 3 1 m_is_width) (C_turned : Cal P w K mg base (gg P w K cls tb) "turned" 5 2 m_turned) (C_within : Cal P w K mg base (gg P w K cls tb) "within" 5 3 m_within) {f__law_word : Addr} {fd__law_word : FuncData} (F__law_word : FnT K mg "_law_word" "_law_word" s__law_word ["act"] f__law_word fd__law_word) : FnG P w K mg base 8 f fd ["script"] (spM (gg P w K cls tb) 1 m_law) :=
  fng_ofC (k := 7) F.F sc_law rfl rfl fun cdv A outer s H E hcode o => by
    show SB _ _ _ (defBody s_law) b_law
    exact (sb_cons (ss_set o 1 (se_calld o C__law_pen (by decide) (sa_cons (se_var 0) sa_nil)))
    (sb_cons (ss_set o 2 (se_lst (sa_cons se_int (sa_cons se_int (sa_cons se_int (sa_cons se_int (sa_cons se_int (sa_cons se_int sa_nil))))))))
    (sb_cons (ss_for (body := l_law_0) o (si_rg1 T.z_range se_int) (sg_name o 3) (sb_cons (ss_set o 4 (se_lst (sa_cons se_int (sa_cons se_int (sa_cons se_int (sa_cons se_int (sa_cons se_int (sa_cons se_int (sa_cons se_int (sa_cons se_int (sa_cons se_int (sa_cons se_int (sa_cons se_int (sa_cons se_int (sa_cons se_int (sa_cons (se_neg se_int) (sa_cons se_bl (sa_cons se_bl (sa_cons se_non (sa_cons se_str (sa_cons se_str (sa_cons (se_lst (sa_cons se_int sa_nil)) (sa_cons (se_tup (n := 0) (sa_cons se_int sa_nil)) (sa_cons (se_dictI0 o) (sa_cons (se_pow se_int se_int) sa_nil)))))))))))))))))))))))))
    (sb_cons (ss_exp (se_append o (se_var 4) (sa_cons (se_calld o C__law_any (by decide) (sa_cons (se_var 1) (sa_cons se_int sa_nil))) sa_nil)))
    (sb_cons (ss_unl o 3 (se_comp o [("k", 10)] (si_rg1 T.z_range se_int) (blkOk_by (N := ["script", "pen", "many", "turn", "odd", "seen", "due", "one", "two", "three", "k"]) (sc := defScope s_law) (by decide +kernel)) (fun s H C cl fp o => (sg_name o 10)) (fun s H C cl fp o => st_nil) (fun s H C cl fp o => (se_ix o (se_var 4) (se_calld o C__law_draw (by decide) (sa_cons (se_var 1) (sa_cons se_int sa_nil)))))) (sgs_cons (sg_name o 7) (sgs_cons (sg_name o 8) (sgs_cons (sg_name o 9) sgs_nil))))
    (sb_cons (ss_set o 5 (se_reprY o hsm T.z_repr (sa_cons (se_lst (sa_cons (se_var 7) (sa_cons (se_var 8) (sa_cons (se_var 9) sa_nil)))) sa_nil)))
    (sb_cons (ss_if (sq_cmp (or_ne o) ob_ne (se_reprY o hsm T.z_repr (sa_cons (se_lst (sa_cons (se_calld o C_is_width (by decide) (sa_cons (se_var 7) sa_nil)) (sa_cons (se_calld o C_is_hash (by decide) (sa_cons (se_var 7) sa_nil)) sa_nil))) sa_nil)) (se_reprY o hsm T.z_repr (sa_cons (se_lst (sa_cons (se_calld o C__law_is_whole (by decide) (sa_cons (se_var 7) (sa_cons se_int sa_nil))) (sa_cons (se_calld o C__law_is_whole (by decide) (sa_cons (se_var 7) (sa_cons se_int sa_nil))) sa_nil))) sa_nil))) (sb_one (ss_ret se_bl)) sb_nil)
    (sb_cons (ss_set o 6 (se_ite (sq_not (sq_tru o (se_calld o C__law_is_whole (by decide) (sa_cons (se_var 8) (sa_cons se_int sa_nil))))) se_str (se_ite (sq_tru o (se_calld o C__law_is_whole (by decide) (sa_cons (se_var 7) (sa_cons se_int sa_nil)))) se_str se_str)))
    (sb_cons (ss_if (sq_cmp (or_ne o) ob_ne (se_lam (k := 5) (ii := 2) (c0 := 0) o (by decide) F__law_word.F F__law_word.b sc__law_word F__law_word.m (fun Z h1 h2 => ⟨by show Z.env.scope.names.lookup _ = _; rw [h2]; rfl, by decide, .inl (by rw [h1]; exact T.e_CursorError.m)⟩) T.xm TB (hcode.symm.trans hcode0) (hT0 ▸ .head _) (hT0 ▸ fun p hp _ => by rw [List.mem_singleton.mp hp]; rfl) (show LamX.LamS (defScope s_law) _ from ⟨rfl, rfl, rfl, by decide +kernel, by decide +kernel⟩) rfl (fun cdv s0 H0 o => rs__law_word T  o) (fun A outer s0 H0 E f c2 o => (se_calld o C_bucket (by decide) (sa_cons (se_var 7) (sa_cons (se_var 8) sa_nil))))) (se_var 6)) (sb_one (ss_ret se_bl)) sb_nil)
    (sb_cons (ss_set o 6 (se_ite (sq_not (sq_tru o (se_calld o C__law_is_whole (by decide) (sa_cons (se_var 8) (sa_cons se_int sa_nil))))) se_str (se_ite (sq_tru o (se_calld o C__law_is_whole (by decide) (sa_cons (se_var 7) (sa_cons (se_ix o (se_var 2) (se_var 8)) sa_nil)))) se_str se_str)))
    (sb_cons (ss_if (sq_cmp (or_ne o) ob_ne (se_lam (k := 5) (ii := 2) (c0 := 0) o (by decide) F__law_word.F F__law_word.b sc__law_word F__law_word.m (fun Z h1 h2 => ⟨by show Z.env.scope.names.lookup _ = _; rw [h2]; rfl, by decide, .inl (by rw [h1]; exact T.e_CursorError.m)⟩) T.xm TB (hcode.symm.trans hcode0) (hT0 ▸ .head _) (hT0 ▸ fun p hp _ => by rw [List.mem_singleton.mp hp]; rfl) (show LamX.LamS (defScope s_law) _ from ⟨rfl, rfl, rfl, by decide +kernel, by decide +kernel⟩) rfl (fun cdv s0 H0 o => rs__law_word T  o) (fun A outer s0 H0 E f c2 o => (se_calld o C_turned (by decide) (sa_cons (se_var 7) (sa_cons (se_var 8) sa_nil))))) (se_var 6)) (sb_one (ss_ret se_bl)) sb_nil)
    (sb_cons (ss_set o 6 se_str)
    (sb_cons (ss_if (sq_boo (sw_or (sq_not (sq_tru o (se_calld o C__law_is_whole (by decide) (sa_cons (se_var 8) (sa_cons se_int sa_nil))))) (sw_or1 (sq_not (sq_tru o (se_calld o C__law_is_whole (by decide) (sa_cons (se_var 9) (sa_cons se_int sa_nil)))))))) (sb_one (ss_set o 6 se_str)) (sb_one (ss_if (sq_boo (sw_or (sq_cmp op_gt ob_gt (se_var 8) (se_var 9)) (sw_or1 (sq_not (sq_tru o (se_calld o C__law_is_whole (by decide) (sa_cons (se_var 7) (sa_cons (se_ix o (se_var 2) (se_var 8)) sa_nil)))))))) (sb_one (ss_set o 6 se_str)) sb_nil)))
    (sb_one (ss_if (sq_boo (sw_or (sq_cmp (or_ne o) ob_ne (se_lam (k := 5) (ii := 2) (c0 := 0) o (by decide) F__law_word.F F__law_word.b sc__law_word F__law_word.m (fun Z h1 h2 => ⟨by show Z.env.scope.names.lookup _ = _; rw [h2]; rfl, by decide, .inl (by rw [h1]; exact T.e_CursorError.m)⟩) T.xm TB (hcode.symm.trans hcode0) (hT0 ▸ .head _) (hT0 ▸ fun p hp _ => by rw [List.mem_singleton.mp hp]; rfl) (show LamX.LamS (defScope s_law) _ from ⟨rfl, rfl, rfl, by decide +kernel, by decide +kernel⟩) rfl (fun cdv s0 H0 o => rs__law_word T  o) (fun A outer s0 H0 E f c2 o => (se_calld o C_within (by decide) (sa_cons (se_var 7) (sa_cons (se_var 8) (sa_cons (se_var 9) sa_nil)))))) (se_var 6)) (sw_or1 (sq_cmp (or_ne o) ob_ne (se_reprY o hsm T.z_repr (sa_cons (se_lst (sa_cons (se_var 7) (sa_cons (se_var 8) (sa_cons (se_var 9) sa_nil)))) sa_nil)) (se_var 5))))) (sb_one (ss_ret se_bl)) sb_nil))))))))))))))
    (sb_one (ss_ret se_bl)))))
end
theorem all_mk {l : PySem.W.OpenLaw} {w : World} {K : PySem.W.Frag} {h : Heap} {mg : Str → Option Value} {fa : Addr} (X : K.In h) (G0 : h.Ns mainGlobals mg) (hfa : mg "law" = some (.ref fa)) (own : LamX.OwnTab K fa h)
    {C_CursorError : Addr} (a_CursorError : PySem.W.nsIn K mainGlobals "CursorError" = some (some (.ref C_CursorError))) (x_CursorError : PySem.W.excIn K C_CursorError [.type "ValueError", .type "Exception", .type "BaseException", .type "object"] "ValueError.__new__" = true) (k_CursorError : PySem.W.keepIn K (.ref C_CursorError) = true) (b_CursorError : PySem.W.subIn K (.ref C_CursorError) (.type "BaseException") = some true) (t_CursorError : PySem.W.typeIn K (.ref C_CursorError) = some (.type "type"))
    {C_InvalidHash : Addr} (a_InvalidHash : PySem.W.nsIn K mainGlobals "InvalidHash" = some (some (.ref C_InvalidHash))) (x_InvalidHash : PySem.W.excIn K C_InvalidHash [.type "ValueError", .type "Exception", .type "BaseException", .type "object"] "ValueError.__new__" = true) (k_InvalidHash : PySem.W.keepIn K (.ref C_InvalidHash) = true) (b_InvalidHash : PySem.W.subIn K (.ref C_InvalidHash) (.type "BaseException") = some true) (t_InvalidHash : PySem.W.typeIn K (.ref C_InvalidHash) = some (.type "type"))
    {C_InvalidNumber : Addr} (a_InvalidNumber : PySem.W.nsIn K mainGlobals "InvalidNumber" = some (some (.ref C_InvalidNumber))) (x_InvalidNumber : PySem.W.excIn K C_InvalidNumber [.type "ValueError", .type "Exception", .type "BaseException", .type "object"] "ValueError.__new__" = true) (k_InvalidNumber : PySem.W.keepIn K (.ref C_InvalidNumber) = true) (b_InvalidNumber : PySem.W.subIn K (.ref C_InvalidNumber) (.type "BaseException") = some true) (t_InvalidNumber : PySem.W.typeIn K (.ref C_InvalidNumber) = some (.type "type"))
    {C_InvalidShape : Addr} (a_InvalidShape : PySem.W.nsIn K mainGlobals "InvalidShape" = some (some (.ref C_InvalidShape))) (x_InvalidShape : PySem.W.excIn K C_InvalidShape [.type "ValueError", .type "Exception", .type "BaseException", .type "object"] "ValueError.__new__" = true) (k_InvalidShape : PySem.W.keepIn K (.ref C_InvalidShape) = true) (b_InvalidShape : PySem.W.subIn K (.ref C_InvalidShape) (.type "BaseException") = some true) (t_InvalidShape : PySem.W.typeIn K (.ref C_InvalidShape) = some (.type "type"))
    {C_InvalidWidth : Addr} (a_InvalidWidth : PySem.W.nsIn K mainGlobals "InvalidWidth" = some (some (.ref C_InvalidWidth))) (x_InvalidWidth : PySem.W.excIn K C_InvalidWidth [.type "ValueError", .type "Exception", .type "BaseException", .type "object"] "ValueError.__new__" = true) (k_InvalidWidth : PySem.W.keepIn K (.ref C_InvalidWidth) = true) (b_InvalidWidth : PySem.W.subIn K (.ref C_InvalidWidth) (.type "BaseException") = some true) (t_InvalidWidth : PySem.W.typeIn K (.ref C_InvalidWidth) = some (.type "type"))
    (z_bool : PySem.W.nsIn K mainGlobals "bool" = some none)
    (z_dict : PySem.W.nsIn K mainGlobals "dict" = some none)
    (z_int : PySem.W.nsIn K mainGlobals "int" = some none)
    (z_isinstance : PySem.W.nsIn K mainGlobals "isinstance" = some none)
    (z_len : PySem.W.nsIn K mainGlobals "len" = some none)
    (z_list : PySem.W.nsIn K mainGlobals "list" = some none)
    (z_range : PySem.W.nsIn K mainGlobals "range" = some none)
    (z_repr : PySem.W.nsIn K mainGlobals "repr" = some none)
    (z_tuple : PySem.W.nsIn K mainGlobals "tuple" = some none)
    {t_GREATEST_HASH : Tok}
    (c_GREATEST_HASH : PySem.W.nsIn K mainGlobals "GREATEST_HASH" = some (some (.int 31 t_GREATEST_HASH)))
    {t_GREATEST_WIDTH : Tok}
    (c_GREATEST_WIDTH : PySem.W.nsIn K mainGlobals "GREATEST_WIDTH" = some (some (.int 5 t_GREATEST_WIDTH)))
    (xd_CursorError : PySem.W.hasDictIn K C_CursorError = true)
    (xs_InvalidHash : PySem.W.subIn K (.ref C_InvalidHash) (.ref C_CursorError) = some true)
    (xg_InvalidHash : PySem.W.findIn K (.ref C_InvalidHash) "__getattribute__" = some (some (.builtin "BaseException.__getattribute__")))
    (xk_InvalidHash : PySem.W.findIn K (.ref C_InvalidHash) "__getattr__" = some none)
    (xd_InvalidHash : PySem.W.hasDictIn K C_InvalidHash = true)
    (xa_InvalidHash : PySem.W.findIn K (.ref C_InvalidHash) "__class__" = some (some (.builtin "object.__class__")))
    (xo_InvalidHash : PySem.W.mroIn K C_InvalidHash (.type "object") = some true)
    (xq_InvalidHash_InvalidNumber : PySem.W.subIn K (.ref C_InvalidHash) (.ref C_InvalidNumber) = some false)
    (xq_InvalidHash_InvalidShape : PySem.W.subIn K (.ref C_InvalidHash) (.ref C_InvalidShape) = some false)
    (xq_InvalidHash_InvalidWidth : PySem.W.subIn K (.ref C_InvalidHash) (.ref C_InvalidWidth) = some false)
    (xs_InvalidNumber : PySem.W.subIn K (.ref C_InvalidNumber) (.ref C_CursorError) = some true)
    (xg_InvalidNumber : PySem.W.findIn K (.ref C_InvalidNumber) "__getattribute__" = some (some (.builtin "BaseException.__getattribute__")))
    (xk_InvalidNumber : PySem.W.findIn K (.ref C_InvalidNumber) "__getattr__" = some none)
    (xd_InvalidNumber : PySem.W.hasDictIn K C_InvalidNumber = true)
    (xa_InvalidNumber : PySem.W.findIn K (.ref C_InvalidNumber) "__class__" = some (some (.builtin "object.__class__")))
    (xo_InvalidNumber : PySem.W.mroIn K C_InvalidNumber (.type "object") = some true)
    (xq_InvalidNumber_InvalidHash : PySem.W.subIn K (.ref C_InvalidNumber) (.ref C_InvalidHash) = some false)
    (xq_InvalidNumber_InvalidShape : PySem.W.subIn K (.ref C_InvalidNumber) (.ref C_InvalidShape) = some false)
    (xq_InvalidNumber_InvalidWidth : PySem.W.subIn K (.ref C_InvalidNumber) (.ref C_InvalidWidth) = some false)
    (xs_InvalidWidth : PySem.W.subIn K (.ref C_InvalidWidth) (.ref C_CursorError) = some true)
    (xg_InvalidWidth : PySem.W.findIn K (.ref C_InvalidWidth) "__getattribute__" = some (some (.builtin "BaseException.__getattribute__")))
    (xk_InvalidWidth : PySem.W.findIn K (.ref C_InvalidWidth) "__getattr__" = some none)
    (xd_InvalidWidth : PySem.W.hasDictIn K C_InvalidWidth = true)
    (xa_InvalidWidth : PySem.W.findIn K (.ref C_InvalidWidth) "__class__" = some (some (.builtin "object.__class__")))
    (xo_InvalidWidth : PySem.W.mroIn K C_InvalidWidth (.type "object") = some true)
    (xq_InvalidWidth_InvalidHash : PySem.W.subIn K (.ref C_InvalidWidth) (.ref C_InvalidHash) = some false)
    (xq_InvalidWidth_InvalidNumber : PySem.W.subIn K (.ref C_InvalidWidth) (.ref C_InvalidNumber) = some false)
    (xq_InvalidWidth_InvalidShape : PySem.W.subIn K (.ref C_InvalidWidth) (.ref C_InvalidShape) = some false)
    (xn_ : PySem.W.specialIn K (.builtin "object.__class__") "__get__" = some (some (.builtin "getset_descriptor.__get__")))
    (xt_ : PySem.W.takesIn K (.builtin "object.__class__") = some true)
    (xi_InvalidHash : PySem.W.isClsIn K C_InvalidHash = true)
    (xr_InvalidHash : PySem.W.subIn K (.ref C_InvalidHash) (.ref C_InvalidHash) = some true)
    (xi_InvalidNumber : PySem.W.isClsIn K C_InvalidNumber = true)
    (xr_InvalidNumber : PySem.W.subIn K (.ref C_InvalidNumber) (.ref C_InvalidNumber) = some true)
    (xi_InvalidShape : PySem.W.isClsIn K C_InvalidShape = true)
    (xr_InvalidShape : PySem.W.subIn K (.ref C_InvalidShape) (.ref C_InvalidShape) = some true)
    (xi_InvalidWidth : PySem.W.isClsIn K C_InvalidWidth = true)
    (xr_InvalidWidth : PySem.W.subIn K (.ref C_InvalidWidth) (.ref C_InvalidWidth) = some true)
    {f__law_next : Addr} {od__law_next an__law_next : Option Addr} {sl__law_next : Array (Option Value)} {oc__law_next kv__law_next dc__law_next pm__law_next cd__law_next ct__law_next : Value}
    (fa__law_next : PySem.W.nsIn K mainGlobals "_law_next" = some (some (.ref f__law_next)))
    (fl__law_next : K.lookup f__law_next = some ⟨oc__law_next, od__law_next, .func (PySem.W.fnOf "_law_next" "_law_next" (defArgs s__law_next) (defBody s__law_next) (defScope s__law_next) .none kv__law_next dc__law_next pm__law_next an__law_next cd__law_next ct__law_next), sl__law_next⟩)
    (fc__law_next : PySem.W.codeIn K cd__law_next "_law_next" = true)
    (fk__law_next : PySem.W.keepIn K (.ref f__law_next) = true)
    {f__law_draw : Addr} {od__law_draw an__law_draw : Option Addr} {sl__law_draw : Array (Option Value)} {oc__law_draw kv__law_draw dc__law_draw pm__law_draw cd__law_draw ct__law_draw : Value}
    (fa__law_draw : PySem.W.nsIn K mainGlobals "_law_draw" = some (some (.ref f__law_draw)))
    (fl__law_draw : K.lookup f__law_draw = some ⟨oc__law_draw, od__law_draw, .func (PySem.W.fnOf "_law_draw" "_law_draw" (defArgs s__law_draw) (defBody s__law_draw) (defScope s__law_draw) .none kv__law_draw dc__law_draw pm__law_draw an__law_draw cd__law_draw ct__law_draw), sl__law_draw⟩)
    (fc__law_draw : PySem.W.codeIn K cd__law_draw "_law_draw" = true)
    (fk__law_draw : PySem.W.keepIn K (.ref f__law_draw) = true)
    {f__law_any : Addr} {od__law_any an__law_any : Option Addr} {sl__law_any : Array (Option Value)} {oc__law_any kv__law_any dc__law_any pm__law_any cd__law_any ct__law_any : Value}
    (fa__law_any : PySem.W.nsIn K mainGlobals "_law_any" = some (some (.ref f__law_any)))
    (fl__law_any : K.lookup f__law_any = some ⟨oc__law_any, od__law_any, .func (PySem.W.fnOf "_law_any" "_law_any" (defArgs s__law_any) (defBody s__law_any) (defScope s__law_any) .none kv__law_any dc__law_any pm__law_any an__law_any cd__law_any ct__law_any), sl__law_any⟩)
    (fc__law_any : PySem.W.codeIn K cd__law_any "_law_any" = true)
    (fk__law_any : PySem.W.keepIn K (.ref f__law_any) = true)
    {f__law_is_whole : Addr} {od__law_is_whole an__law_is_whole : Option Addr} {sl__law_is_whole : Array (Option Value)} {oc__law_is_whole kv__law_is_whole dc__law_is_whole pm__law_is_whole cd__law_is_whole ct__law_is_whole : Value}
    (fa__law_is_whole : PySem.W.nsIn K mainGlobals "_law_is_whole" = some (some (.ref f__law_is_whole)))
    (fl__law_is_whole : K.lookup f__law_is_whole = some ⟨oc__law_is_whole, od__law_is_whole, .func (PySem.W.fnOf "_law_is_whole" "_law_is_whole" (defArgs s__law_is_whole) (defBody s__law_is_whole) (defScope s__law_is_whole) .none kv__law_is_whole dc__law_is_whole pm__law_is_whole an__law_is_whole cd__law_is_whole ct__law_is_whole), sl__law_is_whole⟩)
    (fc__law_is_whole : PySem.W.codeIn K cd__law_is_whole "_law_is_whole" = true)
    (fk__law_is_whole : PySem.W.keepIn K (.ref f__law_is_whole) = true)
    {f__law_pen : Addr} {od__law_pen an__law_pen : Option Addr} {sl__law_pen : Array (Option Value)} {oc__law_pen kv__law_pen dc__law_pen pm__law_pen cd__law_pen ct__law_pen : Value}
    (fa__law_pen : PySem.W.nsIn K mainGlobals "_law_pen" = some (some (.ref f__law_pen)))
    (fl__law_pen : K.lookup f__law_pen = some ⟨oc__law_pen, od__law_pen, .func (PySem.W.fnOf "_law_pen" "_law_pen" (defArgs s__law_pen) (defBody s__law_pen) (defScope s__law_pen) .none kv__law_pen dc__law_pen pm__law_pen an__law_pen cd__law_pen ct__law_pen), sl__law_pen⟩)
    (fc__law_pen : PySem.W.codeIn K cd__law_pen "_law_pen" = true)
    (fk__law_pen : PySem.W.keepIn K (.ref f__law_pen) = true)
    {f__law_word : Addr} {od__law_word an__law_word : Option Addr} {sl__law_word : Array (Option Value)} {oc__law_word kv__law_word dc__law_word pm__law_word cd__law_word ct__law_word : Value}
    (fa__law_word : PySem.W.nsIn K mainGlobals "_law_word" = some (some (.ref f__law_word)))
    (fl__law_word : K.lookup f__law_word = some ⟨oc__law_word, od__law_word, .func (PySem.W.fnOf "_law_word" "_law_word" (defArgs s__law_word) (defBody s__law_word) (defScope s__law_word) .none kv__law_word dc__law_word pm__law_word an__law_word cd__law_word ct__law_word), sl__law_word⟩)
    (fc__law_word : PySem.W.codeIn K cd__law_word "_law_word" = true)
    (fk__law_word : PySem.W.keepIn K (.ref f__law_word) = true)
    {f_buckets_of : Addr} {od_buckets_of an_buckets_of : Option Addr} {sl_buckets_of : Array (Option Value)} {oc_buckets_of kv_buckets_of dc_buckets_of pm_buckets_of cd_buckets_of ct_buckets_of : Value}
    (fa_buckets_of : PySem.W.nsIn K mainGlobals "buckets_of" = some (some (.ref f_buckets_of)))
    (fl_buckets_of : K.lookup f_buckets_of = some ⟨oc_buckets_of, od_buckets_of, .func (PySem.W.fnOf "buckets_of" "buckets_of" (defArgs s_buckets_of) (defBody s_buckets_of) (defScope s_buckets_of) .none kv_buckets_of dc_buckets_of pm_buckets_of an_buckets_of cd_buckets_of ct_buckets_of), sl_buckets_of⟩)
    (fc_buckets_of : PySem.W.codeIn K cd_buckets_of "buckets_of" = true)
    (fk_buckets_of : PySem.W.keepIn K (.ref f_buckets_of) = true)
    {f_is_integer : Addr} {od_is_integer an_is_integer : Option Addr} {sl_is_integer : Array (Option Value)} {oc_is_integer kv_is_integer dc_is_integer pm_is_integer cd_is_integer ct_is_integer : Value}
    (fa_is_integer : PySem.W.nsIn K mainGlobals "is_integer" = some (some (.ref f_is_integer)))
    (fl_is_integer : K.lookup f_is_integer = some ⟨oc_is_integer, od_is_integer, .func (PySem.W.fnOf "is_integer" "is_integer" (defArgs s_is_integer) (defBody s_is_integer) (defScope s_is_integer) .none kv_is_integer dc_is_integer pm_is_integer an_is_integer cd_is_integer ct_is_integer), sl_is_integer⟩)
    (fc_is_integer : PySem.W.codeIn K cd_is_integer "is_integer" = true)
    (fk_is_integer : PySem.W.keepIn K (.ref f_is_integer) = true)
    {f_is_between : Addr} {od_is_between an_is_between : Option Addr} {sl_is_between : Array (Option Value)} {oc_is_between kv_is_between dc_is_between pm_is_between cd_is_between ct_is_between : Value}
    (fa_is_between : PySem.W.nsIn K mainGlobals "is_between" = some (some (.ref f_is_between)))
    (fl_is_between : K.lookup f_is_between = some ⟨oc_is_between, od_is_between, .func (PySem.W.fnOf "is_between" "is_between" (defArgs s_is_between) (defBody s_is_between) (defScope s_is_between) .none kv_is_between dc_is_between pm_is_between an_is_between cd_is_between ct_is_between), sl_is_between⟩)
    (fc_is_between : PySem.W.codeIn K cd_is_between "is_between" = true)
    (fk_is_between : PySem.W.keepIn K (.ref f_is_between) = true)
    {f_is_hash : Addr} {od_is_hash an_is_hash : Option Addr} {sl_is_hash : Array (Option Value)} {oc_is_hash kv_is_hash dc_is_hash pm_is_hash cd_is_hash ct_is_hash : Value}
    (fa_is_hash : PySem.W.nsIn K mainGlobals "is_hash" = some (some (.ref f_is_hash)))
    (fl_is_hash : K.lookup f_is_hash = some ⟨oc_is_hash, od_is_hash, .func (PySem.W.fnOf "is_hash" "is_hash" (defArgs s_is_hash) (defBody s_is_hash) (defScope s_is_hash) .none kv_is_hash dc_is_hash pm_is_hash an_is_hash cd_is_hash ct_is_hash), sl_is_hash⟩)
    (fc_is_hash : PySem.W.codeIn K cd_is_hash "is_hash" = true)
    (fk_is_hash : PySem.W.keepIn K (.ref f_is_hash) = true)
    {f_check_hash : Addr} {od_check_hash an_check_hash : Option Addr} {sl_check_hash : Array (Option Value)} {oc_check_hash kv_check_hash dc_check_hash pm_check_hash cd_check_hash ct_check_hash : Value}
    (fa_check_hash : PySem.W.nsIn K mainGlobals "check_hash" = some (some (.ref f_check_hash)))
    (fl_check_hash : K.lookup f_check_hash = some ⟨oc_check_hash, od_check_hash, .func (PySem.W.fnOf "check_hash" "check_hash" (defArgs s_check_hash) (defBody s_check_hash) (defScope s_check_hash) .none kv_check_hash dc_check_hash pm_check_hash an_check_hash cd_check_hash ct_check_hash), sl_check_hash⟩)
    (fc_check_hash : PySem.W.codeIn K cd_check_hash "check_hash" = true)
    (fk_check_hash : PySem.W.keepIn K (.ref f_check_hash) = true)
    {f_is_width : Addr} {od_is_width an_is_width : Option Addr} {sl_is_width : Array (Option Value)} {oc_is_width kv_is_width dc_is_width pm_is_width cd_is_width ct_is_width : Value}
    (fa_is_width : PySem.W.nsIn K mainGlobals "is_width" = some (some (.ref f_is_width)))
    (fl_is_width : K.lookup f_is_width = some ⟨oc_is_width, od_is_width, .func (PySem.W.fnOf "is_width" "is_width" (defArgs s_is_width) (defBody s_is_width) (defScope s_is_width) .none kv_is_width dc_is_width pm_is_width an_is_width cd_is_width ct_is_width), sl_is_width⟩)
    (fc_is_width : PySem.W.codeIn K cd_is_width "is_width" = true)
    (fk_is_width : PySem.W.keepIn K (.ref f_is_width) = true)
    {f_check_width : Addr} {od_check_width an_check_width : Option Addr} {sl_check_width : Array (Option Value)} {oc_check_width kv_check_width dc_check_width pm_check_width cd_check_width ct_check_width : Value}
    (fa_check_width : PySem.W.nsIn K mainGlobals "check_width" = some (some (.ref f_check_width)))
    (fl_check_width : K.lookup f_check_width = some ⟨oc_check_width, od_check_width, .func (PySem.W.fnOf "check_width" "check_width" (defArgs s_check_width) (defBody s_check_width) (defScope s_check_width) .none kv_check_width dc_check_width pm_check_width an_check_width cd_check_width ct_check_width), sl_check_width⟩)
    (fc_check_width : PySem.W.codeIn K cd_check_width "check_width" = true)
    (fk_check_width : PySem.W.keepIn K (.ref f_check_width) = true)
    {f_bucket : Addr} {od_bucket an_bucket : Option Addr} {sl_bucket : Array (Option Value)} {oc_bucket kv_bucket dc_bucket pm_bucket cd_bucket ct_bucket : Value}
    (fa_bucket : PySem.W.nsIn K mainGlobals "bucket" = some (some (.ref f_bucket)))
    (fl_bucket : K.lookup f_bucket = some ⟨oc_bucket, od_bucket, .func (PySem.W.fnOf "bucket" "bucket" (defArgs s_bucket) (defBody s_bucket) (defScope s_bucket) .none kv_bucket dc_bucket pm_bucket an_bucket cd_bucket ct_bucket), sl_bucket⟩)
    (fc_bucket : PySem.W.codeIn K cd_bucket "bucket" = true)
    (fk_bucket : PySem.W.keepIn K (.ref f_bucket) = true)
    {f__check_number : Addr} {od__check_number an__check_number : Option Addr} {sl__check_number : Array (Option Value)} {oc__check_number kv__check_number dc__check_number pm__check_number cd__check_number ct__check_number : Value}
    (fa__check_number : PySem.W.nsIn K mainGlobals "_check_number" = some (some (.ref f__check_number)))
    (fl__check_number : K.lookup f__check_number = some ⟨oc__check_number, od__check_number, .func (PySem.W.fnOf "_check_number" "_check_number" (defArgs s__check_number) (defBody s__check_number) (defScope s__check_number) .none kv__check_number dc__check_number pm__check_number an__check_number cd__check_number ct__check_number), sl__check_number⟩)
    (fc__check_number : PySem.W.codeIn K cd__check_number "_check_number" = true)
    (fk__check_number : PySem.W.keepIn K (.ref f__check_number) = true)
    {f_turned : Addr} {od_turned an_turned : Option Addr} {sl_turned : Array (Option Value)} {oc_turned kv_turned dc_turned pm_turned cd_turned ct_turned : Value}
    (fa_turned : PySem.W.nsIn K mainGlobals "turned" = some (some (.ref f_turned)))
    (fl_turned : K.lookup f_turned = some ⟨oc_turned, od_turned, .func (PySem.W.fnOf "turned" "turned" (defArgs s_turned) (defBody s_turned) (defScope s_turned) .none kv_turned dc_turned pm_turned an_turned cd_turned ct_turned), sl_turned⟩)
    (fc_turned : PySem.W.codeIn K cd_turned "turned" = true)
    (fk_turned : PySem.W.keepIn K (.ref f_turned) = true)
    {f_within : Addr} {od_within an_within : Option Addr} {sl_within : Array (Option Value)} {oc_within kv_within dc_within pm_within cd_within ct_within : Value}
    (fa_within : PySem.W.nsIn K mainGlobals "within" = some (some (.ref f_within)))
    (fl_within : K.lookup f_within = some ⟨oc_within, od_within, .func (PySem.W.fnOf "within" "within" (defArgs s_within) (defBody s_within) (defScope s_within) .none kv_within dc_within pm_within an_within cd_within ct_within), sl_within⟩)
    (fc_within : PySem.W.codeIn K cd_within "within" = true)
    (fk_within : PySem.W.keepIn K (.ref f_within) = true)
    {f_law : Addr} {od_law an_law : Option Addr} {sl_law : Array (Option Value)} {oc_law kv_law dc_law pm_law cd_law ct_law : Value}
    (fa_law : PySem.W.nsIn K mainGlobals "law" = some (some (.ref f_law)))
    (fl_law : K.lookup f_law = some ⟨oc_law, od_law, .func (PySem.W.fnOf "law" "law" (defArgs s_law) (defBody s_law) (defScope s_law) .none kv_law dc_law pm_law an_law cd_law ct_law), sl_law⟩)
    (fc_law : PySem.W.codeIn K cd_law "law" = true)
    (fk_law : PySem.W.keepIn K (.ref f_law) = true)
    {cL PL : Addr} {ddc : Option Addr} {vsc : Array Value} {slc : Array (Option Value)} {file : Str} {tf tg tt : Tok} {flags text : Int} {inF : Bool}
    (cl_ : cd_law = .ref cL)
    (cv_ : K.lookup cL = some ⟨.type "code", ddc, .fields vsc, slc⟩)
    (c11_ : vsc[11]? = some (.ref PL))
    (c11b_ : vsc.getD 11 .none = .ref PL)
    (c18_ : vsc.getD 18 .none = .str file tf)
    (c7_ : vsc.getD 7 .none = .int flags tg)
    (c9_ : vsc.getD 9 .none = .bool inF)
    (c10_ : vsc.getD 10 .none = .int text tt)
    (cne_ : cL ≠ PL)
    (np_ : K.lookup PL = none)
    : ∃ (g : G) (fd : FuncData) (cs : List (Addr × Addr)), g.K = K ∧ (∀ p ∈ g.T, ∃ c, (c, p.1) ∈ cs) ∧ (∀ p ∈ cs, h.get? p.2 = some { cls := .none, data := .fields #[] }) ∧ (∀ p ∈ cs, K.lookup p.2 = none) ∧ (∀ p ∈ cs, PySem.W.CodeHd h p.1 p.2) ∧ (∀ (s : Shared) (u : Value), BindsTo s fd ⟨[u], []⟩ [("script", u)]) ∧ ∀ base : Heap, K.In base → base.Ns mainGlobals mg → (∃ mm, base.Ns sysModules mm) → (∀ p ∈ cs, LamX.TabB base mg p.1 p.2) → FnG l.prog w K mg base 8 fa fd ["script"] (spM g 1 m_law) := by
  have e0 := hfa.symm.trans (PySem.W.mg_of X G0 fa_law)
  cases e0
  have T : Tx l.prog w K mg (fun n => if n = 0 then C_CursorError else if n = 4 then C_InvalidHash else if n = 5 then C_InvalidNumber else if n = 6 then C_InvalidShape else if n = 3 then C_InvalidWidth else 0) [(PL, (envOfC "law" (defScope s_law) 0 0 .none).qual ++ "<lambda>")] := {
    z_bool := PySem.W.mg_none_of X G0 z_bool,
    z_dict := PySem.W.mg_none_of X G0 z_dict,
    z_int := PySem.W.mg_none_of X G0 z_int,
    z_isinstance := PySem.W.mg_none_of X G0 z_isinstance,
    z_len := PySem.W.mg_none_of X G0 z_len,
    z_list := PySem.W.mg_none_of X G0 z_list,
    z_range := PySem.W.mg_none_of X G0 z_range,
    z_repr := PySem.W.mg_none_of X G0 z_repr,
    z_tuple := PySem.W.mg_none_of X G0 z_tuple,
    c_GREATEST_HASH := ⟨_, PySem.W.mg_of X G0 c_GREATEST_HASH⟩,
    c_GREATEST_WIDTH := ⟨_, PySem.W.mg_of X G0 c_GREATEST_WIDTH⟩,
    e_CursorError := ⟨PySem.W.mg_of X G0 a_CursorError, x_CursorError, k_CursorError, b_CursorError, t_CursorError⟩,
    e_InvalidHash := ⟨PySem.W.mg_of X G0 a_InvalidHash, x_InvalidHash, k_InvalidHash, b_InvalidHash, t_InvalidHash⟩,
    e_InvalidNumber := ⟨PySem.W.mg_of X G0 a_InvalidNumber, x_InvalidNumber, k_InvalidNumber, b_InvalidNumber, t_InvalidNumber⟩,
    e_InvalidShape := ⟨PySem.W.mg_of X G0 a_InvalidShape, x_InvalidShape, k_InvalidShape, b_InvalidShape, t_InvalidShape⟩,
    e_InvalidWidth := ⟨PySem.W.mg_of X G0 a_InvalidWidth, x_InvalidWidth, k_InvalidWidth, b_InvalidWidth, t_InvalidWidth⟩,
    xm := fun c h => (show ∀ c ∈ ([4, 5, 3] : List Nat), PySem.W.exmOne K (.ref ((fun n => if n = 0 then C_CursorError else if n = 4 then C_InvalidHash else if n = 5 then C_InvalidNumber else if n = 6 then C_InvalidShape else if n = 3 then C_InvalidWidth else 0) c)) (.ref C_CursorError) = some true from List.forall_mem_cons.mpr ⟨PySem.W.exm_ref b_CursorError xd_CursorError t_CursorError xs_InvalidHash, List.forall_mem_cons.mpr ⟨PySem.W.exm_ref b_CursorError xd_CursorError t_CursorError xs_InvalidNumber, List.forall_mem_cons.mpr ⟨PySem.W.exm_ref b_CursorError xd_CursorError t_CursorError xs_InvalidWidth, fun _ h => nomatch h⟩⟩⟩) c (of_decide_eq_true h),
    xt := tb_mk (g := gg l.prog w K (fun n => if n = 0 then C_CursorError else if n = 4 then C_InvalidHash else if n = 5 then C_InvalidNumber else if n = 6 then C_InvalidShape else if n = 3 then C_InvalidWidth else 0) [(PL, (envOfC "law" (defScope s_law) 0 0 .none).qual ++ "<lambda>")]) (List.forall_mem_cons.mpr ⟨⟨xg_InvalidHash, xk_InvalidHash, b_InvalidHash, xd_InvalidHash, xa_InvalidHash, xn_, xt_, xo_InvalidHash⟩, List.forall_mem_cons.mpr ⟨⟨xg_InvalidNumber, xk_InvalidNumber, b_InvalidNumber, xd_InvalidNumber, xa_InvalidNumber, xn_, xt_, xo_InvalidNumber⟩, List.forall_mem_cons.mpr ⟨⟨xg_InvalidWidth, xk_InvalidWidth, b_InvalidWidth, xd_InvalidWidth, xa_InvalidWidth, xn_, xt_, xo_InvalidWidth⟩, fun _ h => nomatch h⟩⟩⟩) (List.forall_mem_cons.mpr ⟨List.forall_mem_cons.mpr ⟨fun ne => absurd rfl ne, List.forall_mem_cons.mpr ⟨fun _ => kit_sub xi_InvalidNumber t_InvalidNumber xq_InvalidHash_InvalidNumber (ne_sub xq_InvalidHash_InvalidNumber xr_InvalidNumber), List.forall_mem_cons.mpr ⟨fun _ => kit_sub xi_InvalidShape t_InvalidShape xq_InvalidHash_InvalidShape (ne_sub xq_InvalidHash_InvalidShape xr_InvalidShape), List.forall_mem_cons.mpr ⟨fun _ => kit_sub xi_InvalidWidth t_InvalidWidth xq_InvalidHash_InvalidWidth (ne_sub xq_InvalidHash_InvalidWidth xr_InvalidWidth), fun _ h => nomatch h⟩⟩⟩⟩, List.forall_mem_cons.mpr ⟨List.forall_mem_cons.mpr ⟨fun _ => kit_sub xi_InvalidHash t_InvalidHash xq_InvalidNumber_InvalidHash (ne_sub xq_InvalidNumber_InvalidHash xr_InvalidHash), List.forall_mem_cons.mpr ⟨fun ne => absurd rfl ne, List.forall_mem_cons.mpr ⟨fun _ => kit_sub xi_InvalidShape t_InvalidShape xq_InvalidNumber_InvalidShape (ne_sub xq_InvalidNumber_InvalidShape xr_InvalidShape), List.forall_mem_cons.mpr ⟨fun _ => kit_sub xi_InvalidWidth t_InvalidWidth xq_InvalidNumber_InvalidWidth (ne_sub xq_InvalidNumber_InvalidWidth xr_InvalidWidth), fun _ h => nomatch h⟩⟩⟩⟩, List.forall_mem_cons.mpr ⟨List.forall_mem_cons.mpr ⟨fun _ => kit_sub xi_InvalidHash t_InvalidHash xq_InvalidWidth_InvalidHash (ne_sub xq_InvalidWidth_InvalidHash xr_InvalidHash), List.forall_mem_cons.mpr ⟨fun _ => kit_sub xi_InvalidNumber t_InvalidNumber xq_InvalidWidth_InvalidNumber (ne_sub xq_InvalidWidth_InvalidNumber xr_InvalidNumber), List.forall_mem_cons.mpr ⟨fun _ => kit_sub xi_InvalidShape t_InvalidShape xq_InvalidWidth_InvalidShape (ne_sub xq_InvalidWidth_InvalidShape xr_InvalidShape), List.forall_mem_cons.mpr ⟨fun ne => absurd rfl ne, fun _ h => nomatch h⟩⟩⟩⟩, fun _ h => nomatch h⟩⟩⟩) }
  have F__law_next : FnT K mg "_law_next" "_law_next" s__law_next ["pen"] _ _ := ⟨fun_mk (st := s__law_next) fl__law_next fc__law_next fk__law_next, PySem.W.mg_of X G0 fa__law_next, (fun_mk (st := s__law_next) fl__law_next fc__law_next fk__law_next).binds (ps := ["pen"]) fun _ _ _ _ _ _ us hl => match us, hl with | [_], _ => rfl⟩
  have F__law_draw : FnT K mg "_law_draw" "_law_draw" s__law_draw ["pen", "under"] _ _ := ⟨fun_mk (st := s__law_draw) fl__law_draw fc__law_draw fk__law_draw, PySem.W.mg_of X G0 fa__law_draw, (fun_mk (st := s__law_draw) fl__law_draw fc__law_draw fk__law_draw).binds (ps := ["pen", "under"]) fun _ _ _ _ _ _ us hl => match us, hl with | [_, _], _ => rfl⟩
  have F__law_any : FnT K mg "_law_any" "_law_any" s__law_any ["pen", "levels"] _ _ := ⟨fun_mk (st := s__law_any) fl__law_any fc__law_any fk__law_any, PySem.W.mg_of X G0 fa__law_any, (fun_mk (st := s__law_any) fl__law_any fc__law_any fk__law_any).binds (ps := ["pen", "levels"]) fun _ _ _ _ _ _ us hl => match us, hl with | [_, _], _ => rfl⟩
  have F__law_is_whole : FnT K mg "_law_is_whole" "_law_is_whole" s__law_is_whole ["thing", "under"] _ _ := ⟨fun_mk (st := s__law_is_whole) fl__law_is_whole fc__law_is_whole fk__law_is_whole, PySem.W.mg_of X G0 fa__law_is_whole, (fun_mk (st := s__law_is_whole) fl__law_is_whole fc__law_is_whole fk__law_is_whole).binds (ps := ["thing", "under"]) fun _ _ _ _ _ _ us hl => match us, hl with | [_, _], _ => rfl⟩
  have F__law_pen : FnT K mg "_law_pen" "_law_pen" s__law_pen ["script"] _ _ := ⟨fun_mk (st := s__law_pen) fl__law_pen fc__law_pen fk__law_pen, PySem.W.mg_of X G0 fa__law_pen, (fun_mk (st := s__law_pen) fl__law_pen fc__law_pen fk__law_pen).binds (ps := ["script"]) fun _ _ _ _ _ _ us hl => match us, hl with | [_], _ => rfl⟩
  have F__law_word : FnT K mg "_law_word" "_law_word" s__law_word ["act"] _ _ := ⟨fun_mk (st := s__law_word) fl__law_word fc__law_word fk__law_word, PySem.W.mg_of X G0 fa__law_word, (fun_mk (st := s__law_word) fl__law_word fc__law_word fk__law_word).binds (ps := ["act"]) fun _ _ _ _ _ _ us hl => match us, hl with | [_], _ => rfl⟩
  have F_buckets_of : FnT K mg "buckets_of" "buckets_of" s_buckets_of ["width"] _ _ := ⟨fun_mk (st := s_buckets_of) fl_buckets_of fc_buckets_of fk_buckets_of, PySem.W.mg_of X G0 fa_buckets_of, (fun_mk (st := s_buckets_of) fl_buckets_of fc_buckets_of fk_buckets_of).binds (ps := ["width"]) fun _ _ _ _ _ _ us hl => match us, hl with | [_], _ => rfl⟩
  have F_is_integer : FnT K mg "is_integer" "is_integer" s_is_integer ["thing"] _ _ := ⟨fun_mk (st := s_is_integer) fl_is_integer fc_is_integer fk_is_integer, PySem.W.mg_of X G0 fa_is_integer, (fun_mk (st := s_is_integer) fl_is_integer fc_is_integer fk_is_integer).binds (ps := ["thing"]) fun _ _ _ _ _ _ us hl => match us, hl with | [_], _ => rfl⟩
  have F_is_between : FnT K mg "is_between" "is_between" s_is_between ["thing", "low", "high"] _ _ := ⟨fun_mk (st := s_is_between) fl_is_between fc_is_between fk_is_between, PySem.W.mg_of X G0 fa_is_between, (fun_mk (st := s_is_between) fl_is_between fc_is_between fk_is_between).binds (ps := ["thing", "low", "high"]) fun _ _ _ _ _ _ us hl => match us, hl with | [_, _, _], _ => rfl⟩
  have F_is_hash : FnT K mg "is_hash" "is_hash" s_is_hash ["thing"] _ _ := ⟨fun_mk (st := s_is_hash) fl_is_hash fc_is_hash fk_is_hash, PySem.W.mg_of X G0 fa_is_hash, (fun_mk (st := s_is_hash) fl_is_hash fc_is_hash fk_is_hash).binds (ps := ["thing"]) fun _ _ _ _ _ _ us hl => match us, hl with | [_], _ => rfl⟩
  have F_check_hash : FnT K mg "check_hash" "check_hash" s_check_hash ["code"] _ _ := ⟨fun_mk (st := s_check_hash) fl_check_hash fc_check_hash fk_check_hash, PySem.W.mg_of X G0 fa_check_hash, (fun_mk (st := s_check_hash) fl_check_hash fc_check_hash fk_check_hash).binds (ps := ["code"]) fun _ _ _ _ _ _ us hl => match us, hl with | [_], _ => rfl⟩
  have F_is_width : FnT K mg "is_width" "is_width" s_is_width ["thing"] _ _ := ⟨fun_mk (st := s_is_width) fl_is_width fc_is_width fk_is_width, PySem.W.mg_of X G0 fa_is_width, (fun_mk (st := s_is_width) fl_is_width fc_is_width fk_is_width).binds (ps := ["thing"]) fun _ _ _ _ _ _ us hl => match us, hl with | [_], _ => rfl⟩
  have F_check_width : FnT K mg "check_width" "check_width" s_check_width ["width"] _ _ := ⟨fun_mk (st := s_check_width) fl_check_width fc_check_width fk_check_width, PySem.W.mg_of X G0 fa_check_width, (fun_mk (st := s_check_width) fl_check_width fc_check_width fk_check_width).binds (ps := ["width"]) fun _ _ _ _ _ _ us hl => match us, hl with | [_], _ => rfl⟩
  have F_bucket : FnT K mg "bucket" "bucket" s_bucket ["code", "width"] _ _ := ⟨fun_mk (st := s_bucket) fl_bucket fc_bucket fk_bucket, PySem.W.mg_of X G0 fa_bucket, (fun_mk (st := s_bucket) fl_bucket fc_bucket fk_bucket).binds (ps := ["code", "width"]) fun _ _ _ _ _ _ us hl => match us, hl with | [_, _], _ => rfl⟩
  have F__check_number : FnT K mg "_check_number" "_check_number" s__check_number ["number", "width"] _ _ := ⟨fun_mk (st := s__check_number) fl__check_number fc__check_number fk__check_number, PySem.W.mg_of X G0 fa__check_number, (fun_mk (st := s__check_number) fl__check_number fc__check_number fk__check_number).binds (ps := ["number", "width"]) fun _ _ _ _ _ _ us hl => match us, hl with | [_, _], _ => rfl⟩
  have F_turned : FnT K mg "turned" "turned" s_turned ["number", "width"] _ _ := ⟨fun_mk (st := s_turned) fl_turned fc_turned fk_turned, PySem.W.mg_of X G0 fa_turned, (fun_mk (st := s_turned) fl_turned fc_turned fk_turned).binds (ps := ["number", "width"]) fun _ _ _ _ _ _ us hl => match us, hl with | [_, _], _ => rfl⟩
  have F_within : FnT K mg "within" "within" s_within ["number", "small", "large"] _ _ := ⟨fun_mk (st := s_within) fl_within fc_within fk_within, PySem.W.mg_of X G0 fa_within, (fun_mk (st := s_within) fl_within fc_within fk_within).binds (ps := ["number", "small", "large"]) fun _ _ _ _ _ _ us hl => match us, hl with | [_, _, _], _ => rfl⟩
  have F_law : FnT K mg "law" "law" s_law ["script"] _ _ := ⟨fun_mk (st := s_law) fl_law fc_law fk_law, PySem.W.mg_of X G0 fa_law, (fun_mk (st := s_law) fl_law fc_law fk_law).binds (ps := ["script"]) fun _ _ _ _ _ _ us hl => match us, hl with | [_], _ => rfl⟩
  refine ⟨gg l.prog w K (fun n => if n = 0 then C_CursorError else if n = 4 then C_InvalidHash else if n = 5 then C_InvalidNumber else if n = 6 then C_InvalidShape else if n = 3 then C_InvalidWidth else 0) [(PL, (envOfC "law" (defScope s_law) 0 0 .none).qual ++ "<lambda>")], PySem.W.fnOf "law" "law" (defArgs s_law) (defBody s_law) (defScope s_law) .none kv_law dc_law pm_law an_law cd_law ct_law, [(cL, PL)], rfl, (fun p hp => ⟨cL, by rw [List.mem_singleton.mp hp]; exact .head _⟩), (fun p hp => by rw [List.mem_singleton.mp hp]; exact own cL PL _ _ _ _ _ _ fl_law rfl cl_ cv_ c11_), (fun p hp => by rw [List.mem_singleton.mp hp]; exact np_), (fun p hp => by rw [List.mem_singleton.mp hp]; exact ⟨_, vsc, file, tf, flags, tg, inF, text, tt, X _ _ cv_, rfl, rfl, c11_, c11b_, c18_, c7_, c9_, c10_, cne_⟩), fun s v => .of_eq rfl, fun base _ _ hsm0 hTB => ?_⟩
  have hsm := sm_of hsm0
  have C__law_next := F__law_next.cal (P := l.prog) (w := w) (base := base) (ok__law_next hsm T F__law_next )
  have C__law_draw := F__law_draw.cal (P := l.prog) (w := w) (base := base) (ok__law_draw hsm T F__law_draw C__law_next)
  have C__law_any := F__law_any.cal (P := l.prog) (w := w) (base := base) (ok__law_any hsm T F__law_any C__law_draw 3)
  have C__law_is_whole := F__law_is_whole.cal (P := l.prog) (w := w) (base := base) (ok__law_is_whole hsm T F__law_is_whole )
  have C__law_pen := F__law_pen.cal (P := l.prog) (w := w) (base := base) (ok__law_pen hsm T F__law_pen )
  have C_buckets_of := F_buckets_of.cal (P := l.prog) (w := w) (base := base) (ok_buckets_of hsm T F_buckets_of )
  have C_is_integer := F_is_integer.cal (P := l.prog) (w := w) (base := base) (ok_is_integer hsm T F_is_integer )
  have C_is_between := F_is_between.cal (P := l.prog) (w := w) (base := base) (ok_is_between hsm T F_is_between C_is_integer)
  have C_is_hash := F_is_hash.cal (P := l.prog) (w := w) (base := base) (ok_is_hash hsm T F_is_hash C_is_between)
  have C_check_hash := F_check_hash.cal (P := l.prog) (w := w) (base := base) (ok_check_hash hsm T F_check_hash C_is_hash)
  have C_is_width := F_is_width.cal (P := l.prog) (w := w) (base := base) (ok_is_width hsm T F_is_width C_is_between)
  have C_check_width := F_check_width.cal (P := l.prog) (w := w) (base := base) (ok_check_width hsm T F_check_width C_is_width)
  have C_bucket := F_bucket.cal (P := l.prog) (w := w) (base := base) (ok_bucket hsm T F_bucket C_buckets_of C_check_hash C_check_width)
  have C__check_number := F__check_number.cal (P := l.prog) (w := w) (base := base) (ok__check_number hsm T F__check_number C_buckets_of C_is_between)
  have C_turned := F_turned.cal (P := l.prog) (w := w) (base := base) (ok_turned hsm T F_turned C__check_number C_check_width)
  have C_within := F_within.cal (P := l.prog) (w := w) (base := base) (ok_within hsm T F_within C__check_number C_buckets_of C_check_width)
  exact ok_law hsm T F_law cl_ (hTB _ (.head _)) rfl C__law_any C__law_draw C__law_is_whole C__law_pen C_bucket C_is_hash C_is_width C_turned C_within F__law_word
end Law
namespace Law
open PySem PySem.Spec PyProof.Rows L2 Rz PySem.W
theorem w__law_next {a0 : Va} {S : Sto} {Q : Va → Sto → Prop} {E : Xp} (h : wo ((sseq (sset 1 (xbin oIx (xvar 0) (xlit (.int 1))))
  (sseq (ssub (xvar 0) (xlit (.int 1)) (xbin oAdd (xvar 1) (xlit (.int 1))))
  (sseq (sset 2 (xbin oAdd (xbin oMul (xvar 1) (xlit (.int 1051))) (xlit (.int 53))))
  (sseq (sif (xbinB cNe (xbin oIx (xvar 0) (xlit (.int 0))) (xlst anil)) (sset 2 (xbin oIx (xbin oIx (xvar 0) (xlit (.int 0))) (xbin oMod (xcall fInt (acons (xvar 1) anil)) (xcall fLen (acons (xbin oIx (xvar 0) (xlit (.int 0))) anil))))) snext)
  (sseq (sif (xand (xbinB cLt (xvar 1) (xcall fLen (acons (xbin oIx (xvar 0) (xlit (.int 0))) anil))) (xbinB cGe (xvar 2) (xbin oPow (xlit (.int 10)) (xlit (.int 18))))) (sret (xvar 2)) snext)
  (sseq (sset 3 (xbin oMod (xcall fInt (acons (xbin oAdd (xbin oAdd (xbin oMod (xcall fInt (acons (xvar 2) anil)) (xlit (.int 2147483587))) (xbin oMul (xvar 1) (xlit (.int 30103)))) (xlit (.int 79))) anil)) (xlit (.int 2147483587))))
  (sseq (sset 4 (xbin oMod (xcall fInt (acons (xbin oAdd (xbin oAdd (xbin oMul (xvar 3) (xvar 3)) (xbin oMul (xvar 1) (xlit (.int 70039)))) (xlit (.int 61))) anil)) (xlit (.int 2147483563))))
  (sseq (sset 5 (xbin oMod (xcall fInt (acons (xbin oAdd (xbin oAdd (xbin oMul (xvar 4) (xvar 4)) (xvar 3)) (xbin oMul (xbin oMul (xvar 1) (xvar 1)) (xlit (.int 37)))) anil)) (xlit (.int 2147483549))))
  (sret (xbin oAdd (xbin oMul (xbin oAdd (xbin oMul (xvar 5) (xlit (.int 2147483587))) (xvar 4)) (xlit (.int 2147483563))) (xvar 3))))))))))) [some a0, none, none, none, none, none] S) (fun _ S1 => Q .non S1) (fnK Q E)) : wr (m__law_next [a0] S) Q E := fn_wo (k := 6) (b := b__law_next) rfl h
theorem w__law_draw {a0 a1 : Va} {S : Sto} {Q : Va → Sto → Prop} {E : Xp} (h : wo ((sseq (sif (xbinB cLt (xbin oIx (xvar 0) (xlit (.int 2))) (xvar 1)) (ssub (xvar 0) (xlit (.int 2)) (ycall 1 m__law_next (acons (xvar 0) anil))) snext)
  (sseq (sset 2 (xbin oMod (xcall fInt (acons (xbin oIx (xvar 0) (xlit (.int 2))) anil)) (xvar 1)))
  (sseq (ssub (xvar 0) (xlit (.int 2)) (xbin oDiv (xbin oIx (xvar 0) (xlit (.int 2))) (xvar 1)))
  (sret (xvar 2))))) [some a0, some a1, none] S) (fun _ S1 => Q .non S1) (fnK Q E)) : wr (m__law_draw [a0, a1] S) Q E := fn_wo (k := 3) (b := b__law_draw) rfl h
theorem w__law_is_whole {a0 a1 : Va} {S : Sto} {Q : Va → Sto → Prop} {E : Xp} (h : wo ((sret (xandV (xcall fIsi (acons (xvar 0) (acons (xlit (.ty 2)) anil))) (xandV (xnotV (xcall fIsi (acons (xvar 0) (acons (xlit (.ty 1)) anil)))) (xboo (xchain cLe cLt (xlit (.int 0)) (xvar 0) (xvar 1)))))) [some a0, some a1] S) (fun _ S1 => Q .non S1) (fnK Q E)) : wr (m__law_is_whole [a0, a1] S) Q E := fn_wo (k := 2) (b := b__law_is_whole) rfl h
theorem w__law_pen {a0 : Va} {S : Sto} {Q : Va → Sto → Prop} {E : Xp} (h : wo ((sret (xlst (acons (xcall fList (acons (xslice (xvar 0) xnop (xpart (xlit (.int 60)))) anil)) (acons (xlit (.int 0)) (acons (xlit (.int 0)) anil))))) [some a0] S) (fun _ S1 => Q .non S1) (fnK Q E)) : wr (m__law_pen [a0] S) Q E := fn_wo (k := 1) (b := b__law_pen) rfl h
theorem w_buckets_of {a0 : Va} {S : Sto} {Q : Va → Sto → Prop} {E : Xp} (h : wo ((sret (xbin oShl (xlit (.int 1)) (xvar 0))) [some a0] S) (fun _ S1 => Q .non S1) (fnK Q E)) : wr (m_buckets_of [a0] S) Q E := fn_wo (k := 1) (b := b_buckets_of) rfl h
theorem w_is_integer {a0 : Va} {S : Sto} {Q : Va → Sto → Prop} {E : Xp} (h : wo ((sret (xandV (xcall fIsi (acons (xvar 0) (acons (xlit (.ty 2)) anil))) (xnotV (xcall fIsi (acons (xvar 0) (acons (xlit (.ty 1)) anil)))))) [some a0] S) (fun _ S1 => Q .non S1) (fnK Q E)) : wr (m_is_integer [a0] S) Q E := fn_wo (k := 1) (b := b_is_integer) rfl h
theorem w_is_between {a0 a1 a2 : Va} {S : Sto} {Q : Va → Sto → Prop} {E : Xp} (h : wo ((sret (xandV (ycall 1 m_is_integer (acons (xvar 0) anil)) (xboo (xchain cLe cLe (xvar 1) (xvar 0) (xvar 2))))) [some a0, some a1, some a2] S) (fun _ S1 => Q .non S1) (fnK Q E)) : wr (m_is_between [a0, a1, a2] S) Q E := fn_wo (k := 3) (b := b_is_between) rfl h
theorem w_is_hash {a0 : Va} {S : Sto} {Q : Va → Sto → Prop} {E : Xp} (h : wo ((sret (ycall 3 m_is_between (acons (xvar 0) (acons (xlit (.int 0)) (acons (xlit (.int 31)) anil))))) [some a0] S) (fun _ S1 => Q .non S1) (fnK Q E)) : wr (m_is_hash [a0] S) Q E := fn_wo (k := 1) (b := b_is_hash) rfl h
theorem w_check_hash {a0 : Va} {S : Sto} {Q : Va → Sto → Prop} {E : Xp} (h : wo ((sif (xnot (xtru (ycall 1 m_is_hash (acons (xvar 0) anil)))) (sraise 4) snext) [some a0] S) (fun _ S1 => Q .non S1) (fnK Q E)) : wr (m_check_hash [a0] S) Q E := fn_wo (k := 1) (b := b_check_hash) rfl h
theorem w_is_width {a0 : Va} {S : Sto} {Q : Va → Sto → Prop} {E : Xp} (h : wo ((sret (ycall 3 m_is_between (acons (xvar 0) (acons (xlit (.int 0)) (acons (xlit (.int 5)) anil))))) [some a0] S) (fun _ S1 => Q .non S1) (fnK Q E)) : wr (m_is_width [a0] S) Q E := fn_wo (k := 1) (b := b_is_width) rfl h
theorem w_check_width {a0 : Va} {S : Sto} {Q : Va → Sto → Prop} {E : Xp} (h : wo ((sif (xnot (xtru (ycall 1 m_is_width (acons (xvar 0) anil)))) (sraise 3) snext) [some a0] S) (fun _ S1 => Q .non S1) (fnK Q E)) : wr (m_check_width [a0] S) Q E := fn_wo (k := 1) (b := b_check_width) rfl h
theorem w_bucket {a0 a1 : Va} {S : Sto} {Q : Va → Sto → Prop} {E : Xp} (h : wo ((sseq (sexp (ycall 1 m_check_width (acons (xvar 1) anil)))
  (sseq (sexp (ycall 1 m_check_hash (acons (xvar 0) anil)))
  (sret (xbin oMod (xvar 0) (ycall 1 m_buckets_of (acons (xvar 1) anil)))))) [some a0, some a1] S) (fun _ S1 => Q .non S1) (fnK Q E)) : wr (m_bucket [a0, a1] S) Q E := fn_wo (k := 2) (b := b_bucket) rfl h
theorem w__check_number {a0 a1 : Va} {S : Sto} {Q : Va → Sto → Prop} {E : Xp} (h : wo ((sif (xnot (xtru (ycall 3 m_is_between (acons (xvar 0) (acons (xlit (.int 0)) (acons (xbin oSub (ycall 1 m_buckets_of (acons (xvar 1) anil)) (xlit (.int 1))) anil)))))) (sraise 5) snext) [some a0, some a1] S) (fun _ S1 => Q .non S1) (fnK Q E)) : wr (m__check_number [a0, a1] S) Q E := fn_wo (k := 2) (b := b__check_number) rfl h
theorem w_turned {a0 a1 : Va} {S : Sto} {Q : Va → Sto → Prop} {E : Xp} (h : wo ((sseq (sexp (ycall 1 m_check_width (acons (xvar 1) anil)))
  (sseq (sexp (ycall 2 m__check_number (acons (xvar 0) (acons (xvar 1) anil))))
  (sseq (sset 2 (xvar 0))
  (sseq (sset 3 (xlit (.int 0)))
  (sseq (sfor (irg1 (xvar 1)) (pname 4) l_turned_0)
  (sret (xvar 3))))))) [some a0, some a1, none, none, none] S) (fun _ S1 => Q .non S1) (fnK Q E)) : wr (m_turned [a0, a1] S) Q E := fn_wo (k := 5) (b := b_turned) rfl h
theorem w_within {a0 a1 a2 : Va} {S : Sto} {Q : Va → Sto → Prop} {E : Xp} (h : wo ((sseq (sexp (ycall 1 m_check_width (acons (xvar 1) anil)))
  (sseq (sexp (ycall 1 m_check_width (acons (xvar 2) anil)))
  (sseq (sexp (ycall 2 m__check_number (acons (xvar 0) (acons (xvar 1) anil))))
  (sseq (sif (xbinB cGt (xvar 1) (xvar 2)) (sraise 5) snext)
  (sret (xcall fLR3 (acons (xvar 0) (acons (ycall 1 m_buckets_of (acons (xvar 2) anil)) (acons (ycall 1 m_buckets_of (acons (xvar 1) anil)) anil))))))))) [some a0, some a1, some a2] S) (fun _ S1 => Q .non S1) (fnK Q E)) : wr (m_within [a0, a1, a2] S) Q E := fn_wo (k := 3) (b := b_within) rfl h
theorem w_law {a0 : Va} {S : Sto} {Q : Va → Sto → Prop} {E : Xp} (h : wo ((sseq (sset 1 (ycall 1 m__law_pen (acons (xvar 0) anil)))
  (sseq (sset 2 (xlst (acons (xlit (.int 1)) (acons (xlit (.int 2)) (acons (xlit (.int 4)) (acons (xlit (.int 8)) (acons (xlit (.int 16)) (acons (xlit (.int 32)) anil))))))))
  (sseq (sfor (irg1 (xlit (.int 60))) (pname 3) l_law_0)
  (sret (xlit (.bl true)))))) [some a0, none, none, none, none, none, none, none, none, none, none] S) (fun _ S1 => Q .non S1) (fnK Q E)) : wr (m_law [a0] S) Q E := fn_wo (k := 11) (b := b_law) rfl h
theorem wl_law_0 {δ : Rz.Env} {S : Sto} {N : Rz.Env → Sto → Prop} {K : Ke} (h : wo ((sseq (sset 4 (xlst (acons (xlit (.int 0)) (acons (xlit (.int 1)) (acons (xlit (.int 2)) (acons (xlit (.int 3)) (acons (xlit (.int 4)) (acons (xlit (.int 5)) (acons (xlit (.int 6)) (acons (xlit (.int 7)) (acons (xlit (.int 8)) (acons (xlit (.int 15)) (acons (xlit (.int 16)) (acons (xlit (.int 31)) (acons (xlit (.int 32)) (acons (xun oNeg (xlit (.int 1))) (acons (xlit (.bl true)) (acons (xlit (.bl false)) (acons (xlit .non) (acons (xlit (.str "1")) (acons (xlit (.str "")) (acons (xlst (acons (xlit (.int 1)) anil)) (acons (xtup (acons (xlit (.int 1)) anil)) (acons xdictI0 (acons (xbin oPow (xlit (.int 10)) (xlit (.int 39))) anil)))))))))))))))))))))))))
  (sseq (sexp (xmetL oApp (xvar 4) (acons (ycall 2 m__law_any (acons (xvar 1) (acons (xlit (.int 2)) anil))) anil)))
  (sseq (sunl 3 (pcons (pname 7) (pcons (pname 8) (pcons (pname 9) pnil))) (xcomp [10] (irg1 (xlit (.int 3))) (pname 10) xyes (xbin oIx (xvar 4) (ycall 2 m__law_draw (acons (xvar 1) (acons (xlit (.int 24)) anil))))))
  (sseq (sset 5 (xcall fReprY (acons (xlst (acons (xvar 7) (acons (xvar 8) (acons (xvar 9) anil)))) anil)))
  (sseq (sif (xbinB cNe (xcall fReprY (acons (xlst (acons (ycall 1 m_is_width (acons (xvar 7) anil)) (acons (ycall 1 m_is_hash (acons (xvar 7) anil)) anil))) anil)) (xcall fReprY (acons (xlst (acons (ycall 2 m__law_is_whole (acons (xvar 7) (acons (xlit (.int 6)) anil))) (acons (ycall 2 m__law_is_whole (acons (xvar 7) (acons (xlit (.int 32)) anil))) anil))) anil))) (sret (xlit (.bl false))) snext)
  (sseq (sset 6 (xite (xnot (xtru (ycall 2 m__law_is_whole (acons (xvar 8) (acons (xlit (.int 6)) anil))))) (xlit (.str "width")) (xite (xtru (ycall 2 m__law_is_whole (acons (xvar 7) (acons (xlit (.int 32)) anil)))) (xlit (.str "")) (xlit (.str "hash")))))
  (sseq (sif (xbinB cNe (ylam exmT 4 1 b__law_word (ycall 2 m_bucket (acons (xvar 7) (acons (xvar 8) anil)))) (xvar 6)) (sret (xlit (.bl false))) snext)
  (sseq (sset 6 (xite (xnot (xtru (ycall 2 m__law_is_whole (acons (xvar 8) (acons (xlit (.int 6)) anil))))) (xlit (.str "width")) (xite (xtru (ycall 2 m__law_is_whole (acons (xvar 7) (acons (xbin oIx (xvar 2) (xvar 8)) anil)))) (xlit (.str "")) (xlit (.str "number")))))
  (sseq (sif (xbinB cNe (ylam exmT 4 1 b__law_word (ycall 2 m_turned (acons (xvar 7) (acons (xvar 8) anil)))) (xvar 6)) (sret (xlit (.bl false))) snext)
  (sseq (sset 6 (xlit (.str "")))
  (sseq (sif (xor (xnot (xtru (ycall 2 m__law_is_whole (acons (xvar 8) (acons (xlit (.int 6)) anil))))) (xnot (xtru (ycall 2 m__law_is_whole (acons (xvar 9) (acons (xlit (.int 6)) anil)))))) (sset 6 (xlit (.str "width"))) (sif (xor (xbinB cGt (xvar 8) (xvar 9)) (xnot (xtru (ycall 2 m__law_is_whole (acons (xvar 7) (acons (xbin oIx (xvar 2) (xvar 8)) anil)))))) (sset 6 (xlit (.str "number"))) snext))
  (sif (xor (xbinB cNe (ylam exmT 4 1 b__law_word (ycall 3 m_within (acons (xvar 7) (acons (xvar 8) (acons (xvar 9) anil))))) (xvar 6)) (xbinB cNe (xcall fReprY (acons (xlst (acons (xvar 7) (acons (xvar 8) (acons (xvar 9) anil)))) anil)) (xvar 5))) (sret (xlit (.bl false))) snext)))))))))))) δ S) N K) : wo (l_law_0 δ S) N K := h
theorem wl_turned_0 {δ : Rz.Env} {S : Sto} {N : Rz.Env → Sto → Prop} {K : Ke} (h : wo ((sseq (sset 3 (xbin oAdd (xbin oMul (xvar 3) (xlit (.int 2))) (xbin oMod (xvar 2) (xlit (.int 2)))))
  (sset 2 (xbin oDiv (xvar 2) (xlit (.int 2))))) δ S) N K) : wo (l_turned_0 δ S) N K := h
end Law
namespace Law
open PySem L2 Rz
/-- a pen at p; at most n draws were made -/
def Pen (S : Sto) (p n : Nat) : Prop := ∃ (l : Nat) (cs : List Int) (idx d : Int), l < p ∧ S[p]? = some (.lst [.loc l, .int idx, .int d]) ∧ S[l]? = some (.lst (cs.map .int)) ∧ 0 ≤ idx ∧ idx ≤ n
theorem Pen.keep {S S' : Sto} {p n : Nat} (h : Pen S p n) (k : Keep S S') : Pen S' p n := by
  obtain ⟨l, cs, idx, d, h1, h2, h3, h4⟩ := h
  exact ⟨l, cs, idx, d, h1, k _ _ h2, k _ _ h3, h4⟩
theorem pen0 {ws : List Va} {l : Nat} {i d : Int} : atI [Va.loc l, .int i, .int d] 0 = some (.loc l) := rfl
theorem pen1 {ws : List Va} {l : Nat} {i d : Int} : atI [Va.loc l, .int i, .int d] 1 = some (.int i) := rfl
theorem pen2 {ws : List Va} {l : Nat} {i d : Int} : atI [Va.loc l, .int i, .int d] 2 = some (.int d) := rfl
theorem mulc {i j : Int} (S : Sto) (h1 : -(2 ^ 64) < j) (h2 : j < 2 ^ 64) : oMul (.int i) (.int j) S = .ok (.int (i * j)) S := oMul_r S h1 h2
/-- what the last part of law_next gives, whatever the cell -/
theorem next_tail (p : Nat) (idx c : Int) (h0 : 0 ≤ idx) (h1 : idx < 4294967296) (S : Sto) (d3 d4 d5 : Option Va) : ∃ v : Int, (sseq (sset 3 (xbin oMod (xcall fInt (acons (xbin oAdd (xbin oAdd (xbin oMod (xcall fInt (acons (xvar 2) anil)) (xlit (.int 2147483587))) (xbin oMul (xvar 1) (xlit (.int 30103)))) (xlit (.int 79))) anil)) (xlit (.int 2147483587))))
  (sseq (sset 4 (xbin oMod (xcall fInt (acons (xbin oAdd (xbin oAdd (xbin oMul (xvar 3) (xvar 3)) (xbin oMul (xvar 1) (xlit (.int 70039)))) (xlit (.int 61))) anil)) (xlit (.int 2147483563))))
  (sseq (sset 5 (xbin oMod (xcall fInt (acons (xbin oAdd (xbin oAdd (xbin oMul (xvar 4) (xvar 4)) (xvar 3)) (xbin oMul (xbin oMul (xvar 1) (xvar 1)) (xlit (.int 37)))) anil)) (xlit (.int 2147483549))))
  (sret (xbin oAdd (xbin oMul (xbin oAdd (xbin oMul (xvar 5) (xlit (.int 2147483587))) (xvar 4)) (xlit (.int 2147483563))) (xvar 3)))))) [some (.loc p), some (.int idx), some (.int c), d3, d4, d5] S = .rt (.int v) S ∧ 0 ≤ v := by
  generalize e3 : (c % 2147483587 + idx * 30103 + 79) % 2147483587 = s
  have b3 : 0 ≤ s ∧ s < 2147483587 := by rw [← e3]; exact ⟨Int.emod_nonneg _ (by decide), Int.emod_lt_of_pos _ (by decide)⟩
  generalize e4 : (s * s + idx * 70039 + 61) % 2147483563 = m
  have b4 : 0 ≤ m ∧ m < 2147483563 := by rw [← e4]; exact ⟨Int.emod_nonneg _ (by decide), Int.emod_lt_of_pos _ (by decide)⟩
  generalize e5 : (m * m + s + idx * idx * 37) % 2147483549 = t
  have b5 : 0 ≤ t ∧ t < 2147483549 := by rw [← e5]; exact ⟨Int.emod_nonneg _ (by decide), Int.emod_lt_of_pos _ (by decide)⟩
  refine ⟨(t * 2147483587 + m) * 2147483563 + s, ?_, by omega⟩
  refine seq_at (δ1 := [some (.loc p), some (.int idx), some (.int c), some (.int s), d4, d5]) (S1 := S) ?_ (seq_at (δ1 := [some (.loc p), some (.int idx), some (.int c), some (.int s), some (.int m), d5]) (S1 := S) ?_ (seq_at (δ1 := [some (.loc p), some (.int idx), some (.int c), some (.int s), some (.int m), some (.int t)]) (S1 := S) ?_ ?_))
  · exact set_at (bin_at (call_at (one_at (bin_at (bin_at (bin_at (call_at (one_at (var_at rfl)) rfl) lit_at (mod_at (by decide))) (bin_at (var_at rfl) lit_at (mulc S (by decide) (by decide))) add_at) lit_at add_at)) rfl) lit_at ((mod_at (by decide)).trans (by rw [e3])))
  · exact set_at (bin_at (call_at (one_at (bin_at (bin_at (bin_at (var_at rfl) (var_at rfl) (mulc S (by omega) (by omega))) (bin_at (var_at rfl) lit_at (mulc S (by decide) (by decide))) add_at) lit_at add_at)) rfl) lit_at ((mod_at (by decide)).trans (by rw [e4])))
  · exact set_at (bin_at (call_at (one_at (bin_at (bin_at (bin_at (var_at rfl) (var_at rfl) (mulc S (by omega) (by omega))) (var_at rfl) add_at) (bin_at (bin_at (var_at rfl) (var_at rfl) (mulc S (by omega) (by omega))) lit_at (mulc S (by decide) (by decide))) add_at)) rfl) lit_at ((mod_at (by decide)).trans (by rw [e5])))
  · exact ret_at (bin_at (bin_at (bin_at (bin_at (var_at rfl) lit_at (mulc S (by decide) (by decide))) (var_at rfl) add_at) lit_at (mulc S (by decide) (by decide))) (var_at rfl) add_at)
end Law
namespace Law
open PySem L2 Rz
theorem lt_at {i j : Int} {S : Sto} : cLt (.int i) (.int j) S = .ok (decide (i < j)) S := rfl
theorem ge_at {i j : Int} {S : Sto} : cGe (.int i) (.int j) S = .ok (decide (j ≤ i)) S := rfl
theorem pow18 (S : Sto) : oPow (.int 10) (.int 18) S = .ok (.int 1000000000000000000) S := rfl
theorem next_ok (p n : Nat) (hn : n < 4294967296) (S : Sto) (h : Pen S p n) : ∃ (v : Int) (S' : Sto), m__law_next [.loc p] S = .ok (.int v) S' ∧ 0 ≤ v ∧ Pen S' p (n + 1) ∧ KeepB p S S' := by
  obtain ⟨l, cs, idx, d, hlp, hp, hl, h0, h1⟩ := h
  have plt : p < S.length := (List.getElem?_eq_some_iff.mp hp).1
  have llt : l < S.length := (List.getElem?_eq_some_iff.mp hl).1
  generalize eS1 : S.set p (.lst [.loc l, .int (idx + 1), .int d]) = S1
  have hp1 : S1[p]? = some (.lst [.loc l, .int (idx + 1), .int d]) := by rw [← eS1]; exact List.getElem?_set_self plt
  have hl1 : S1[l]? = some (.lst (cs.map .int)) := by rw [← eS1, List.getElem?_set_ne (Nat.ne_of_gt hlp)]; exact hl
  have k1 : KeepB p S S1 := by rw [← eS1]; exact KeepB.set _ _ _
  generalize eS2 : S1 ++ [Ob.lst []] = S2
  have k2 : Keep S1 S2 := by rw [← eS2]; exact Keep.app _ _
  have hp2 := k2 _ _ hp1
  have hl2 := k2 _ _ hl1
  have pen2' : Pen S2 p (n + 1) := ⟨l, cs, idx + 1, d, hlp, hp2, hl2, by omega, by omega⟩
  have kk : KeepB p S S2 := k1.trans k2.but
  have q1 : sset 1 (xbin oIx (xvar 0) (xlit (.int 1))) [some (.loc p), none, none, none, none, none] S = .nx [some (.loc p), some (.int idx), none, none, none, none] S :=
    set_at (bin_at (var_at rfl) lit_at (ix_at (getL_lst hp) rfl))
  have q2 : ssub (xvar 0) (xlit (.int 1)) (xbin oAdd (xvar 1) (xlit (.int 1))) [some (.loc p), some (.int idx), none, none, none, none] S = .nx [some (.loc p), some (.int idx), none, none, none, none] S1 :=
    sub_at (bin_at (var_at rfl) lit_at add_at) (var_at rfl) lit_at ((put_at (m := 1) hp rfl).trans (by rw [← eS1]; rfl))
  have q3 : sset 2 (xbin oAdd (xbin oMul (xvar 1) (xlit (.int 1051))) (xlit (.int 53))) [some (.loc p), some (.int idx), none, none, none, none] S1 = .nx [some (.loc p), some (.int idx), some (.int (idx * 1051 + 53)), none, none, none] S1 :=
    set_at (bin_at (bin_at (var_at rfl) lit_at (mulc S1 (by decide) (by decide))) lit_at add_at)
  have q4 : ∃ c : Int, sif (xbinB cNe (xbin oIx (xvar 0) (xlit (.int 0))) (xlst anil)) (sset 2 (xbin oIx (xbin oIx (xvar 0) (xlit (.int 0))) (xbin oMod (xcall fInt (acons (xvar 1) anil)) (xcall fLen (acons (xbin oIx (xvar 0) (xlit (.int 0))) anil))))) snext [some (.loc p), some (.int idx), some (.int (idx * 1051 + 53)), none, none, none] S1 = .nx [some (.loc p), some (.int idx), some (.int c), none, none, none] S2 := by
    have gl : getL S2 l = some (cs.map .int) := getL_lst hl2
    have gm : getL S2 S1.length = some (([] : List Int).map .int) := by rw [← eS2]; exact getL_new _ _
    obtain ⟨b, hb, hb2⟩ := cEq_some gl gm
    have t : xbinB cNe (xbin oIx (xvar 0) (xlit (.int 0))) (xlst anil) [some (.loc p), some (.int idx), some (.int (idx * 1051 + 53)), none, none, none] S1 = .ok (!b) S2 :=
      cmp_at (bin_at (var_at rfl) lit_at (ix_at (getL_lst hp1) rfl)) (lst_at nil_at (Nat.zero_le _)) (by rw [eS2]; unfold cNe; rw [hb]; rfl)
    cases b with
    | true => exact ⟨idx * 1051 + 53, if_f t rfl⟩
    | false =>
      have ne : cs ≠ [] := fun z => by cases hb2 z
      have pos : 0 < cs.length := List.length_pos_iff.mpr ne
      have em0 : 0 ≤ idx % ((cs.map Va.int).length : Nat) := Int.emod_nonneg _ (by rw [List.length_map]; omega)
      have em1 : idx % ((cs.map Va.int).length : Nat) < cs.length := by
        have := Int.emod_lt_of_pos idx (b := ((cs.map Va.int).length : Nat)) (by rw [List.length_map]; omega)
        rw [List.length_map] at this ⊢
        exact this
      obtain ⟨c, hc⟩ := atI_ints em0 em1
      have lp := bin_at (δ := [some (.loc p), some (.int idx), some (.int (idx * 1051 + 53)), none, none, none]) (S := S2) (f := oIx) (x := xvar 0) (y := xlit (.int 0)) (var_at rfl) lit_at (ix_at (getL_lst hp2) rfl)
      refine ⟨c, if_t t (set_at (bin_at lp (bin_at (call_at (one_at (var_at rfl)) rfl) (call_at (one_at lp) (len_at gl)) (mod_at (by rw [List.length_map]; omega))) (ix_at gl hc)))⟩
  obtain ⟨c, q4⟩ := q4
  have gl : getL S2 l = some (cs.map .int) := getL_lst hl2
  have lp := bin_at (δ := [some (.loc p), some (.int idx), some (.int c), none, none, none]) (S := S2) (f := oIx) (x := xvar 0) (y := xlit (.int 0)) (var_at rfl) lit_at (ix_at (getL_lst hp2) rfl)
  obtain ⟨v, tl1, tl2⟩ := next_tail p idx c h0 (by omega) S2 none none none
  have lt := cmp_at (δ := [some (.loc p), some (.int idx), some (.int c), none, none, none]) (S := S2) (f := cLt) (x := xvar 1) (y := xcall fLen (acons (xbin oIx (xvar 0) (xlit (.int 0))) anil)) (var_at rfl) (call_at (one_at lp) (len_at gl)) lt_at
  have ge := cmp_at (δ := [some (.loc p), some (.int idx), some (.int c), none, none, none]) (S := S2) (f := cGe) (x := xvar 2) (y := xbin oPow (xlit (.int 10)) (xlit (.int 18))) (var_at rfl) (bin_at lit_at lit_at (pow18 S2)) ge_at
  have fin : ∀ {w : Int}, b__law_next [some (.loc p), none, none, none, none, none] S = .rt (.int w) S2 → m__law_next [.loc p] S = .ok (.int w) S2 := fun {w} e => by
    show (b__law_next [some (.loc p), none, none, none, none, none] S).fin = _
    rw [e]
    rfl
  by_cases c1 : idx < ((cs.map Va.int).length : Nat)
  · rw [decide_eq_true c1] at lt
    by_cases c2 : (1000000000000000000 : Int) ≤ c
    · rw [decide_eq_true c2] at ge
      refine ⟨c, S2, fin ?_, by omega, pen2', kk⟩
      unfold b__law_next
      exact seq_at q1 (seq_at q2 (seq_at q3 (seq_at q4 (seq_rt (if_t (and_t lt ge) (ret_at (var_at rfl)))))))
    · rw [decide_eq_false c2] at ge
      refine ⟨v, S2, fin ?_, tl2, pen2', kk⟩
      unfold b__law_next
      exact seq_at q1 (seq_at q2 (seq_at q3 (seq_at q4 (seq_at (if_f (and_t lt ge) rfl) tl1))))
  · rw [decide_eq_false c1] at lt
    refine ⟨v, S2, fin ?_, tl2, pen2', kk⟩
    unfold b__law_next
    exact seq_at q1 (seq_at q2 (seq_at q3 (seq_at q4 (seq_at (if_f (and_f lt) rfl) tl1))))
theorem draw_ok (p n : Nat) (hn : n < 4294967296) (S : Sto) (h : Pen S p n) (u : Int) (hu : 0 < u) (hu2 : u < 1073741824) : ∃ (v : Int) (S' : Sto), m__law_draw [.loc p, .int u] S = .ok (.int v) S' ∧ 0 ≤ v ∧ v < u ∧ Pen S' p (n + 1) ∧ KeepB p S S' := by
  have main : ∀ (S1 : Sto), Pen S1 p (n + 1) → ∃ (v : Int) (S' : Sto), (sseq (sset 2 (xbin oMod (xcall fInt (acons (xbin oIx (xvar 0) (xlit (.int 2))) anil)) (xvar 1)))
      (sseq (ssub (xvar 0) (xlit (.int 2)) (xbin oDiv (xbin oIx (xvar 0) (xlit (.int 2))) (xvar 1))) (sret (xvar 2)))) [some (.loc p), some (.int u), none] S1 = .rt (.int v) S' ∧ 0 ≤ v ∧ v < u ∧ Pen S' p (n + 1) ∧ KeepB p S1 S' := fun S1 ⟨l, cs, idx, d, hlp, hp, hl, h0, h1⟩ => by
    have plt : p < S1.length := (List.getElem?_eq_some_iff.mp hp).1
    refine ⟨d % u, S1.set p (.lst [.loc l, .int idx, .int (d / u)]), ?_, Int.emod_nonneg _ (by omega), Int.emod_lt_of_pos _ hu, ⟨l, cs, idx, d / u, hlp, List.getElem?_set_self plt, by rw [List.getElem?_set_ne (Nat.ne_of_gt hlp)]; exact hl, h0, h1⟩, KeepB.set _ _ _⟩
    exact seq_at (set_at (bin_at (call_at (one_at (bin_at (var_at rfl) lit_at (ix_at (getL_lst hp) rfl))) rfl) (var_at rfl) (mod_at hu)))
      (seq_at (sub_at (bin_at (bin_at (var_at rfl) lit_at (ix_at (getL_lst hp) rfl)) (var_at rfl) (div_at hu hu2)) (var_at rfl) lit_at (put_at (m := 2) hp rfl)) (ret_at (var_at rfl)))
  have fin : ∀ {w : Int} {S2 : Sto}, b__law_draw [some (.loc p), some (.int u), none] S = .rt (.int w) S2 → m__law_draw [.loc p, .int u] S = .ok (.int w) S2 := fun {w S2} e => by
    show (b__law_draw [some (.loc p), some (.int u), none] S).fin = _
    rw [e]
    rfl
  obtain ⟨l, cs, idx, d, hlp, hp, hl, h0, h1⟩ := h
  have lt := cmp_at (δ := [some (.loc p), some (.int u), none]) (S := S) (f := cLt) (x := xbin oIx (xvar 0) (xlit (.int 2))) (y := xvar 1) (bin_at (var_at rfl) lit_at (ix_at (getL_lst hp) rfl)) (var_at rfl) lt_at
  by_cases c : d < u
  · rw [decide_eq_true c] at lt
    obtain ⟨w, S1, e1, e2, e3, e4⟩ := next_ok p n hn S ⟨l, cs, idx, d, hlp, hp, hl, h0, h1⟩
    obtain ⟨l', cs', idx', d', hlp', hp', hl', h0', h1'⟩ := e3
    have plt : p < S1.length := (List.getElem?_eq_some_iff.mp hp').1
    obtain ⟨v, S2, f1, f2, f3, f4, f5⟩ := main (S1.set p (.lst [.loc l', .int idx', .int w])) ⟨l', cs', idx', w, hlp', List.getElem?_set_self plt, by rw [List.getElem?_set_ne (Nat.ne_of_gt hlp')]; exact hl', h0', h1'⟩
    refine ⟨v, S2, fin ?_, f2, f3, f4, e4.trans ((KeepB.set _ _ _).trans f5)⟩
    unfold b__law_draw
    exact seq_at (if_t lt (sub_at (fn_at (one_at (var_at rfl)) rfl e1) (var_at rfl) lit_at (put_at (m := 2) hp' rfl))) f1
  · rw [decide_eq_false c] at lt
    obtain ⟨v, S2, f1, f2, f3, f4, f5⟩ := main S ⟨l, cs, idx, d, hlp, hp, hl, h0, by omega⟩
    refine ⟨v, S2, fin ?_, f2, f3, f4, f5⟩
    unfold b__law_draw
    exact seq_at (if_f lt rfl) f1
end Law
namespace Law
open PySem PySem.Spec PyProof.Rows L2 Rz PySem.W
local macro_rules | `(tactic| array_mem_dec) => `(tactic| first | assumption | ((with_reducible refine Keep.at' (by assumption) ?_); array_mem_dec) | ((with_reducible refine KeepB.at' (by assumption) (by first | assumption | omega) ?_); array_mem_dec))
local macro_rules | `(tactic| array_get_dec) => `(tactic| first
  | (with_reducible apply wo_seq) | (with_reducible apply wo_set) | (with_reducible apply wo_ret) | (with_reducible apply wo_if) | (with_reducible apply wo_exp)
  | (with_reducible apply wr_lit) | ((with_reducible apply wr_var); exact rfl) | (with_reducible apply wr_bin) | (with_reducible apply wr_binB) | (with_reducible apply wr_call) | (with_reducible apply wr_cons) | (with_reducible apply wr_nil)
  | (with_reducible apply wr_fn) | (with_reducible apply wr_not) | (with_reducible apply wr_and) | (with_reducible apply wr_or) | (with_reducible apply wr_ite) | (with_reducible apply wr_boo) | (with_reducible apply wr_tru) | (with_reducible apply wr_yes)
  | (with_reducible apply wr_tup) | (with_reducible apply wr_lst) | (with_reducible apply wr_un) | (with_reducible apply wr_isN) | (with_reducible apply wr_andV) | (with_reducible apply wr_orV) | (with_reducible apply wr_notV) | (with_reducible apply wr_orT) | (with_reducible apply wr_chain)
  | (with_reducible apply wr_addI) | (with_reducible apply wr_subI) | ((with_reducible apply wr_mulR); (· decide); (· decide)) | ((with_reducible apply wr_mulL); (· decide); (· decide)) | ((with_reducible apply wr_divI); (· omega); (· omega)) | ((with_reducible apply wr_modI); (· omega)) | (with_reducible apply wr_neg)
  | (with_reducible apply wr_lt) | (with_reducible apply wr_le) | (with_reducible apply wr_gt) | (with_reducible apply wr_ge) | ((with_reducible apply wr_eqS); exact rfl) | (with_reducible apply wr_ne) | (with_reducible apply wr_isB) | (with_reducible apply wr_isnB)
  | ((with_reducible apply wr_ixT); (· exact rfl)) | ((with_reducible apply wr_ixL); (· array_mem_dec); (· exact rfl)) | (with_reducible apply wr_trB) | ((with_reducible apply wr_trL); array_mem_dec) | ((with_reducible apply wr_lenL); array_mem_dec) | (with_reducible apply wr_lenT) | (with_reducible apply wr_intI) | (with_reducible apply wr_abs) | (with_reducible apply wr_min2)
  | (with_reducible apply wo_nx) | (with_reducible apply wo_retN) | (with_reducible apply wo_raise) | (with_reducible apply wo_asg) | (with_reducible apply wo_par) | (with_reducible apply wo_sub) | (with_reducible apply wo_for) | (with_reducible apply wr_isq) | (with_reducible apply wr_irg1) | (with_reducible apply wr_comp) | (with_reducible apply wr_met) | (with_reducible apply wr_met0)
  | ((with_reducible apply fnGo); (· exact rfl)) | ((with_reducible apply tupGo); (· simp only [List.length_cons, List.length_nil, Nat.reduceAdd, Nat.reduceLeDiff])) | ((with_reducible apply lstGo); (· simp only [List.length_cons, List.length_nil, Nat.reduceAdd, Nat.reduceLeDiff])) | ((with_reducible apply parGo); (· exact rfl)) | ((with_reducible apply asgGo); (· exact rfl)) | (with_reducible apply blGo)
  | ((with_reducible apply metGo); (· array_mem_dec)) | (with_reducible apply wr_fld) | ((with_reducible apply fldGo); (· array_mem_dec); (· exact rfl)) | (with_reducible apply wr_new) | (with_reducible apply wr_prop) | ((with_reducible apply propGo); (· array_mem_dec)) | (with_reducible apply isqT) | ((with_reducible apply isqL); (· array_mem_dec))
  | (with_reducible apply wr_me) | ((with_reducible apply methGo); (· array_mem_dec)) | (with_reducible apply wo_unl) | ((with_reducible apply unlGo); (· array_mem_dec); (· exact rfl); (· exact rfl)) | (with_reducible apply wo_try) | ((with_reducible apply wr_isX); (· array_mem_dec); (· first | exact rfl | decide)) | ((with_reducible apply wr_isXT); (· array_mem_dec); (· first | exact rfl | decide))
  | (with_reducible apply wr_neO) | ((with_reducible apply wr_eqO); (· array_mem_dec); (· array_mem_dec)) | ((with_reducible apply wr_isC); (· array_mem_dec)) | ((with_reducible apply wr_isi); (· first | exact rfl | (apply kindL; array_mem_dec)); (· decide)) | (with_reducible apply wr_sl) | (with_reducible apply wr_nop) | (with_reducible apply wo_dsub) | (with_reducible apply wr_dcomp)
  | (with_reducible apply bif_t) | (with_reducible apply bif_f) | (with_reducible apply bif_n) | ((with_reducible apply bif_dt); (· exact rfl)) | ((with_reducible apply bif_cf); (· decide)) | ((with_reducible apply bif_ct); (· decide)))

/-- whether a value is a whole number from lo to hi -/
def inR (lo hi : Int) : Va → Bool
  | .int i => decide (lo ≤ i) && decide (i ≤ hi)
  | _ => false
theorem wr_kind {w : Va} {S : Sto} {k j : Nat} {QV : Va → Sto → Prop} {E : Xp} (h : kind w S = some k) (hj : j < 7) (q : QV (.bl (isK k j)) S) : wr (fIsi [w, .ty j] S) QV E := wr_isi h hj q
theorem kind_2 {w : Va} {S : Sto} (h : kind w S = some 2) : ∃ i, w = .int i := by
  cases w with
  | int i => exact ⟨i, rfl⟩
  | loc l =>
    have h' : (match S[l]? with | some (.lst _) => some 5 | some (.frl _) => some 5 | some (.dci _) => some 6 | some (.dcs _) => some 6 | _ => none) = some 2 := h
    split at h' <;> cases h'
  | _ => cases h
theorem inR_not {w : Va} {S : Sto} {k : Nat} (h : kind w S = some k) (n : k ≠ 2) (lo hi : Int) : inR lo hi w = false := by
  cases w with
  | int i => cases h; exact absurd rfl n
  | _ => rfl
theorem integer_ok {w : Va} {S : Sto} {k : Nat} (h : kind w S = some k) : m_is_integer [w] S = .ok (.bl (decide (k = 2))) S := by
  have : ∃ T, m_is_integer [w] S = .ok (.bl (decide (k = 2))) T ∧ T = S := ok_of (by
    have kl := kind_lt h
    refine w_is_integer ?_
    refine wo_ret (wr_andV (wr_call (wr_cons (wr_var rfl (wr_cons (wr_lit (wr_nil (wr_kind h (by decide) ?_))))))))
    by_cases c : k = 1
    · subst c
      repeat array_get_dec
      refine wr_kind h (by decide) ?_
      repeat array_get_dec
      exact ⟨rfl, rfl⟩
    · by_cases c2 : k = 2
      · subst c2
        repeat array_get_dec
        refine wr_kind h (by decide) ?_
        repeat array_get_dec
        exact ⟨rfl, rfl⟩
      · have e : isK k 2 = false := by simp [isK, c, c2]
        rw [e]
        repeat array_get_dec
        exact ⟨by rw [decide_eq_false c2], rfl⟩)
  obtain ⟨T, e, rfl⟩ := this
  exact e
theorem between_ok {w : Va} {S : Sto} {k : Nat} (h : kind w S = some k) (lo hi : Int) : m_is_between [w, .int lo, .int hi] S = .ok (.bl (inR lo hi w)) S := by
  have : ∃ T, m_is_between [w, .int lo, .int hi] S = .ok (.bl (inR lo hi w)) T ∧ T = S := ok_of (by
    refine w_is_between ?_
    repeat array_get_dec
    refine wr_of (integer_ok h) ?_
    repeat array_get_dec
    refine bif_d (fun c => ?_) (fun c => ?_)
    · subst c
      obtain ⟨i, rfl⟩ := kind_2 h
      repeat array_get_dec
      refine bif_d (fun c => ?_) (fun c => ?_)
      · repeat array_get_dec
        exact ⟨by show Va.bl _ = Va.bl (decide (lo ≤ i) && decide (i ≤ hi)); rw [decide_eq_true c]; rfl, rfl⟩
      · repeat array_get_dec
        exact ⟨by show Va.bl _ = Va.bl (decide (lo ≤ i) && decide (i ≤ hi)); rw [decide_eq_false c]; rfl, rfl⟩
    · repeat array_get_dec
      exact ⟨by rw [inR_not h c], rfl⟩)
  obtain ⟨T, e, rfl⟩ := this
  exact e
theorem whole_ok {w : Va} {S : Sto} {k : Nat} (h : kind w S = some k) (n : Int) : m__law_is_whole [w, .int n] S = .ok (.bl (inR 0 (n - 1) w)) S := by
  have : ∃ T, m__law_is_whole [w, .int n] S = .ok (.bl (inR 0 (n - 1) w)) T ∧ T = S := ok_of (by
    have kl := kind_lt h
    refine w__law_is_whole ?_
    refine wo_ret (wr_andV (wr_call (wr_cons (wr_var rfl (wr_cons (wr_lit (wr_nil (wr_kind h (by decide) ?_))))))))
    by_cases c : k = 1
    · subst c
      repeat array_get_dec
      refine wr_kind h (j := 1) (by decide) ?_
      repeat array_get_dec
      exact ⟨by rw [inR_not h (by decide)], rfl⟩
    · by_cases c2 : k = 2
      · subst c2
        obtain ⟨i, rfl⟩ := kind_2 h
        repeat array_get_dec
        refine bif_d (fun c => ?_) (fun c => ?_)
        · repeat array_get_dec
          refine ⟨?_, rfl⟩
          show Va.bl _ = Va.bl (decide (0 ≤ i) && decide (i ≤ n - 1))
          rw [decide_eq_true c, Bool.true_and]
          congr 1
          exact decide_eq_decide.mpr (by omega)
        · repeat array_get_dec
          exact ⟨by show Va.bl _ = Va.bl (decide (0 ≤ i) && decide (i ≤ n - 1)); rw [decide_eq_false c]; rfl, rfl⟩
      · have e : isK k 2 = false := by simp [isK, c, c2]
        rw [e]
        repeat array_get_dec
        exact ⟨by rw [inR_not h c2], rfl⟩)
  obtain ⟨T, e, rfl⟩ := this
  exact e
theorem width_ok {w : Va} {S : Sto} {k : Nat} (h : kind w S = some k) : m_is_width [w] S = .ok (.bl (inR 0 5 w)) S := by
  have : ∃ T, m_is_width [w] S = .ok (.bl (inR 0 5 w)) T ∧ T = S := ok_of (by
    refine w_is_width ?_
    repeat array_get_dec
    refine wr_of (between_ok h 0 5) ?_
    exact ⟨rfl, rfl⟩)
  obtain ⟨T, e, rfl⟩ := this
  exact e
theorem hash_ok {w : Va} {S : Sto} {k : Nat} (h : kind w S = some k) : m_is_hash [w] S = .ok (.bl (inR 0 31 w)) S := by
  have : ∃ T, m_is_hash [w] S = .ok (.bl (inR 0 31 w)) T ∧ T = S := ok_of (by
    refine w_is_hash ?_
    repeat array_get_dec
    refine wr_of (between_ok h 0 31) ?_
    exact ⟨rfl, rfl⟩)
  obtain ⟨T, e, rfl⟩ := this
  exact e
theorem inR_int {lo hi : Int} {w : Va} (h : inR lo hi w = true) : ∃ i, w = .int i ∧ lo ≤ i ∧ i ≤ hi := by
  cases w with
  | int i =>
    unfold inR at h
    rw [Bool.and_eq_true, decide_eq_true_eq, decide_eq_true_eq] at h
    exact ⟨i, rfl, h.1, h.2⟩
  | _ => cases h
/-! the checks -/
theorem chw_t {w : Va} {S : Sto} {k : Nat} (h : kind w S = some k) (r : inR 0 5 w = true) {QV : Va → Sto → Prop} {E : Xp} (q : QV .non S) : wr (m_check_width [w] S) QV E := by
  refine w_check_width ?_
  repeat array_get_dec
  refine wr_of (width_ok h) ?_
  rw [r]
  repeat array_get_dec
  exact q
theorem chw_f {w : Va} {S : Sto} {k : Nat} (h : kind w S = some k) (r : inR 0 5 w = false) {QV : Va → Sto → Prop} {E : Xp} (q : E 3 [] S) : wr (m_check_width [w] S) QV E := by
  refine w_check_width ?_
  repeat array_get_dec
  refine wr_of (width_ok h) ?_
  rw [r]
  repeat array_get_dec
  exact q
theorem chh_t {w : Va} {S : Sto} {k : Nat} (h : kind w S = some k) (r : inR 0 31 w = true) {QV : Va → Sto → Prop} {E : Xp} (q : QV .non S) : wr (m_check_hash [w] S) QV E := by
  refine w_check_hash ?_
  repeat array_get_dec
  refine wr_of (hash_ok h) ?_
  rw [r]
  repeat array_get_dec
  exact q
theorem chh_f {w : Va} {S : Sto} {k : Nat} (h : kind w S = some k) (r : inR 0 31 w = false) {QV : Va → Sto → Prop} {E : Xp} (q : E 4 [] S) : wr (m_check_hash [w] S) QV E := by
  refine w_check_hash ?_
  repeat array_get_dec
  refine wr_of (hash_ok h) ?_
  rw [r]
  repeat array_get_dec
  exact q
end Law
namespace Law
open PySem PySem.Spec PyProof.Rows L2 Rz PySem.W
local macro_rules | `(tactic| array_mem_dec) => `(tactic| first | assumption | ((with_reducible refine Keep.at' (by assumption) ?_); array_mem_dec) | ((with_reducible refine KeepB.at' (by assumption) (by first | assumption | omega) ?_); array_mem_dec))
local macro_rules | `(tactic| array_get_dec) => `(tactic| first
  | (with_reducible apply wo_seq) | (with_reducible apply wo_set) | (with_reducible apply wo_ret) | (with_reducible apply wo_if) | (with_reducible apply wo_exp)
  | (with_reducible apply wr_lit) | ((with_reducible apply wr_var); exact rfl) | (with_reducible apply wr_bin) | (with_reducible apply wr_binB) | (with_reducible apply wr_call) | (with_reducible apply wr_cons) | (with_reducible apply wr_nil)
  | (with_reducible apply wr_fn) | (with_reducible apply wr_not) | (with_reducible apply wr_and) | (with_reducible apply wr_or) | (with_reducible apply wr_ite) | (with_reducible apply wr_boo) | (with_reducible apply wr_tru) | (with_reducible apply wr_yes)
  | (with_reducible apply wr_tup) | (with_reducible apply wr_lst) | (with_reducible apply wr_un) | (with_reducible apply wr_isN) | (with_reducible apply wr_andV) | (with_reducible apply wr_orV) | (with_reducible apply wr_notV) | (with_reducible apply wr_orT) | (with_reducible apply wr_chain)
  | (with_reducible apply wr_addI) | (with_reducible apply wr_subI) | ((with_reducible apply wr_mulR); (· decide); (· decide)) | ((with_reducible apply wr_mulL); (· decide); (· decide)) | ((with_reducible apply wr_divI); (· omega); (· omega)) | ((with_reducible apply wr_modI); (· omega)) | (with_reducible apply wr_neg)
  | (with_reducible apply wr_lt) | (with_reducible apply wr_le) | (with_reducible apply wr_gt) | (with_reducible apply wr_ge) | ((with_reducible apply wr_eqS); exact rfl) | (with_reducible apply wr_ne) | (with_reducible apply wr_isB) | (with_reducible apply wr_isnB)
  | ((with_reducible apply wr_ixT); (· exact rfl)) | ((with_reducible apply wr_ixL); (· array_mem_dec); (· exact rfl)) | (with_reducible apply wr_trB) | ((with_reducible apply wr_trL); array_mem_dec) | ((with_reducible apply wr_lenL); array_mem_dec) | (with_reducible apply wr_lenT) | (with_reducible apply wr_intI) | (with_reducible apply wr_abs) | (with_reducible apply wr_min2)
  | (with_reducible apply wo_nx) | (with_reducible apply wo_retN) | (with_reducible apply wo_raise) | (with_reducible apply wo_asg) | (with_reducible apply wo_par) | (with_reducible apply wo_sub) | (with_reducible apply wo_for) | (with_reducible apply wr_isq) | (with_reducible apply wr_irg1) | (with_reducible apply wr_comp) | (with_reducible apply wr_met) | (with_reducible apply wr_met0)
  | ((with_reducible apply fnGo); (· exact rfl)) | ((with_reducible apply tupGo); (· simp only [List.length_cons, List.length_nil, Nat.reduceAdd, Nat.reduceLeDiff])) | ((with_reducible apply lstGo); (· simp only [List.length_cons, List.length_nil, Nat.reduceAdd, Nat.reduceLeDiff])) | ((with_reducible apply parGo); (· exact rfl)) | ((with_reducible apply asgGo); (· exact rfl)) | (with_reducible apply blGo)
  | ((with_reducible apply metGo); (· array_mem_dec)) | (with_reducible apply wr_fld) | ((with_reducible apply fldGo); (· array_mem_dec); (· exact rfl)) | (with_reducible apply wr_new) | (with_reducible apply wr_prop) | ((with_reducible apply propGo); (· array_mem_dec)) | (with_reducible apply isqT) | ((with_reducible apply isqL); (· array_mem_dec))
  | (with_reducible apply wr_me) | ((with_reducible apply methGo); (· array_mem_dec)) | (with_reducible apply wo_unl) | ((with_reducible apply unlGo); (· array_mem_dec); (· exact rfl); (· exact rfl)) | (with_reducible apply wo_try) | ((with_reducible apply wr_isX); (· array_mem_dec); (· first | exact rfl | decide)) | ((with_reducible apply wr_isXT); (· array_mem_dec); (· first | exact rfl | decide))
  | (with_reducible apply wr_neO) | ((with_reducible apply wr_eqO); (· array_mem_dec); (· array_mem_dec)) | ((with_reducible apply wr_isC); (· array_mem_dec)) | ((with_reducible apply wr_isi); (· first | exact rfl | (apply kindL; array_mem_dec)); (· decide)) | (with_reducible apply wr_sl) | (with_reducible apply wr_nop) | (with_reducible apply wo_dsub) | (with_reducible apply wr_dcomp)
  | (with_reducible apply bif_t) | (with_reducible apply bif_f) | (with_reducible apply bif_n) | ((with_reducible apply bif_dt); (· exact rfl)) | ((with_reducible apply bif_cf); (· decide)) | ((with_reducible apply bif_ct); (· decide)))

theorem shl_ok {i : Int} (h0 : 0 ≤ i) (h5 : i ≤ 5) (S : Sto) : m_buckets_of [.int i] S = .ok (.int ((2 ^ i.toNat : Nat) : Int)) S := by
  have : i = 0 ∨ i = 1 ∨ i = 2 ∨ i = 3 ∨ i = 4 ∨ i = 5 := by omega
  rcases this with rfl | rfl | rfl | rfl | rfl | rfl <;> rfl
theorem pw5 {i : Int} (h0 : 0 ≤ i) (h5 : i ≤ 5) : 1 ≤ 2 ^ i.toNat ∧ 2 ^ i.toNat ≤ 32 := by
  have : i = 0 ∨ i = 1 ∨ i = 2 ∨ i = 3 ∨ i = 4 ∨ i = 5 := by omega
  rcases this with rfl | rfl | rfl | rfl | rfl | rfl <;> decide
/-- what a call ends in: nothing is raised, or the error c -/
def EndC (e : Option Nat) (S : Sto) (r : Rs Va) : Prop := wr r (fun _ T => e = none ∧ Keep S T) (fun c fs T => e = some c ∧ fs = [] ∧ Keep S T)
def eB (a b : Va) : Option Nat := if inR 0 5 b then (if inR 0 31 a then none else some 4) else some 3
def top2 : Va → Int
  | .int i => ((2 ^ i.toNat : Nat) : Int) - 1
  | _ => 0
def eT (a b : Va) : Option Nat := if inR 0 5 b then (if inR 0 (top2 b) a then none else some 5) else some 3
def gtV : Va → Va → Bool
  | .int i, .int j => decide (j < i)
  | _, _ => false
def eW (a b c : Va) : Option Nat := if inR 0 5 b && inR 0 5 c then (if inR 0 (top2 b) a && !gtV b c then none else some 5) else some 3
section
variable {a b c : Va} {S : Sto} {k1 k2 k3 : Nat}
theorem bucket_ok (ha : kind a S = some k1) (hb : kind b S = some k2) : EndC (eB a b) S (m_bucket [a, b] S) := by
  unfold EndC eB
  refine w_bucket ?_
  repeat array_get_dec
  cases r : inR 0 5 b with
  | false => exact chw_f hb r ⟨rfl, rfl, fun _ _ z => z⟩
  | true =>
    refine chw_t hb r ?_
    repeat array_get_dec
    cases r2 : inR 0 31 a with
    | false => exact chh_f ha r2 ⟨rfl, rfl, fun _ _ z => z⟩
    | true =>
      refine chh_t ha r2 ?_
      obtain ⟨i, rfl, i0, i5⟩ := inR_int r
      obtain ⟨j, rfl, _⟩ := inR_int r2
      have := pw5 i0 i5
      repeat array_get_dec
      refine wr_of (shl_ok i0 i5 S) ?_
      repeat array_get_dec
      exact ⟨rfl, fun _ _ z => z⟩
theorem num_ok {i : Int} (i0 : 0 ≤ i) (i5 : i ≤ 5) (ha : kind a S = some k1) {QV : Va → Sto → Prop} {E : Xp} (q1 : inR 0 (top2 (.int i)) a = true → QV .non S) (q2 : inR 0 (top2 (.int i)) a = false → E 5 [] S) : wr (m__check_number [a, .int i] S) QV E := by
  refine w__check_number ?_
  repeat array_get_dec
  refine wr_of (shl_ok i0 i5 S) ?_
  repeat array_get_dec
  refine wr_of (between_ok ha 0 _) ?_
  cases r : inR 0 (((2 ^ i.toNat : Nat) : Int) - 1) a with
  | false =>
    repeat array_get_dec
    exact q2 r
  | true =>
    repeat array_get_dec
    exact q1 r
theorem turned_ok (ha : kind a S = some k1) (hb : kind b S = some k2) : EndC (eT a b) S (m_turned [a, b] S) := by
  unfold EndC eT
  refine w_turned ?_
  repeat array_get_dec
  cases r : inR 0 5 b with
  | false => exact chw_f hb r ⟨rfl, rfl, fun _ _ z => z⟩
  | true =>
    refine chw_t hb r ?_
    obtain ⟨i, rfl, i0, i5⟩ := inR_int r
    repeat array_get_dec
    refine num_ok i0 i5 ha (fun r2 => ?_) (fun r2 => ⟨by simp only [r2]; rfl, rfl, fun _ _ z => z⟩)
    obtain ⟨j, rfl, _⟩ := inR_int r2
    repeat array_get_dec
    obtain ⟨n, rfl⟩ := Int.eq_ofNat_of_zero_le i0
    refine rngGo n rfl (by omega) ?_
    refine wo_rng (fun _ δ U => (∃ (x y : Int) (e4 : Option Va), δ = [some (.int j), some (.int (n : Int)), some (.int x), some (.int y), e4]) ∧ U = S) ⟨⟨_, _, _, rfl⟩, rfl⟩ (fun m δ U hm ⟨⟨x, y, e4, ed⟩, eU⟩ => ?_) (fun δ U ⟨⟨x, y, e4, ed⟩, eU⟩ => ?_)
    · subst ed
      subst eU
      refine ⟨_, rfl, ?_⟩
      refine wl_turned_0 ?_
      repeat array_get_dec
      exact ⟨⟨_, _, _, rfl⟩, rfl⟩
    · subst ed
      subst eU
      repeat array_get_dec
      exact ⟨by simp only [r2]; rfl, fun _ _ z => z⟩
end
end Law
namespace Law
open PySem PySem.Spec PyProof.Rows L2 Rz PySem.W
local macro_rules | `(tactic| array_mem_dec) => `(tactic| first | assumption | ((with_reducible refine Keep.at' (by assumption) ?_); array_mem_dec) | ((with_reducible refine KeepB.at' (by assumption) (by first | assumption | omega) ?_); array_mem_dec))
local macro_rules | `(tactic| array_get_dec) => `(tactic| first
  | (with_reducible apply wo_seq) | (with_reducible apply wo_set) | (with_reducible apply wo_ret) | (with_reducible apply wo_if) | (with_reducible apply wo_exp)
  | (with_reducible apply wr_lit) | ((with_reducible apply wr_var); exact rfl) | (with_reducible apply wr_bin) | (with_reducible apply wr_binB) | (with_reducible apply wr_call) | (with_reducible apply wr_cons) | (with_reducible apply wr_nil)
  | (with_reducible apply wr_fn) | (with_reducible apply wr_not) | (with_reducible apply wr_and) | (with_reducible apply wr_or) | (with_reducible apply wr_ite) | (with_reducible apply wr_boo) | (with_reducible apply wr_tru) | (with_reducible apply wr_yes)
  | (with_reducible apply wr_tup) | (with_reducible apply wr_lst) | (with_reducible apply wr_un) | (with_reducible apply wr_isN) | (with_reducible apply wr_andV) | (with_reducible apply wr_orV) | (with_reducible apply wr_notV) | (with_reducible apply wr_orT) | (with_reducible apply wr_chain)
  | (with_reducible apply wr_addI) | (with_reducible apply wr_subI) | ((with_reducible apply wr_mulR); (· decide); (· decide)) | ((with_reducible apply wr_mulL); (· decide); (· decide)) | ((with_reducible apply wr_divI); (· omega); (· omega)) | ((with_reducible apply wr_modI); (· omega)) | (with_reducible apply wr_neg)
  | (with_reducible apply wr_lt) | (with_reducible apply wr_le) | (with_reducible apply wr_gt) | (with_reducible apply wr_ge) | ((with_reducible apply wr_eqS); exact rfl) | (with_reducible apply wr_ne) | (with_reducible apply wr_isB) | (with_reducible apply wr_isnB)
  | ((with_reducible apply wr_ixT); (· exact rfl)) | ((with_reducible apply wr_ixL); (· array_mem_dec); (· exact rfl)) | (with_reducible apply wr_trB) | ((with_reducible apply wr_trL); array_mem_dec) | ((with_reducible apply wr_lenL); array_mem_dec) | (with_reducible apply wr_lenT) | (with_reducible apply wr_intI) | (with_reducible apply wr_abs) | (with_reducible apply wr_min2)
  | (with_reducible apply wo_nx) | (with_reducible apply wo_retN) | (with_reducible apply wo_raise) | (with_reducible apply wo_asg) | (with_reducible apply wo_par) | (with_reducible apply wo_sub) | (with_reducible apply wo_for) | (with_reducible apply wr_isq) | (with_reducible apply wr_irg1) | (with_reducible apply wr_comp) | (with_reducible apply wr_met) | (with_reducible apply wr_met0)
  | ((with_reducible apply fnGo); (· exact rfl)) | ((with_reducible apply tupGo); (· simp only [List.length_cons, List.length_nil, Nat.reduceAdd, Nat.reduceLeDiff])) | ((with_reducible apply lstGo); (· simp only [List.length_cons, List.length_nil, Nat.reduceAdd, Nat.reduceLeDiff])) | ((with_reducible apply parGo); (· exact rfl)) | ((with_reducible apply asgGo); (· exact rfl)) | (with_reducible apply blGo)
  | ((with_reducible apply metGo); (· array_mem_dec)) | (with_reducible apply wr_fld) | ((with_reducible apply fldGo); (· array_mem_dec); (· exact rfl)) | (with_reducible apply wr_new) | (with_reducible apply wr_prop) | ((with_reducible apply propGo); (· array_mem_dec)) | (with_reducible apply isqT) | ((with_reducible apply isqL); (· array_mem_dec))
  | (with_reducible apply wr_me) | ((with_reducible apply methGo); (· array_mem_dec)) | (with_reducible apply wo_unl) | ((with_reducible apply unlGo); (· array_mem_dec); (· exact rfl); (· exact rfl)) | (with_reducible apply wo_try) | ((with_reducible apply wr_isX); (· array_mem_dec); (· first | exact rfl | decide)) | ((with_reducible apply wr_isXT); (· array_mem_dec); (· first | exact rfl | decide))
  | (with_reducible apply wr_neO) | ((with_reducible apply wr_eqO); (· array_mem_dec); (· array_mem_dec)) | ((with_reducible apply wr_isC); (· array_mem_dec)) | ((with_reducible apply wr_isi); (· first | exact rfl | (apply kindL; array_mem_dec)); (· decide)) | (with_reducible apply wr_sl) | (with_reducible apply wr_nop) | (with_reducible apply wo_dsub) | (with_reducible apply wr_dcomp)
  | (with_reducible apply bif_t) | (with_reducible apply bif_f) | (with_reducible apply bif_n) | ((with_reducible apply bif_dt); (· exact rfl)) | ((with_reducible apply bif_cf); (· decide)) | ((with_reducible apply bif_ct); (· decide)))

theorem wf : ∀ b, b < 6 → ∀ a, a < b + 1 → ∀ n : Nat, n < 2 ^ a → lrngOk (n : Int) ((2 ^ b : Nat) : Int) ((2 ^ a : Nat) : Int) = true ∧ (Builtin.Range.rangeSize (n : Int) ((2 ^ b : Nat) : Int) ((2 ^ a : Nat) : Int)).toNat ≤ 32 := by decide +kernel
section
variable {a b c : Va} {S : Sto} {k1 k2 k3 : Nat}
theorem within_ok (ha : kind a S = some k1) (hb : kind b S = some k2) (hc : kind c S = some k3) : EndC (eW a b c) S (m_within [a, b, c] S) := by
  unfold EndC eW
  refine w_within ?_
  repeat array_get_dec
  cases r : inR 0 5 b with
  | false => exact chw_f hb r ⟨rfl, rfl, fun _ _ z => z⟩
  | true =>
    refine chw_t hb r ?_
    repeat array_get_dec
    cases r3 : inR 0 5 c with
    | false => exact chw_f hc r3 ⟨rfl, rfl, fun _ _ z => z⟩
    | true =>
      refine chw_t hc r3 ?_
      obtain ⟨i, rfl, i0, i5⟩ := inR_int r
      obtain ⟨l, rfl, l0, l5⟩ := inR_int r3
      repeat array_get_dec
      refine num_ok i0 i5 ha (fun r2 => ?_) (fun r2 => ⟨by simp only [r2]; rfl, rfl, fun _ _ z => z⟩)
      obtain ⟨j, rfl, j0, j1⟩ := inR_int r2
      repeat array_get_dec
      refine bif_d (fun g => ?_) (fun g => ?_)
      · repeat array_get_dec
        exact ⟨by simp only [r2, gtV, decide_eq_true g]; rfl, rfl, fun _ _ z => z⟩
      · repeat array_get_dec
        refine wr_of (shl_ok l0 l5 S) ?_
        repeat array_get_dec
        refine wr_of (shl_ok i0 i5 S) ?_
        repeat array_get_dec
        obtain ⟨n, rfl⟩ := Int.eq_ofNat_of_zero_le j0
        obtain ⟨x, rfl⟩ := Int.eq_ofNat_of_zero_le i0
        obtain ⟨y, rfl⟩ := Int.eq_ofNat_of_zero_le l0
        have j1' : (n : Int) ≤ ((2 ^ x : Nat) : Int) - 1 := j1
        have p1 : 1 ≤ 2 ^ x := Nat.one_le_two_pow
        obtain ⟨q1, q2⟩ := wf y (by omega) x (by omega) n (by omega)
        have e : fLR3 [.int (n : Int), .int ((2 ^ y : Nat) : Int), .int ((2 ^ x : Nat) : Int)] S = llst (rgL (n : Int) ((2 ^ x : Nat) : Int) (Builtin.Range.rangeSize (n : Int) ((2 ^ y : Nat) : Int) ((2 ^ x : Nat) : Int)).toNat) S := by
          show lrng _ _ _ S = _
          unfold lrng
          rw [q1]
          rfl
        show wr (fLR3 [.int (n : Int), .int ((2 ^ y : Nat) : Int), .int ((2 ^ x : Nat) : Int)] S) _ _
        rw [e]
        refine wr_llst (by unfold rgL; rw [List.length_map, List.length_range]; omega) fun d T _ _ k _ => ?_
        exact ⟨by simp only [r2, gtV, decide_eq_false g]; rfl, k⟩
end
/-! the word -/
def wd : Option Nat → Str
  | none => ""
  | some 3 => "width"
  | some 4 => "hash"
  | some 5 => "number"
  | _ => "other"
theorem lam_fin {o : Out} {QV : Va → Sto → Prop} {E : Xp} (h : wo o (fun _ _ => False) (fnK QV noE)) : wr (lamFin o) QV E := by
  unfold wo at h
  unfold lamFin
  cases o with
  | rt w S => exact wr_of rfl h
  | ex c fs δ S => exact (h : False).elim
  | _ => exact (h : False).elim
theorem wr_ylam {exm : Nat → Bool} {n kk : Nat} {sr : XS} {x : XE} {δ : Rz.Env} {S : Sto} {QV : Va → Sto → Prop} {E : Xp} (h : wr (x δ S) (fun _ T => wo (sr (envW n kk .non) T) (fun _ _ => False) (fnK QV noE)) (fun c fs T => fs = [] ∧ exm c = true ∧ ∀ l U, l = T.length → U.length = T.length + 1 → Keep T U → U[l]? = some (.exo c []) → wo (sr (envW n kk (.loc l)) U) (fun _ _ => False) (fnK QV noE))) : wr (ylam exm n kk sr x δ S) QV E := by
  unfold wr at h
  unfold ylam
  cases e : x δ S with
  | ok w T => rw [e] at h; exact lam_fin h
  | ex c fs T =>
    rw [e] at h
    obtain ⟨rfl, h2, h3⟩ := h
    dsimp only
    rw [h2]
    exact lam_fin (h3 _ _ rfl (by simp) (Keep.app T _) (get_new _ _ _))
  | bad => rw [e] at h; exact (h : False).elim
theorem wr_cnt {S : Sto} {l : Nat} {bs : List Bool} {k : Bool} {QV : Va → Sto → Prop} {E : Xp} (h1 : S[l]? = some (.lst (bs.map .bl))) (h : QV (.int (bs.count k : Nat)) S) : wr (oCnt (.loc l) [.bl k] S) QV E := by
  refine wr_of ?_ h
  unfold oCnt
  dsimp only
  rw [getL_lst h1]
  dsimp only
  rw [bools_map]
theorem wr_idx {S : Sto} {l : Nat} {bs : List Bool} {k : Bool} {QV : Va → Sto → Prop} {E : Xp} (h1 : S[l]? = some (.lst (bs.map .bl))) (m : k ∈ bs) (h : QV (.int (bs.idxOf k : Nat)) S) : wr (oIdx (.loc l) [.bl k] S) QV E := by
  refine wr_of ?_ h
  unfold oIdx
  dsimp only
  rw [getL_lst h1]
  dsimp only
  rw [bools_map]
  dsimp only
  rw [if_pos m]
theorem word_t (T : Sto) {QV : Va → Sto → Prop} (h : QV (.str "") T) : wo (b__law_word (envW 4 1 .non) T) (fun _ _ => False) (fnK QV noE) := by
  show wo (b__law_word [none, some .non, none, none] T) _ _
  refine wo_seq (wo_if (wr_isN (wr_var rfl ?_)))
  repeat array_get_dec
  exact h
theorem word_c {c : Nat} (hc : c = 3 ∨ c = 4 ∨ c = 5) {T : Sto} {l : Nat} (hl : T[l]? = some (.exo c [])) {QV : Va → Sto → Prop} (h : ∀ U, Keep T U → QV (.str (wd (some c))) U) : wo (b__law_word (envW 4 1 (.loc l)) T) (fun _ _ => False) (fnK QV noE) := by
  have ct : ∀ d, d = 3 ∨ d = 4 ∨ d = 5 ∨ d = 6 → subT c d = some (decide (c = d)) := fun d hd => by
    rcases hc with rfl | rfl | rfl <;> rcases hd with rfl | rfl | rfl | rfl <;> rfl
  show wo (b__law_word [none, some (.loc l), none, none] T) _ _
  refine wo_seq (wo_if (wr_isN (wr_var rfl ?_)))
  repeat array_get_dec
  refine wr_isX hl (ct 3 (by omega)) ?_
  repeat array_get_dec
  refine wr_isX hl (ct 4 (by omega)) ?_
  repeat array_get_dec
  intro q1 U1 e1 l1 k1 h1
  repeat array_get_dec
  refine wr_isX (k1 _ _ hl) (ct 5 (by omega)) ?_
  repeat array_get_dec
  refine wr_isX (k1 _ _ hl) (ct 6 (by omega)) ?_
  repeat array_get_dec
  intro q2 U2 e2 l2 k2 h2
  repeat array_get_dec
  refine wr_addL (k2 _ _ h1) h2 (by simp) fun q3 U3 e3 l3 k3 h3 => ?_
  have h3' : U3[q3]? = some (.lst ([decide (c = 3), decide (c = 4), decide (c = 5), decide (c = 6)].map .bl)) := h3
  repeat array_get_dec
  refine wr_cnt h3' ?_
  have cn : [decide (c = 3), decide (c = 4), decide (c = 5), decide (c = 6)].count true = 1 ∧ true ∈ [decide (c = 3), decide (c = 4), decide (c = 5), decide (c = 6)] ∧ atI [Va.str "width", .str "hash", .str "number", .str "other"] (([decide (c = 3), decide (c = 4), decide (c = 5), decide (c = 6)].idxOf true : Nat) : Int) = some (.str (wd (some c))) := by
    rcases hc with rfl | rfl | rfl <;> exact ⟨by decide, by decide, rfl⟩
  rw [cn.1]
  repeat array_get_dec
  intro q4 U4 e4 l4 k4 h4
  repeat array_get_dec
  refine wr_idx (k4 _ _ h3') cn.2.1 ?_
  refine wr_ixL h4 cn.2.2 ?_
  exact h _ fun j o z => k4 _ _ (k3 _ _ (k2 _ _ (k1 _ _ z)))
theorem word_ok {x : XE} {δ : Rz.Env} {S : Sto} {e : Option Nat} (he : e = none ∨ e = some 3 ∨ e = some 4 ∨ e = some 5) (h : EndC e S (x δ S)) {QV : Va → Sto → Prop} {E : Xp} (q : ∀ U, Keep S U → QV (.str (wd e)) U) : wr (ylam exmT 4 1 b__law_word x δ S) QV E := by
  refine wr_ylam (h.mono2 (fun _ T ⟨e0, k⟩ => ?_) (fun c fs T ⟨e0, ef, k⟩ => ⟨ef, ?_, fun l U _ _ kU hU => ?_⟩))
  · subst e0
    exact word_t T (q T k)
  · subst e0
    rcases he with z | z | z | z
    · cases z
    · cases z; rfl
    · cases z; rfl
    · cases z; rfl
  · subst e0
    have hc : c = 3 ∨ c = 4 ∨ c = 5 := by
      rcases he with z | z | z | z
      · cases z
      · cases z; exact .inl rfl
      · cases z; exact .inr (.inl rfl)
      · cases z; exact .inr (.inr rfl)
    exact word_c hc hU fun V kV => q V fun j o z => kV _ _ (kU _ _ (k _ _ z))
end Law
namespace Law
open PySem PySem.Spec PyProof.Rows L2 Rz PySem.W
local macro_rules | `(tactic| array_mem_dec) => `(tactic| first | assumption | ((with_reducible refine Keep.at' (by assumption) ?_); array_mem_dec) | ((with_reducible refine KeepB.at' (by assumption) (by first | assumption | omega) ?_); array_mem_dec))
local macro_rules | `(tactic| array_get_dec) => `(tactic| first
  | (with_reducible apply wo_seq) | (with_reducible apply wo_set) | (with_reducible apply wo_ret) | (with_reducible apply wo_if) | (with_reducible apply wo_exp)
  | (with_reducible apply wr_lit) | ((with_reducible apply wr_var); exact rfl) | (with_reducible apply wr_bin) | (with_reducible apply wr_binB) | (with_reducible apply wr_call) | (with_reducible apply wr_cons) | (with_reducible apply wr_nil)
  | (with_reducible apply wr_fn) | (with_reducible apply wr_not) | (with_reducible apply wr_and) | (with_reducible apply wr_or) | (with_reducible apply wr_ite) | (with_reducible apply wr_boo) | (with_reducible apply wr_tru) | (with_reducible apply wr_yes)
  | (with_reducible apply wr_tup) | (with_reducible apply wr_lst) | (with_reducible apply wr_un) | (with_reducible apply wr_isN) | (with_reducible apply wr_andV) | (with_reducible apply wr_orV) | (with_reducible apply wr_notV) | (with_reducible apply wr_orT) | (with_reducible apply wr_chain)
  | (with_reducible apply wr_addI) | (with_reducible apply wr_subI) | ((with_reducible apply wr_mulR); (· decide); (· decide)) | ((with_reducible apply wr_mulL); (· decide); (· decide)) | ((with_reducible apply wr_divI); (· omega); (· omega)) | ((with_reducible apply wr_modI); (· omega)) | (with_reducible apply wr_neg)
  | (with_reducible apply wr_lt) | (with_reducible apply wr_le) | (with_reducible apply wr_gt) | (with_reducible apply wr_ge) | ((with_reducible apply wr_eqS); exact rfl) | (with_reducible apply wr_ne) | (with_reducible apply wr_isB) | (with_reducible apply wr_isnB)
  | ((with_reducible apply wr_ixT); (· exact rfl)) | ((with_reducible apply wr_ixL); (· array_mem_dec); (· exact rfl)) | (with_reducible apply wr_trB) | ((with_reducible apply wr_trL); array_mem_dec) | ((with_reducible apply wr_lenL); array_mem_dec) | (with_reducible apply wr_lenT) | (with_reducible apply wr_intI) | (with_reducible apply wr_abs) | (with_reducible apply wr_min2)
  | (with_reducible apply wo_nx) | (with_reducible apply wo_retN) | (with_reducible apply wo_raise) | (with_reducible apply wo_asg) | (with_reducible apply wo_par) | (with_reducible apply wo_sub) | (with_reducible apply wo_for) | (with_reducible apply wr_isq) | (with_reducible apply wr_irg1) | (with_reducible apply wr_comp) | (with_reducible apply wr_met) | (with_reducible apply wr_met0)
  | ((with_reducible apply fnGo); (· exact rfl)) | ((with_reducible apply tupGo); (· simp only [List.length_cons, List.length_nil, Nat.reduceAdd, Nat.reduceLeDiff])) | ((with_reducible apply lstGo); (· simp only [List.length_cons, List.length_nil, Nat.reduceAdd, Nat.reduceLeDiff])) | ((with_reducible apply parGo); (· exact rfl)) | ((with_reducible apply asgGo); (· exact rfl)) | (with_reducible apply blGo)
  | ((with_reducible apply metGo); (· array_mem_dec)) | (with_reducible apply wr_fld) | ((with_reducible apply fldGo); (· array_mem_dec); (· exact rfl)) | (with_reducible apply wr_new) | (with_reducible apply wr_prop) | ((with_reducible apply propGo); (· array_mem_dec)) | (with_reducible apply isqT) | ((with_reducible apply isqL); (· array_mem_dec))
  | (with_reducible apply wr_me) | ((with_reducible apply methGo); (· array_mem_dec)) | (with_reducible apply wo_unl) | ((with_reducible apply unlGo); (· array_mem_dec); (· exact rfl); (· exact rfl)) | (with_reducible apply wo_try) | ((with_reducible apply wr_isX); (· array_mem_dec); (· first | exact rfl | decide)) | ((with_reducible apply wr_isXT); (· array_mem_dec); (· first | exact rfl | decide))
  | (with_reducible apply wr_neO) | ((with_reducible apply wr_eqO); (· array_mem_dec); (· array_mem_dec)) | ((with_reducible apply wr_isC); (· array_mem_dec)) | ((with_reducible apply wr_isi); (· first | exact rfl | (apply kindL; array_mem_dec)); (· decide)) | (with_reducible apply wr_sl) | (with_reducible apply wr_nop) | (with_reducible apply wo_dsub) | (with_reducible apply wr_dcomp)
  | (with_reducible apply bif_t) | (with_reducible apply bif_f) | (with_reducible apply bif_n) | ((with_reducible apply bif_dt); (· exact rfl)) | ((with_reducible apply bif_cf); (· decide)) | ((with_reducible apply bif_ct); (· decide)))
mutual
theorem toY_pur (S : Sto) : ∀ (w : Va) (n : Nat), pur w = true → (dat w).depth < n → toY S n w = some (dat w)
  | .non, n + 1, _, _ => rfl
  | .bl _, n + 1, _, _ => rfl
  | .int _, n + 1, _, _ => rfl
  | .str _, n + 1, _, _ => rfl
  | .tup ws, n + 1, h, d => by
    have := allY_pur S ws n (by simpa [pur] using h) (by simp only [dat, PyData.depth] at d; omega)
    show (allD (toY S n) ws).map PyData.tuple = _
    rw [this]
    rfl
theorem allY_pur (S : Sto) : ∀ (ws : List Va) (n : Nat), purs ws = true → PyData.depthAll (dats ws) < n → allD (toY S n) ws = some (dats ws)
  | [], _, _, _ => rfl
  | w :: ws, n, h, d => by
    simp only [purs, Bool.and_eq_true] at h
    simp only [dats, PyData.depthAll] at d
    have h1 := toY_pur S w n h.1 (by omega)
    have h2 := allY_pur S ws n h.2 (by omega)
    show (match toY S n w, allD (toY S n) ws with | some d, some ds => some (d :: ds) | _, _ => none) = _
    rw [h1, h2]
    rfl
end

/-- all but what M tells stays -/
def KM (M : Nat → Prop) (S T : Sto) : Prop := ∀ (j : Nat) (o : Ob), ¬ M j → S[j]? = some o → T[j]? = some o
theorem KM.refl (M : Nat → Prop) (S : Sto) : KM M S S := fun _ _ _ h => h
theorem KM.trans {M : Nat → Prop} {S T U : Sto} (a : KM M S T) (b : KM M T U) : KM M S U := fun j o n h => b j o n (a j o n h)
theorem KM.of {M : Nat → Prop} {S T : Sto} (k : Keep S T) : KM M S T := fun j o _ h => k j o h
theorem KM.kb {M : Nat → Prop} {S T : Sto} {p : Nat} (k : KeepB p S T) (hp : M p) : KM M S T := fun j o n h => k j o (fun z => n (z ▸ hp)) h
/-- data that stays -/
structure GY (M : Nat → Prop) (k z : Nat) (S : Sto) (w : Va) : Prop where
  kd : ∃ j, ∀ T, KM M S T → kind w T = some j
  ex : ∃ d, (∀ T n, KM M S T → k ≤ n → toY T n w = some d) ∧ okY d = true ∧ szY d ≤ z ∧ d.depth ≤ k
section
variable {M M' : Nat → Prop} {k z : Nat} {S T : Sto} {w : Va} {ws : List Va}
theorem GY.km (h : GY M k z S w) (q : KM M S T) : GY M k z T w := by
  obtain ⟨d, h1, h2⟩ := h.ex
  obtain ⟨j, h3⟩ := h.kd
  exact ⟨⟨j, fun U y => h3 U (q.trans y)⟩, d, fun U n y ln => h1 U n (q.trans y) ln, h2⟩
theorem GY.up (h : GY M k z S w) {k' z' : Nat} (hk : k ≤ k') (hz : z ≤ z') : GY M k' z' S w := by
  obtain ⟨d, h1, h2, h3, h4⟩ := h.ex
  exact ⟨h.kd, d, fun U n y ln => h1 U n y (by omega), h2, by omega, by omega⟩
theorem GY.less (h : GY M' k z S w) (m : ∀ j, M j → M' j) : GY M k z S w := by
  obtain ⟨d, h1, h2⟩ := h.ex
  obtain ⟨j, h3⟩ := h.kd
  have c : ∀ {T}, KM M S T → KM M' S T := fun q j o n e => q j o (fun y => n (m j y)) e
  exact ⟨⟨j, fun U y => h3 U (c y)⟩, d, fun U n y ln => h1 U n (c y) ln, h2⟩
theorem gy_pur (h : pur w = true) (h0 : okY (dat w) = true) (h1 : szY (dat w) ≤ z) (h2 : (dat w).depth < k) (hk : ∃ j, ∀ T, kind w T = some j) : GY M k z S w :=
  ⟨let ⟨j, q⟩ := hk; ⟨j, fun T _ => q T⟩, dat w, fun T n _ ln => toY_pur T w n h (by omega), h0, h1, by omega⟩
theorem gy_all : ∀ {ws : List Va}, (∀ w ∈ ws, GY M k z S w) → ∃ ds, (∀ T n, KM M S T → k ≤ n → allD (toY T n) ws = some ds) ∧ okYL ds = true ∧ szYL ds ≤ (z + 2) * ws.length ∧ PyData.depthAll ds ≤ k
  | [], _ => ⟨[], fun T n _ _ => rfl, by simp [okYL], by simp [szYL], by simp [PyData.depthAll]⟩
  | w :: ws, h => by
    obtain ⟨d, a1, a2, a3, a4⟩ := (h w List.mem_cons_self).ex
    obtain ⟨ds, b1, b2, b3, b4⟩ := gy_all (ws := ws) fun u hu => h u (List.mem_cons_of_mem _ hu)
    refine ⟨d :: ds, fun T n y ln => ?_, by simp [okYL, a2, b2], ?_, by simp only [PyData.depthAll]; omega⟩
    · show (match toY T n w, allD (toY T n) ws with | some d, some ds => some (d :: ds) | _, _ => none) = _
      rw [a1 T n y ln, b1 T n y ln]
    · simp only [szYL, List.length_cons]
      rw [Nat.mul_succ]
      omega
theorem gy_tup {z' : Nat} (h : ∀ w ∈ ws, GY M k z S w) (hz : (z + 2) * ws.length + 3 ≤ z') : GY M (k + 1) z' S (.tup ws) := by
  obtain ⟨ds, b1, b2, b3, b4⟩ := gy_all h
  refine ⟨⟨4, fun T _ => rfl⟩, .tuple ds, fun T n y ln => ?_, by simp [okY, b2], by simp only [szY]; omega, by simp only [PyData.depth]; omega⟩
  obtain ⟨m, rfl⟩ : ∃ m, n = m + 1 := ⟨n - 1, by omega⟩
  show (allD (toY T m) ws).map PyData.tuple = _
  rw [b1 T m y (by omega)]
  rfl
theorem gy_lst {l z' : Nat} (hl : S[l]? = some (.lst ws)) (nl : ¬ M l) (h : ∀ w ∈ ws, GY M k z S w) (hz : (z + 2) * ws.length + 3 ≤ z') : GY M (k + 1) z' S (.loc l) := by
  obtain ⟨ds, b1, b2, b3, b4⟩ := gy_all h
  refine ⟨⟨5, fun T y => ?_⟩, .list ds, fun T n y ln => ?_, by simp [okY, b2], by simp only [szY]; omega, by simp only [PyData.depth]; omega⟩
  · show (match T[l]? with | some (.lst _) => some 5 | some (.frl _) => some 5 | some (.dci _) => some 6 | some (.dcs _) => some 6 | _ => none) = some 5
    rw [y l _ nl hl]
  · obtain ⟨m, rfl⟩ : ∃ m, n = m + 1 := ⟨n - 1, by omega⟩
    show (match T[l]? with | some (.lst ws) => (allD (toY T m) ws).map PyData.list | some (.dci []) => some (.dict []) | some (.dct kvs) => (allKv (toY T m) kvs).map .dict | some (.frd kvs) => (allKv (toY T m) kvs).map .dict | some (.dcs kvs) => (allKs (toY T m) kvs).map .dict | _ => none) = _
    rw [y l _ nl hl]
    dsimp only
    rw [b1 T m y (by omega)]
    rfl
theorem gy_dci {l : Nat} (hl : S[l]? = some (.dci [])) (nl : ¬ M l) : GY M 1 250 S (.loc l) := by
  refine ⟨⟨6, fun T y => ?_⟩, .dict [], fun T n y ln => ?_, by simp [okY, okYK], by simp [szY, szYK], by simp [PyData.depth, PyData.depthKv]⟩
  · show (match T[l]? with | some (.lst _) => some 5 | some (.frl _) => some 5 | some (.dci _) => some 6 | some (.dcs _) => some 6 | _ => none) = some 6
    rw [y l _ nl hl]
  · obtain ⟨m, rfl⟩ : ∃ m, n = m + 1 := ⟨n - 1, by omega⟩
    show (match T[l]? with | some (.lst ws) => (allD (toY T m) ws).map PyData.list | some (.dci []) => some (.dict []) | some (.dct kvs) => (allKv (toY T m) kvs).map .dict | some (.frd kvs) => (allKv (toY T m) kvs).map .dict | some (.dcs kvs) => (allKs (toY T m) kvs).map .dict | _ => none) = _
    rw [y l _ nl hl]
theorem gy_ks : ∀ {ps : List (Str × Va)}, (∀ p ∈ ps, (okY (.str p.1) = true ∧ p.1.length ≤ 1) ∧ GY M k z S p.2) → ∃ ds, (∀ T n, KM M S T → k ≤ n → allKs (toY T n) ps = some ds) ∧ okYK ds = true ∧ szYK ds ≤ (z + 18) * ps.length ∧ (1 ≤ k → PyData.depthKv ds ≤ k)
  | [], _ => ⟨[], fun T n _ _ => rfl, by simp [okYK], by simp [szYK], fun _ => by simp [PyData.depthKv]⟩
  | p :: ps, h => by
    obtain ⟨⟨c1, c2⟩, g⟩ := h p List.mem_cons_self
    obtain ⟨d, a1, a2, a3, a4⟩ := g.ex
    obtain ⟨ds, b1, b2, b3, b4⟩ := gy_ks (ps := ps) fun u hu => h u (List.mem_cons_of_mem _ hu)
    refine ⟨(.str p.1, d) :: ds, fun T n y ln => ?_, by simp [okYK, c1, a2, b2], ?_, fun hk => by have := b4 hk; simp only [PyData.depthKv, PyData.depth]; omega⟩
    · show (match toY T n p.2, allKs (toY T n) ps with | some b, some ks => some ((PyData.str p.1, b) :: ks) | _, _ => none) = _
      rw [a1 T n y ln, b1 T n y ln]
    · simp only [szYK, szY, List.length_cons]
      rw [Nat.mul_succ]
      omega
theorem gy_dcs {l z' : Nat} {ps : List (Str × Va)} (hl : S[l]? = some (.dcs ps)) (nl : ¬ M l) (hk : 1 ≤ k) (h : ∀ p ∈ ps, (okY (.str p.1) = true ∧ p.1.length ≤ 1) ∧ GY M k z S p.2) (hz : (z + 18) * ps.length + 3 ≤ z') : GY M (k + 1) z' S (.loc l) := by
  obtain ⟨ds, b1, b2, b3, b4⟩ := gy_ks h
  have := b4 hk
  refine ⟨⟨6, fun T y => ?_⟩, .dict ds, fun T n y ln => ?_, by simp [okY, b2], by simp only [szY]; omega, by simp only [PyData.depth]; omega⟩
  · show (match T[l]? with | some (.lst _) => some 5 | some (.frl _) => some 5 | some (.dci _) => some 6 | some (.dcs _) => some 6 | _ => none) = some 6
    rw [y l _ nl hl]
  · obtain ⟨m, rfl⟩ : ∃ m, n = m + 1 := ⟨n - 1, by omega⟩
    show (match T[l]? with | some (.lst ws) => (allD (toY T m) ws).map PyData.list | some (.dci []) => some (.dict []) | some (.dct kvs) => (allKv (toY T m) kvs).map .dict | some (.frd kvs) => (allKv (toY T m) kvs).map .dict | some (.dcs kvs) => (allKs (toY T m) kvs).map .dict | _ => none) = _
    rw [y l _ nl hl]
    dsimp only
    rw [b1 T m y (by omega)]
    rfl
theorem gy_repr {x y u : Va} (hx : GY M 20 100000 S x) (hy : GY M 20 100000 S y) (hu : GY M 20 100000 S u) : ∃ X : Str, ∀ T l, KM M S T → T[l]? = some (.lst [x, y, u]) → fReprY [.loc l] T = .ok (.str X) T := by
  obtain ⟨ds, b1, b2, b3, b4⟩ := gy_all (ws := [x, y, u]) fun w hw => by
    simp only [List.mem_cons, List.not_mem_nil, or_false] at hw
    rcases hw with rfl | rfl | rfl
    · exact hx
    · exact hy
    · exact hu
  refine ⟨(PyData.list ds).shown, fun T l y hl => fReprY_eq ?_ (by simp [okY, b2]) (by simp only [szY]; simp only [List.length_cons, List.length_nil] at b3; omega) (by simp only [PyData.depth]; omega)⟩
  show (match T[l]? with | some (.lst ws) => (allD (toY T 63) ws).map PyData.list | some (.dci []) => some (.dict []) | some (.dct kvs) => (allKv (toY T 63) kvs).map .dict | some (.frd kvs) => (allKv (toY T 63) kvs).map .dict | some (.dcs kvs) => (allKs (toY T 63) kvs).map .dict | _ => none) = _
  rw [hl]
  dsimp only
  rw [b1 T 63 y (by omega)]
  rfl
end
def anyC : List Va := [.int 0, .int 1, .int (-1), .bl true, .non, .str "", .str "0", .str "a", .str "aA", .int (10 ^ 39), .str "10"]
theorem anyC_ok {M : Nat → Prop} {S : Sto} : ∀ w ∈ anyC, GY M 2 260 S w := fun w hw => by
  simp only [anyC, List.mem_cons, List.not_mem_nil, or_false] at hw
  rcases hw with rfl | rfl | rfl | rfl | rfl | rfl | rfl | rfl | rfl | rfl | rfl <;> exact gy_pur rfl (by decide +kernel) (by decide +kernel) (by decide +kernel) ⟨_, fun _ => rfl⟩
end Law
namespace Law
open PySem PySem.Spec PyProof.Rows L2 Rz PySem.W
local macro_rules | `(tactic| array_mem_dec) => `(tactic| first | assumption | ((with_reducible refine Keep.at' (by assumption) ?_); array_mem_dec) | ((with_reducible refine KeepB.at' (by assumption) (by first | assumption | omega) ?_); array_mem_dec))
local macro_rules | `(tactic| array_get_dec) => `(tactic| first
  | (with_reducible apply wo_seq) | (with_reducible apply wo_set) | (with_reducible apply wo_ret) | (with_reducible apply wo_if) | (with_reducible apply wo_exp)
  | (with_reducible apply wr_lit) | ((with_reducible apply wr_var); exact rfl) | (with_reducible apply wr_bin) | (with_reducible apply wr_binB) | (with_reducible apply wr_call) | (with_reducible apply wr_cons) | (with_reducible apply wr_nil)
  | (with_reducible apply wr_fn) | (with_reducible apply wr_not) | (with_reducible apply wr_and) | (with_reducible apply wr_or) | (with_reducible apply wr_ite) | (with_reducible apply wr_boo) | (with_reducible apply wr_tru) | (with_reducible apply wr_yes)
  | (with_reducible apply wr_tup) | (with_reducible apply wr_lst) | (with_reducible apply wr_un) | (with_reducible apply wr_isN) | (with_reducible apply wr_andV) | (with_reducible apply wr_orV) | (with_reducible apply wr_notV) | (with_reducible apply wr_orT) | (with_reducible apply wr_chain)
  | (with_reducible apply wr_addI) | (with_reducible apply wr_subI) | ((with_reducible apply wr_mulR); (· decide); (· decide)) | ((with_reducible apply wr_mulL); (· decide); (· decide)) | ((with_reducible apply wr_divI); (· omega); (· omega)) | ((with_reducible apply wr_modI); (· omega)) | (with_reducible apply wr_neg)
  | (with_reducible apply wr_lt) | (with_reducible apply wr_le) | (with_reducible apply wr_gt) | (with_reducible apply wr_ge) | ((with_reducible apply wr_eqS); exact rfl) | (with_reducible apply wr_ne) | (with_reducible apply wr_isB) | (with_reducible apply wr_isnB)
  | ((with_reducible apply wr_ixT); (· exact rfl)) | ((with_reducible apply wr_ixL); (· array_mem_dec); (· exact rfl)) | (with_reducible apply wr_trB) | ((with_reducible apply wr_trL); array_mem_dec) | ((with_reducible apply wr_lenL); array_mem_dec) | (with_reducible apply wr_lenT) | (with_reducible apply wr_intI) | (with_reducible apply wr_abs) | (with_reducible apply wr_min2)
  | (with_reducible apply wo_nx) | (with_reducible apply wo_retN) | (with_reducible apply wo_raise) | (with_reducible apply wo_asg) | (with_reducible apply wo_par) | (with_reducible apply wo_sub) | (with_reducible apply wo_for) | (with_reducible apply wr_isq) | (with_reducible apply wr_irg1) | (with_reducible apply wr_comp) | (with_reducible apply wr_met) | (with_reducible apply wr_met0)
  | ((with_reducible apply fnGo); (· exact rfl)) | ((with_reducible apply tupGo); (· simp only [List.length_cons, List.length_nil, Nat.reduceAdd, Nat.reduceLeDiff])) | ((with_reducible apply lstGo); (· simp only [List.length_cons, List.length_nil, Nat.reduceAdd, Nat.reduceLeDiff])) | ((with_reducible apply parGo); (· exact rfl)) | ((with_reducible apply asgGo); (· exact rfl)) | (with_reducible apply blGo)
  | ((with_reducible apply metGo); (· array_mem_dec)) | (with_reducible apply wr_fld) | ((with_reducible apply fldGo); (· array_mem_dec); (· exact rfl)) | (with_reducible apply wr_new) | (with_reducible apply wr_prop) | ((with_reducible apply propGo); (· array_mem_dec)) | (with_reducible apply isqT) | ((with_reducible apply isqL); (· array_mem_dec))
  | (with_reducible apply wr_me) | ((with_reducible apply methGo); (· array_mem_dec)) | (with_reducible apply wo_unl) | ((with_reducible apply unlGo); (· array_mem_dec); (· exact rfl); (· exact rfl)) | (with_reducible apply wo_try) | ((with_reducible apply wr_isX); (· array_mem_dec); (· first | exact rfl | decide)) | ((with_reducible apply wr_isXT); (· array_mem_dec); (· first | exact rfl | decide))
  | (with_reducible apply wr_neO) | ((with_reducible apply wr_eqO); (· array_mem_dec); (· array_mem_dec)) | ((with_reducible apply wr_isC); (· array_mem_dec)) | ((with_reducible apply wr_isi); (· first | exact rfl | (apply kindL; array_mem_dec)); (· decide)) | (with_reducible apply wr_sl) | (with_reducible apply wr_nop) | (with_reducible apply wo_dsub) | (with_reducible apply wr_dcomp)
  | (with_reducible apply bif_t) | (with_reducible apply bif_f) | (with_reducible apply bif_n) | ((with_reducible apply bif_dt); (· exact rfl)) | ((with_reducible apply bif_cf); (· decide)) | ((with_reducible apply bif_ct); (· decide)))
theorem Pen.mono {S : Sto} {p n m : Nat} (h : Pen S p n) (hm : n ≤ m) : Pen S p m := by
  obtain ⟨l, cs, idx, d, h1, h2, h3, h4, h5⟩ := h
  exact ⟨l, cs, idx, d, h1, h2, h3, h4, by omega⟩
theorem Pen.lt {S : Sto} {p n : Nat} (h : Pen S p n) : p < S.length := by
  obtain ⟨l, cs, idx, d, h1, h2, h3, h4, h5⟩ := h
  exact (List.getElem?_eq_some_iff.mp h2).1
theorem kbLen {S S' : Sto} {p : Nat} (k : KeepB p S S') (hp : p < S'.length) : S.length ≤ S'.length := by
  rcases Nat.lt_or_ge S'.length S.length with h | h
  · have e : S[S'.length]? = some S[S'.length] := List.getElem?_eq_getElem h
    have := (List.getElem?_eq_some_iff.mp (k _ _ (by omega) e)).1
    omega
  · exact h

theorem w_any {j : Nat} {a0 a1 : Va} {S : Sto} {Q : Va → Sto → Prop} {E : Xp} (h : wo ((sseq (sset 2 (ycall 2 m__law_draw (acons (xvar 0) (acons (xite (xbinB cGt (xvar 1) (xlit (.int 0))) (xlit (.int 15)) (xlit (.int 11))) anil))))
  (sseq (sif (xbinB cLt (xvar 2) (xlit (.int 11))) (sret (xbin oIx (xlst (acons (xlit (.int 0)) (acons (xlit (.int 1)) (acons (xun oNeg (xlit (.int 1))) (acons (xlit (.bl true)) (acons (xlit .non) (acons (xlit (.str "")) (acons (xlit (.str "0")) (acons (xlit (.str "a")) (acons (xlit (.str "aA")) (acons (xbin oPow (xlit (.int 10)) (xlit (.int 39))) (acons (xlit (.str "10")) anil)))))))))))) (xvar 2))) snext)
  (sseq (sset 3 (xcomp [4] (irg1 (ycall 2 m__law_draw (acons (xvar 0) (acons (xlit (.int 4)) anil)))) (pname 4) xyes (ycall 2 (r__law_any j) (acons (xvar 0) (acons (xbin oSub (xvar 1) (xlit (.int 1))) anil)))))
  (sseq (sif (xbinB cEq (xvar 2) (xlit (.int 11))) (sret (xvar 3)) snext)
  (sseq (sif (xbinB cEq (xvar 2) (xlit (.int 12))) (sret (xcall fDictS (acons (xcomp [5] (irg1 (xcall fLen (acons (xvar 3) anil))) (pname 5) xyes (xtup (acons (xbin oIx (xlst (acons (xlit (.str "a")) (acons (xlit (.str "b")) (acons (xlit (.str "c")) (acons (xlit (.int 0)) anil))))) (xvar 5)) (acons (xbin oIx (xvar 3) (xvar 5)) anil)))) anil))) snext)
  (sret (xcall fTup (acons (xvar 3) anil)))))))) [some a0, some a1, none, none, none, none] S) (fun _ S1 => Q .non S1) (fnK Q E)) : wr (r__law_any (j + 1) [a0, a1] S) Q E := fn_wo (k := 6) (b := b__law_any (r__law_any j)) rfl h
theorem pow39 (S : Sto) : oPow (.int 10) (.int 39) S = .ok (.int (10 ^ 39)) S := rfl
theorem wr_dictS {S : Sto} {l : Nat} {us : List Va} {ps : List (Str × Va)} {QV : Va → Sto → Prop} {E : Xp} (h1 : S[l]? = some (.lst us)) (h2 : prsS us = some ps) (nd : (ps.map Prod.fst).Nodup) (h : ∀ d T, d = S.length → T.length = S.length + 1 → Keep S T → T[d]? = some (.dcs ps) → QV (.loc d) T) : wr (fDictS [.loc l] S) QV E := by
  unfold fDictS
  dsimp only
  rw [h1]
  dsimp only
  rw [h2]
  dsimp only
  rw [decide_eq_true nd]
  with_unfolding_all exact h _ _ rfl (by simp) (Keep.app S _) (get_new _ _ _)
theorem Pen.app {S T : Sto} {p m c : Nat} (h : Pen S p m) (hc : p < c) (k : KeepB c S T) : Pen T p m := by
  obtain ⟨l, cs, ix, dd, e1, e2, e3, e4⟩ := h
  exact ⟨l, cs, ix, dd, e1, k _ _ (by omega) e2, k _ _ (by omega) e3, e4⟩
def cc : Nat → Nat
  | 0 => 1
  | n + 1 => 2 + 3 * cc n
def zz : Nat → Nat
  | 0 => 260
  | n + 1 => (zz n + 20) * 3 + 3
theorem zz_le : ∀ n, 260 ≤ zz n
  | 0 => Nat.le_refl _
  | n + 1 => by have := zz_le n; show 260 ≤ (zz n + 20) * 3 + 3; omega
theorem cc_le : ∀ n, 1 ≤ cc n
  | 0 => Nat.le_refl _
  | n + 1 => by show 1 ≤ 2 + 3 * cc n; omega
def kS : Nat → Str
  | 0 => "a"
  | 1 => "b"
  | _ => "c"
theorem kS_at {i : Nat} (h : i < 3) : atI [Va.str "a", .str "b", .str "c", .int 0] (0 + (i : Int)) = some (.str (kS i)) := by
  have : i = 0 ∨ i = 1 ∨ i = 2 := by omega
  rcases this with rfl | rfl | rfl <;> rfl
theorem kS_ok (i : Nat) : okY (.str (kS i)) = true ∧ (kS i).length ≤ 1 := by
  unfold kS
  split <;> exact ⟨by decide +kernel, by decide +kernel⟩
theorem kS_nd : ∀ n, n < 4 → ((List.range n).map kS).Nodup := by decide +kernel
theorem prsS_map {f : Nat → Str} {g : Nat → Va} : ∀ l : List Nat, prsS (l.map fun i => Va.tup [.str (f i), g i]) = some (l.map fun i => (f i, g i))
  | [] => rfl
  | i :: l => by
    show (match prS (.tup [.str (f i), g i]), prsS (l.map fun i => Va.tup [.str (f i), g i]) with | some p, some ps => some (p :: ps) | _, _ => none) = _
    rw [prsS_map l]
    rfl
theorem any_small {M : Nat → Prop} {w : Int} {T : Sto} {δ : Rz.Env} (h0 : 0 ≤ w) (h1 : w < 11) (hd : δ[2]? = some (some (.int w))) {QV : Va → Sto → Prop} {E : Xp} (q : ∀ v U, Keep T U → GY M 2 260 U v → QV v U) : wr ((xbin oIx (xlst (acons (xlit (.int 0)) (acons (xlit (.int 1)) (acons (xun oNeg (xlit (.int 1))) (acons (xlit (.bl true)) (acons (xlit .non) (acons (xlit (.str "")) (acons (xlit (.str "0")) (acons (xlit (.str "a")) (acons (xlit (.str "aA")) (acons (xbin oPow (xlit (.int 10)) (xlit (.int 39))) (acons (xlit (.str "10")) anil)))))))))))) (xvar 2)) δ T) QV E := by
  repeat array_get_dec
  refine wr_of (pow39 _) ?_
  repeat array_get_dec
  intro l U _ _ kU hU
  obtain ⟨i, rfl⟩ := Int.eq_ofNat_of_zero_le h0
  have il : i < anyC.length := by show i < 11; omega
  refine wr_var hd ?_
  refine wr_ixL hU (atI_nat (xs := anyC) (j := i) (v := anyC[i]) (List.getElem?_eq_getElem il)) ?_
  exact q _ _ kU (anyC_ok _ (List.getElem_mem il))
theorem any_ok : ∀ (lv j : Nat), lv < j → ∀ (p m : Nat) (M : Nat → Prop) (S : Sto), m + cc lv + 20 < 4294967296 → Pen S p m → M p → (∀ i, M i → i < S.length) →
    wr (r__law_any j [.loc p, .int (lv : Int)] S) (fun v T => GY M (lv + 2) (zz lv) T v ∧ Pen T p (m + cc lv) ∧ KeepB p S T ∧ S.length ≤ T.length) noE
  | 0, j + 1, _, p, m, M, S, hm, pn, Mp, MS => by
    refine w_any ?_
    repeat array_get_dec
    obtain ⟨w, T1, a1, a2, a3, a4, a5⟩ := draw_ok p m (by omega) S pn 11 (by decide) (by decide)
    have l1 := kbLen a5 a4.lt
    refine wr_of a1 ?_
    repeat array_get_dec
    refine bif_d (fun c => ?_) (fun c => absurd a3 c)
    refine wo_ret (any_small (M := M) a2 c rfl fun v U kU g => ?_)
    exact ⟨g, (a4.keep kU).mono (by show m + 1 ≤ m + 1; omega), fun i o ne z => kU _ _ (a5 _ _ ne z), Nat.le_trans l1 (Keep.len kU)⟩
  | lv + 1, j + 1, hj, p, m, M, S, hm, pn, Mp, MS => by
    have ecc : cc (lv + 1) = 2 + 3 * cc lv := rfl
    have ezz : zz (lv + 1) = (zz lv + 20) * 3 + 3 := rfl
    have z0 := zz_le lv
    have c0 := cc_le lv
    have hp := MS p Mp
    refine w_any ?_
    repeat array_get_dec
    refine bif_d (fun c => ?_) (fun c => absurd (by omega) c)
    repeat array_get_dec
    obtain ⟨w, T1, a1, a2, a3, a4, a5⟩ := draw_ok p m (by omega) S pn 15 (by decide) (by decide)
    have l1 := kbLen a5 a4.lt
    refine wr_of a1 ?_
    repeat array_get_dec
    refine bif_d (fun c => ?_) (fun c11 => ?_)
    · refine wo_ret (any_small (M := M) a2 c rfl fun v U kU g => ?_)
      exact ⟨g.up (by omega) (by omega), (a4.keep kU).mono (by omega), fun i o ne z => kU _ _ (a5 _ _ ne z), Nat.le_trans l1 (Keep.len kU)⟩
    · repeat array_get_dec
      obtain ⟨w2, T2, b1, b2, b3, b4, b5⟩ := draw_ok p (m + 1) (by omega) T1 a4 4 (by decide) (by decide)
      have l2 := kbLen b5 b4.lt
      refine wr_of b1 ?_
      obtain ⟨n, rfl⟩ := Int.eq_ofNat_of_zero_le b2
      refine rngGo n rfl (by omega) ?_
      intro D U1 eD lU1 k1 hD
      have pD : p < D := by omega
      let M' : Nat → Prop := fun i => M i ∨ i = D
      refine (wr_cR (n := n) (by omega) (fun i acc U => acc.length = i ∧ (∀ v ∈ acc, GY M' (lv + 2) (zz lv) U v) ∧ Pen U p (m + 2 + cc lv * i) ∧ (∀ (x : Nat) (o : Ob), x ≠ p → x ≠ D → U1[x]? = some o → U[x]? = some o) ∧ U1.length ≤ U.length) ⟨rfl, (fun v hv => nomatch hv), b4.keep k1, fun x o _ _ z => z, Nat.le_refl _⟩ hD (fun i acc U hi ⟨la, ga, pU, kU, lU⟩ hU => ⟨_, rfl, wr_yes (bif_t ?_)⟩)
        (QV := fun v U => v = .loc D ∧ ∃ acc, U[D]? = some (.lst acc) ∧ acc.length = n ∧ (∀ v ∈ acc, GY M' (lv + 2) (zz lv) U v) ∧ Pen U p (m + 2 + cc lv * n) ∧ (∀ (x : Nat) (o : Ob), x ≠ p → x ≠ D → U1[x]? = some o → U[x]? = some o) ∧ U1.length ≤ U.length) (E := noE) (fun acc U ⟨la, ga, pU, kU, lU⟩ hU => ⟨rfl, acc, hU, la, ga, pU, kU, lU⟩)).use fun v U ⟨ev, acc, hU, la, ga, pU, kU, lU⟩ => ?_
      · repeat array_get_dec
        have e1 : ((lv + 1 : Nat) : Int) - 1 = (lv : Int) := by omega
        rw [e1]
        have hb : cc lv * i ≤ cc lv * 2 := Nat.mul_le_mul_left _ (by omega)
        refine (any_ok lv j (by omega) p (m + 2 + cc lv * i) M' U (by omega) pU (.inl Mp) (fun x hx => by
          rcases hx with hx | hx
          · have := MS x hx; omega
          · rw [hx]; exact lt_of hU)).use fun v T ⟨g, pT, kT, lT⟩ => ?_
        refine ⟨kT _ _ (by omega) hU, fun T' lT' kb hT' => ⟨by simp [la], fun u hu => ?_, (pT.app pD kb).mono (by rw [Nat.mul_succ]; omega), fun x o x1 x2 z => kb _ _ x2 (kT _ _ x1 (kU _ _ x1 x2 z)), by omega⟩⟩
        rcases List.mem_append.mp hu with z | z
        · exact ((ga u z).km (KM.kb kT (.inl Mp))).km (KM.kb kb (.inr rfl))
        · rw [List.mem_singleton.mp z]
          exact g.km (KM.kb kb (.inr rfl))
      · subst ev
        have hb : cc lv * n ≤ cc lv * 3 := Nat.mul_le_mul_left _ (by omega)
        have gm : ∀ v ∈ acc, GY M (lv + 2) (zz lv) U v := fun v hv => (ga v hv).less fun i hi => .inl hi
        have nD : ¬ M D := fun z => by have := MS D z; omega
        have kSU : KeepB p S U := fun x o x1 z => kU _ _ x1 (by have := lt_of z; omega) (k1 _ _ (b5 _ _ x1 (a5 _ _ x1 z)))
        have lSU : S.length ≤ U.length := by omega
        have zm : (zz lv + 2) * acc.length + 3 ≤ zz (lv + 1) := by
          have : (zz lv + 2) * acc.length ≤ (zz lv + 2) * 3 := Nat.mul_le_mul_left _ (by omega)
          omega
        repeat array_get_dec
        refine bif_d (fun c => ?_) (fun c => ?_)
        · repeat array_get_dec
          exact ⟨gy_lst hU nD gm zm, pU.mono (by omega), kSU, lSU⟩
        · repeat array_get_dec
          refine bif_d (fun c12 => ?_) (fun c12 => ?_)
          · repeat array_get_dec
            refine rngGo n (by rw [la]) (by omega) ?_
            intro D5 V1 eD5 lV1 kV1 hD5
            refine (wr_cR (n := n) (by omega) (fun i a5 V => a5 = ((List.range i).map fun x => Va.tup [.str (kS x), acc.getD x .non]) ∧ KeepB D5 V1 V) ⟨rfl, KeepB.refl _ _⟩ hD5 (fun i a5 V hi ⟨ea, kV⟩ hV => ⟨_, rfl, wr_yes (bif_t ?_)⟩) (QV := fun v V => v = .loc D5 ∧ V[D5]? = some (.lst ((List.range n).map fun x => Va.tup [.str (kS x), acc.getD x .non])) ∧ KeepB D5 V1 V) (E := noE) (fun a5 V ⟨ea, kV⟩ hV => ⟨rfl, by rw [hV, ea], kV⟩)).use fun v V ⟨ev, hV, kV⟩ => ?_
            · repeat array_get_dec
              intro q W eq lW kW hq
              have hDW := kW _ _ (kV _ _ (by have := lt_of hU; omega) (kV1 _ _ hU))
              have il : i < acc.length := by omega
              repeat array_get_dec
              refine wr_ixL hq (kS_at (by omega)) ?_
              repeat array_get_dec
              refine wr_ixL hDW (by rw [Int.zero_add]; exact atI_nat (List.getElem?_eq_getElem il)) ?_
              repeat array_get_dec
              refine ⟨kW _ _ hV, fun T _ kT hT => ⟨?_, fun x o ne z => kT _ _ ne (kW _ _ (kV _ _ ne z))⟩⟩
              rw [List.range_succ, List.map_append, ea]
              show _ ++ [_] = _ ++ [Va.tup [.str (kS i), acc.getD i .non]]
              rw [List.getD_eq_getElem?_getD, List.getElem?_eq_getElem il]
              rfl
            · subst ev
              repeat array_get_dec
              refine wr_dictS hV (prsS_map _) (by rw [List.map_map]; exact kS_nd n (by omega)) fun d W ed lW kW hd => ?_
              have kUW : Keep U W := fun x o z => kW _ _ (kV _ _ (by have := lt_of z; omega) (kV1 _ _ z))
              have lV := Keep.len kUW
              have dl : ¬ M d := fun z => by
                have := MS d z
                have := kbLen kV (lt_of hV)
                omega
              refine ⟨gy_dcs (k := lv + 2) (z := zz lv) hd dl (by omega) (fun q hq => ?_) ?_, (pU.keep kUW).mono (by omega), fun x o ne z => kUW _ _ (kSU _ _ ne z), by omega⟩
              · obtain ⟨x, hx, rfl⟩ := List.mem_map.mp hq
                have xl : x < acc.length := by have := List.mem_range.mp hx; omega
                refine ⟨kS_ok x, ?_⟩
                show GY M (lv + 2) (zz lv) W (acc.getD x .non)
                rw [List.getD_eq_getElem?_getD, List.getElem?_eq_getElem xl]
                exact (gm _ (List.getElem_mem xl)).km (KM.of kUW)
              · rw [List.length_map, List.length_range]
                have : (zz lv + 18) * n ≤ (zz lv + 18) * 3 := Nat.mul_le_mul_left _ (by omega)
                omega
          · repeat array_get_dec
            refine wr_tupL hU (by omega) ?_
            exact ⟨gy_tup gm zm, pU.mono (by omega), kSU, lSU⟩
end Law
namespace Law
open PySem PySem.Spec PyProof.Rows L2 Rz PySem.W
local macro_rules | `(tactic| array_mem_dec) => `(tactic| first | assumption | ((with_reducible refine Keep.at' (by assumption) ?_); array_mem_dec) | ((with_reducible refine KeepB.at' (by assumption) (by first | assumption | omega) ?_); array_mem_dec))
local macro_rules | `(tactic| array_get_dec) => `(tactic| first
  | (with_reducible apply wo_seq) | (with_reducible apply wo_set) | (with_reducible apply wo_ret) | (with_reducible apply wo_if) | (with_reducible apply wo_exp)
  | (with_reducible apply wr_lit) | ((with_reducible apply wr_var); exact rfl) | (with_reducible apply wr_bin) | (with_reducible apply wr_binB) | (with_reducible apply wr_call) | (with_reducible apply wr_cons) | (with_reducible apply wr_nil)
  | (with_reducible apply wr_fn) | (with_reducible apply wr_not) | (with_reducible apply wr_and) | (with_reducible apply wr_or) | (with_reducible apply wr_ite) | (with_reducible apply wr_boo) | (with_reducible apply wr_tru) | (with_reducible apply wr_yes)
  | (with_reducible apply wr_tup) | (with_reducible apply wr_lst) | (with_reducible apply wr_un) | (with_reducible apply wr_isN) | (with_reducible apply wr_andV) | (with_reducible apply wr_orV) | (with_reducible apply wr_notV) | (with_reducible apply wr_orT) | (with_reducible apply wr_chain)
  | (with_reducible apply wr_addI) | (with_reducible apply wr_subI) | ((with_reducible apply wr_mulR); (· decide); (· decide)) | ((with_reducible apply wr_mulL); (· decide); (· decide)) | ((with_reducible apply wr_divI); (· omega); (· omega)) | ((with_reducible apply wr_modI); (· omega)) | (with_reducible apply wr_neg)
  | (with_reducible apply wr_lt) | (with_reducible apply wr_le) | (with_reducible apply wr_gt) | (with_reducible apply wr_ge) | ((with_reducible apply wr_eqS); exact rfl) | (with_reducible apply wr_ne) | (with_reducible apply wr_isB) | (with_reducible apply wr_isnB)
  | ((with_reducible apply wr_ixT); (· exact rfl)) | ((with_reducible apply wr_ixL); (· array_mem_dec); (· exact rfl)) | (with_reducible apply wr_trB) | ((with_reducible apply wr_trL); array_mem_dec) | ((with_reducible apply wr_lenL); array_mem_dec) | (with_reducible apply wr_lenT) | (with_reducible apply wr_intI) | (with_reducible apply wr_abs) | (with_reducible apply wr_min2)
  | (with_reducible apply wo_nx) | (with_reducible apply wo_retN) | (with_reducible apply wo_raise) | (with_reducible apply wo_asg) | (with_reducible apply wo_par) | (with_reducible apply wo_sub) | (with_reducible apply wo_for) | (with_reducible apply wr_isq) | (with_reducible apply wr_irg1) | (with_reducible apply wr_comp) | (with_reducible apply wr_met) | (with_reducible apply wr_met0)
  | ((with_reducible apply fnGo); (· exact rfl)) | ((with_reducible apply tupGo); (· simp only [List.length_cons, List.length_nil, Nat.reduceAdd, Nat.reduceLeDiff])) | ((with_reducible apply lstGo); (· simp only [List.length_cons, List.length_nil, Nat.reduceAdd, Nat.reduceLeDiff])) | ((with_reducible apply parGo); (· exact rfl)) | ((with_reducible apply asgGo); (· exact rfl)) | (with_reducible apply blGo)
  | ((with_reducible apply metGo); (· array_mem_dec)) | (with_reducible apply wr_fld) | ((with_reducible apply fldGo); (· array_mem_dec); (· exact rfl)) | (with_reducible apply wr_new) | (with_reducible apply wr_prop) | ((with_reducible apply propGo); (· array_mem_dec)) | (with_reducible apply isqT) | ((with_reducible apply isqL); (· array_mem_dec))
  | (with_reducible apply wr_me) | ((with_reducible apply methGo); (· array_mem_dec)) | (with_reducible apply wo_unl) | ((with_reducible apply unlGo); (· array_mem_dec); (· exact rfl); (· exact rfl)) | (with_reducible apply wo_try) | ((with_reducible apply wr_isX); (· array_mem_dec); (· first | exact rfl | decide)) | ((with_reducible apply wr_isXT); (· array_mem_dec); (· first | exact rfl | decide))
  | (with_reducible apply wr_neO) | ((with_reducible apply wr_eqO); (· array_mem_dec); (· array_mem_dec)) | ((with_reducible apply wr_isC); (· array_mem_dec)) | ((with_reducible apply wr_isi); (· first | exact rfl | (apply kindL; array_mem_dec)); (· decide)) | (with_reducible apply wr_sl) | (with_reducible apply wr_nop) | (with_reducible apply wo_dsub) | (with_reducible apply wr_dcomp)
  | (with_reducible apply bif_t) | (with_reducible apply bif_f) | (with_reducible apply bif_n) | ((with_reducible apply bif_dt); (· exact rfl)) | ((with_reducible apply bif_cf); (· decide)) | ((with_reducible apply bif_ct); (· decide)))

theorem gy_ods {M : Nat → Prop} {S : Sto} {q1 d2 : Nat} (h1 : S[q1]? = some (.lst [.int 1])) (n1 : ¬ M q1) (h2 : S[d2]? = some (.dci [])) (n2 : ¬ M d2) : ∀ w ∈ [Va.int 0, .int 1, .int 2, .int 3, .int 4, .int 5, .int 6, .int 7, .int 8, .int 15, .int 16, .int 31, .int 32, .int (-1), .bl true, .bl false, .non, .str "1", .str "", .loc q1, .tup [.int 1], .loc d2, .int (10 ^ 39)], GY M 4 3000 S w := fun w hw => by
  simp only [List.mem_cons, List.not_mem_nil, or_false] at hw
  rcases hw with rfl | rfl | rfl | rfl | rfl | rfl | rfl | rfl | rfl | rfl | rfl | rfl | rfl | rfl | rfl | rfl | rfl | rfl | rfl | rfl | rfl | rfl | rfl
  case inr.inr.inr.inr.inr.inr.inr.inr.inr.inr.inr.inr.inr.inr.inr.inr.inr.inr.inr.inl => exact gy_lst (k := 3) (z := 260) h1 n1 (fun w hw => by rw [List.mem_singleton.mp hw]; exact gy_pur rfl (by decide +kernel) (by decide +kernel) (by decide +kernel) ⟨_, fun _ => rfl⟩) (by decide)
  case inr.inr.inr.inr.inr.inr.inr.inr.inr.inr.inr.inr.inr.inr.inr.inr.inr.inr.inr.inr.inr.inl => exact (gy_dci h2 n2).up (by decide) (by decide)
  all_goals exact gy_pur rfl (by decide +kernel) (by decide +kernel) (by decide +kernel) ⟨_, fun _ => rfl⟩
theorem repr_bb (a b : Bool) {T : Sto} {l : Nat} (h : T[l]? = some (.lst [.bl a, .bl b])) : fReprY [.loc l] T = .ok (.str (PyData.list [.bool a, .bool b]).shown) T := by
  refine fReprY_eq ?_ (by simp [okY, okYL]) (by simp [szY, szYL]) (by simp [PyData.depth, PyData.depthAll])
  show (match T[l]? with | some (.lst ws) => (allD (toY T 63) ws).map PyData.list | some (.dci []) => some (.dict []) | some (.dct kvs) => (allKv (toY T 63) kvs).map .dict | some (.frd kvs) => (allKv (toY T 63) kvs).map .dict | some (.dcs kvs) => (allKs (toY T 63) kvs).map .dict | _ => none) = _
  rw [h]
  rfl
end Law
namespace Law
open PySem PySem.Spec PyProof.Rows L2 Rz PySem.W
local macro_rules | `(tactic| array_mem_dec) => `(tactic| first | assumption | ((with_reducible refine Keep.at' (by assumption) ?_); array_mem_dec) | ((with_reducible refine KeepB.at' (by assumption) (by first | assumption | omega) ?_); array_mem_dec))
local macro_rules | `(tactic| array_get_dec) => `(tactic| first
  | (with_reducible apply wo_seq) | (with_reducible apply wo_set) | (with_reducible apply wo_ret) | (with_reducible apply wo_if) | (with_reducible apply wo_exp)
  | (with_reducible apply wr_lit) | ((with_reducible apply wr_var); exact rfl) | (with_reducible apply wr_bin) | (with_reducible apply wr_binB) | (with_reducible apply wr_call) | (with_reducible apply wr_cons) | (with_reducible apply wr_nil)
  | (with_reducible apply wr_fn) | (with_reducible apply wr_not) | (with_reducible apply wr_and) | (with_reducible apply wr_or) | (with_reducible apply wr_ite) | (with_reducible apply wr_boo) | (with_reducible apply wr_tru) | (with_reducible apply wr_yes)
  | (with_reducible apply wr_tup) | (with_reducible apply wr_lst) | (with_reducible apply wr_un) | (with_reducible apply wr_isN) | (with_reducible apply wr_andV) | (with_reducible apply wr_orV) | (with_reducible apply wr_notV) | (with_reducible apply wr_orT) | (with_reducible apply wr_chain)
  | (with_reducible apply wr_addI) | (with_reducible apply wr_subI) | ((with_reducible apply wr_mulR); (· decide); (· decide)) | ((with_reducible apply wr_mulL); (· decide); (· decide)) | ((with_reducible apply wr_divI); (· omega); (· omega)) | ((with_reducible apply wr_modI); (· omega)) | (with_reducible apply wr_neg)
  | (with_reducible apply wr_lt) | (with_reducible apply wr_le) | (with_reducible apply wr_gt) | (with_reducible apply wr_ge) | ((with_reducible apply wr_eqS); exact rfl) | (with_reducible apply wr_ne) | (with_reducible apply wr_isB) | (with_reducible apply wr_isnB)
  | ((with_reducible apply wr_ixT); (· exact rfl)) | ((with_reducible apply wr_ixL); (· array_mem_dec); (· exact rfl)) | (with_reducible apply wr_trB) | ((with_reducible apply wr_trL); array_mem_dec) | ((with_reducible apply wr_lenL); array_mem_dec) | (with_reducible apply wr_lenT) | (with_reducible apply wr_intI) | (with_reducible apply wr_abs) | (with_reducible apply wr_min2)
  | (with_reducible apply wo_nx) | (with_reducible apply wo_retN) | (with_reducible apply wo_raise) | (with_reducible apply wo_asg) | (with_reducible apply wo_par) | (with_reducible apply wo_sub) | (with_reducible apply wo_for) | (with_reducible apply wr_isq) | (with_reducible apply wr_irg1) | (with_reducible apply wr_comp) | (with_reducible apply wr_met) | (with_reducible apply wr_met0)
  | ((with_reducible apply fnGo); (· exact rfl)) | ((with_reducible apply tupGo); (· simp only [List.length_cons, List.length_nil, Nat.reduceAdd, Nat.reduceLeDiff])) | ((with_reducible apply lstGo); (· simp only [List.length_cons, List.length_nil, Nat.reduceAdd, Nat.reduceLeDiff])) | ((with_reducible apply parGo); (· exact rfl)) | ((with_reducible apply asgGo); (· exact rfl)) | (with_reducible apply blGo)
  | ((with_reducible apply metGo); (· array_mem_dec)) | (with_reducible apply wr_fld) | ((with_reducible apply fldGo); (· array_mem_dec); (· exact rfl)) | (with_reducible apply wr_new) | (with_reducible apply wr_prop) | ((with_reducible apply propGo); (· array_mem_dec)) | (with_reducible apply isqT) | ((with_reducible apply isqL); (· array_mem_dec))
  | (with_reducible apply wr_me) | ((with_reducible apply methGo); (· array_mem_dec)) | (with_reducible apply wo_unl) | ((with_reducible apply unlGo); (· array_mem_dec); (· exact rfl); (· exact rfl)) | (with_reducible apply wo_try) | ((with_reducible apply wr_isX); (· array_mem_dec); (· first | exact rfl | decide)) | ((with_reducible apply wr_isXT); (· array_mem_dec); (· first | exact rfl | decide))
  | (with_reducible apply wr_neO) | ((with_reducible apply wr_eqO); (· array_mem_dec); (· array_mem_dec)) | ((with_reducible apply wr_isC); (· array_mem_dec)) | ((with_reducible apply wr_isi); (· first | exact rfl | (apply kindL; array_mem_dec)); (· decide)) | (with_reducible apply wr_sl) | (with_reducible apply wr_nop) | (with_reducible apply wo_dsub) | (with_reducible apply wr_dcomp)
  | (with_reducible apply bif_t) | (with_reducible apply bif_f) | (with_reducible apply bif_n) | ((with_reducible apply bif_dt); (· exact rfl)) | ((with_reducible apply bif_cf); (· decide)) | ((with_reducible apply bif_ct); (· decide)))

abbrev Em (d0 d3 d4 d5 d6 d7 d8 d9 d10 : Option Va) (p mn : Nat) : Rz.Env := [d0, some (.loc p), some (.loc mn), d3, d4, d5, d6, d7, d8, d9, d10]
def many : List Va := [.int 1, .int 2, .int 4, .int 8, .int 16, .int 32]
theorem many_at {i : Int} (h0 : 0 ≤ i) (h5 : i ≤ 5) : atI many i = some (.int (((2 ^ i.toNat : Nat) : Int))) := by
  have : i = 0 ∨ i = 1 ∨ i = 2 ∨ i = 3 ∨ i = 4 ∨ i = 5 := by omega
  rcases this with rfl | rfl | rfl | rfl | rfl | rfl <;> rfl
theorem eB_r (a b : Va) : eB a b = none ∨ eB a b = some 3 ∨ eB a b = some 4 ∨ eB a b = some 5 := by
  unfold eB
  split
  · split
    · exact .inl rfl
    · exact .inr (.inr (.inl rfl))
  · exact .inr (.inl rfl)
theorem eT_r (a b : Va) : eT a b = none ∨ eT a b = some 3 ∨ eT a b = some 4 ∨ eT a b = some 5 := by
  unfold eT
  split
  · split
    · exact .inl rfl
    · exact .inr (.inr (.inr rfl))
  · exact .inr (.inl rfl)
theorem eW_r (a b c : Va) : eW a b c = none ∨ eW a b c = some 3 ∨ eW a b c = some 4 ∨ eW a b c = some 5 := by
  unfold eW
  split
  · split
    · exact .inl rfl
    · exact .inr (.inr (.inr rfl))
  · exact .inr (.inl rfl)
structure Asks (a b c : Va) (X : Str) (mn : Nat) (S : Sto) : Prop where
  hm : S[mn]? = some (.lst many)
  ka : ∃ k, ∀ T, Keep S T → kind a T = some k
  kb : ∃ k, ∀ T, Keep S T → kind b T = some k
  kc : ∃ k, ∀ T, Keep S T → kind c T = some k
  rp : ∀ T l, Keep S T → T[l]? = some (.lst [a, b, c]) → fReprY [.loc l] T = .ok (.str X) T
theorem Asks.keep {a b c : Va} {X : Str} {mn : Nat} {S T : Sto} (h : Asks a b c X mn S) (k : Keep S T) : Asks a b c X mn T :=
  have t : ∀ {U}, Keep T U → Keep S U := fun y j o z => y _ _ (k _ _ z)
  ⟨k _ _ h.hm, let ⟨i, q⟩ := h.ka; ⟨i, fun U y => q U (t y)⟩, let ⟨i, q⟩ := h.kb; ⟨i, fun U y => q U (t y)⟩, let ⟨i, q⟩ := h.kc; ⟨i, fun U y => q U (t y)⟩, fun U l y => h.rp U l (t y)⟩
def DoneQ (a b c : Va) (X : Str) (d0 d3 d4 d10 : Option Va) (p mn : Nat) (S : Sto) : Rz.Env → Sto → Prop := fun δ T => (∃ e6, δ = Em d0 d3 d4 (some (.str X)) e6 (some a) (some b) (some c) d10 p mn) ∧ Keep S T
section
variable {a b c : Va} {X : Str} {mn p : Nat} {S : Sto} {d0 d3 d4 d10 : Option Va}
/-- the last question -/
theorem ask3 (h : Asks a b c X mn S) : wo ((sif (xor (xbinB cNe (ylam exmT 4 1 b__law_word (ycall 3 m_within (acons (xvar 7) (acons (xvar 8) (acons (xvar 9) anil))))) (xvar 6)) (xbinB cNe (xcall fReprY (acons (xlst (acons (xvar 7) (acons (xvar 8) (acons (xvar 9) anil)))) anil)) (xvar 5))) (sret (xlit (.bl false))) snext) (Em d0 d3 d4 (some (.str X)) (some (.str (wd (eW a b c)))) (some a) (some b) (some c) d10 p mn) S) (DoneQ a b c X d0 d3 d4 d10 p mn S) noK := by
  obtain ⟨k1, g1⟩ := h.ka
  obtain ⟨k2, g2⟩ := h.kb
  obtain ⟨k3, g3⟩ := h.kc
  refine wo_if (wr_or (wr_binB ?_))
  refine word_ok (eW_r a b c) ?_ fun U kU => ?_
  · have w := within_ok (g1 S fun _ _ z => z) (g2 S fun _ _ z => z) (g3 S fun _ _ z => z)
    unfold EndC at w ⊢
    repeat array_get_dec
    exact w
  · repeat array_get_dec
    intro l V _ _ kV hV
    repeat array_get_dec
    refine wr_of (h.rp V l (fun j o z => kV _ _ (kU _ _ z)) hV) ?_
    repeat array_get_dec
    exact ⟨⟨_, rfl⟩, fun j o z => kV _ _ (kU _ _ z)⟩
theorem done_up {o : Out} {U : Sto} (k : Keep S U) (h : wo o (DoneQ a b c X d0 d3 d4 d10 p mn U) noK) : wo o (DoneQ a b c X d0 d3 d4 d10 p mn S) noK := h.mono fun δ T ⟨e, q⟩ => ⟨e, fun j o z => q _ _ (k _ _ z)⟩
theorem due3 (h : Asks a b c X mn S) (d6 : Option Va) : wo ((sseq (sset 6 (xlit (.str "")))
  (sseq (sif (xor (xnot (xtru (ycall 2 m__law_is_whole (acons (xvar 8) (acons (xlit (.int 6)) anil))))) (xnot (xtru (ycall 2 m__law_is_whole (acons (xvar 9) (acons (xlit (.int 6)) anil)))))) (sset 6 (xlit (.str "width"))) (sif (xor (xbinB cGt (xvar 8) (xvar 9)) (xnot (xtru (ycall 2 m__law_is_whole (acons (xvar 7) (acons (xbin oIx (xvar 2) (xvar 8)) anil)))))) (sset 6 (xlit (.str "number"))) snext))
  (sif (xor (xbinB cNe (ylam exmT 4 1 b__law_word (ycall 3 m_within (acons (xvar 7) (acons (xvar 8) (acons (xvar 9) anil))))) (xvar 6)) (xbinB cNe (xcall fReprY (acons (xlst (acons (xvar 7) (acons (xvar 8) (acons (xvar 9) anil)))) anil)) (xvar 5))) (sret (xlit (.bl false))) snext))) (Em d0 d3 d4 (some (.str X)) d6 (some a) (some b) (some c) d10 p mn) S) (DoneQ a b c X d0 d3 d4 d10 p mn S) noK := by
  obtain ⟨k1, g1⟩ := h.ka
  obtain ⟨k2, g2⟩ := h.kb
  obtain ⟨k3, g3⟩ := h.kc
  have fin : ∀ e, e = wd (eW a b c) → wo ((sif (xor (xbinB cNe (ylam exmT 4 1 b__law_word (ycall 3 m_within (acons (xvar 7) (acons (xvar 8) (acons (xvar 9) anil))))) (xvar 6)) (xbinB cNe (xcall fReprY (acons (xlst (acons (xvar 7) (acons (xvar 8) (acons (xvar 9) anil)))) anil)) (xvar 5))) (sret (xlit (.bl false))) snext) (Em d0 d3 d4 (some (.str X)) (some (.str e)) (some a) (some b) (some c) d10 p mn) S) (DoneQ a b c X d0 d3 d4 d10 p mn S) noK := by
    rintro _ rfl
    exact ask3 h
  have e5 : (6 : Int) - 1 = 5 := rfl
  have w2 := whole_ok (g2 S fun _ _ z => z) 6
  have w3 := whole_ok (g3 S fun _ _ z => z) 6
  rw [e5] at w2 w3
  cases rb : inR 0 5 b with
  | false =>
    rw [rb] at w2
    have e : Str.ofString "width" = wd (eW a b c) := by unfold eW; rw [rb]; rfl
    repeat (first | exact fin _ e | array_get_dec)
    refine wr_of w2 ?_
    repeat (first | exact fin _ e | array_get_dec)
  | true =>
    rw [rb] at w2
    obtain ⟨i, rfl, i0, i5⟩ := inR_int rb
    cases rc : inR 0 5 c with
    | false =>
      rw [rc] at w3
      have e : Str.ofString "width" = wd (eW (a) (.int i) c) := by unfold eW; rw [rb, rc]; rfl
      repeat (first | exact fin _ e | array_get_dec)
      refine wr_of w2 ?_
      repeat (first | exact fin _ e | array_get_dec)
      refine wr_of w3 ?_
      repeat (first | exact fin _ e | array_get_dec)
    | true =>
      rw [rc] at w3
      obtain ⟨l, rfl, l0, l5⟩ := inR_int rc
      have w1 := whole_ok (g1 S fun _ _ z => z) (((2 ^ i.toNat : Nat) : Int))
      repeat array_get_dec
      refine wr_of w2 ?_
      repeat array_get_dec
      refine wr_of w3 ?_
      repeat array_get_dec
      refine bif_d (fun g => ?_) (fun g => ?_)
      · have e : Str.ofString "number" = wd (eW a (.int i) (.int l)) := by
          unfold eW
          rw [rb, rc]
          simp only [gtV, decide_eq_true g]
          simp
          rfl
        repeat (first | exact fin _ e | array_get_dec)
      · repeat array_get_dec
        refine wr_ixL h.hm (many_at i0 i5) ?_
        repeat array_get_dec
        refine wr_of w1 ?_
        cases ra : inR 0 (((2 ^ i.toNat : Nat) : Int) - 1) a with
        | false =>
          have e : Str.ofString "number" = wd (eW a (.int i) (.int l)) := by
            unfold eW
            have ra' : inR 0 (top2 (.int i)) a = false := ra
            rw [rb, rc, ra']
            rfl
          repeat (first | exact fin _ e | array_get_dec)
        | true =>
          have e : Str.ofString "" = wd (eW a (.int i) (.int l)) := by
            unfold eW
            have ra' : inR 0 (top2 (.int i)) a = true := ra
            rw [rb, rc, ra']
            simp only [gtV, decide_eq_false g]
            rfl
          repeat (first | exact fin _ e | array_get_dec)
theorem ask2 (h : Asks a b c X mn S) : wo ((sseq (sif (xbinB cNe (ylam exmT 4 1 b__law_word (ycall 2 m_turned (acons (xvar 7) (acons (xvar 8) anil)))) (xvar 6)) (sret (xlit (.bl false))) snext)
  (sseq (sset 6 (xlit (.str "")))
  (sseq (sif (xor (xnot (xtru (ycall 2 m__law_is_whole (acons (xvar 8) (acons (xlit (.int 6)) anil))))) (xnot (xtru (ycall 2 m__law_is_whole (acons (xvar 9) (acons (xlit (.int 6)) anil)))))) (sset 6 (xlit (.str "width"))) (sif (xor (xbinB cGt (xvar 8) (xvar 9)) (xnot (xtru (ycall 2 m__law_is_whole (acons (xvar 7) (acons (xbin oIx (xvar 2) (xvar 8)) anil)))))) (sset 6 (xlit (.str "number"))) snext))
  (sif (xor (xbinB cNe (ylam exmT 4 1 b__law_word (ycall 3 m_within (acons (xvar 7) (acons (xvar 8) (acons (xvar 9) anil))))) (xvar 6)) (xbinB cNe (xcall fReprY (acons (xlst (acons (xvar 7) (acons (xvar 8) (acons (xvar 9) anil)))) anil)) (xvar 5))) (sret (xlit (.bl false))) snext)))) (Em d0 d3 d4 (some (.str X)) (some (.str (wd (eT a b)))) (some a) (some b) (some c) d10 p mn) S) (DoneQ a b c X d0 d3 d4 d10 p mn S) noK := by
  obtain ⟨k1, g1⟩ := h.ka
  obtain ⟨k2, g2⟩ := h.kb
  refine wo_seq (wo_if (wr_binB ?_))
  refine word_ok (eT_r a b) ?_ fun U kU => ?_
  · have w := turned_ok (g1 S fun _ _ z => z) (g2 S fun _ _ z => z)
    unfold EndC at w ⊢
    repeat array_get_dec
    exact w
  · repeat (first | exact done_up kU (due3 (h.keep kU) _) | array_get_dec)
end
end Law
namespace Law
open PySem PySem.Spec PyProof.Rows L2 Rz PySem.W
local macro_rules | `(tactic| array_mem_dec) => `(tactic| first | assumption | ((with_reducible refine Keep.at' (by assumption) ?_); array_mem_dec) | ((with_reducible refine KeepB.at' (by assumption) (by first | assumption | omega) ?_); array_mem_dec))
local macro_rules | `(tactic| array_get_dec) => `(tactic| first
  | (with_reducible apply wo_seq) | (with_reducible apply wo_set) | (with_reducible apply wo_ret) | (with_reducible apply wo_if) | (with_reducible apply wo_exp)
  | (with_reducible apply wr_lit) | ((with_reducible apply wr_var); exact rfl) | (with_reducible apply wr_bin) | (with_reducible apply wr_binB) | (with_reducible apply wr_call) | (with_reducible apply wr_cons) | (with_reducible apply wr_nil)
  | (with_reducible apply wr_fn) | (with_reducible apply wr_not) | (with_reducible apply wr_and) | (with_reducible apply wr_or) | (with_reducible apply wr_ite) | (with_reducible apply wr_boo) | (with_reducible apply wr_tru) | (with_reducible apply wr_yes)
  | (with_reducible apply wr_tup) | (with_reducible apply wr_lst) | (with_reducible apply wr_un) | (with_reducible apply wr_isN) | (with_reducible apply wr_andV) | (with_reducible apply wr_orV) | (with_reducible apply wr_notV) | (with_reducible apply wr_orT) | (with_reducible apply wr_chain)
  | (with_reducible apply wr_addI) | (with_reducible apply wr_subI) | ((with_reducible apply wr_mulR); (· decide); (· decide)) | ((with_reducible apply wr_mulL); (· decide); (· decide)) | ((with_reducible apply wr_divI); (· omega); (· omega)) | ((with_reducible apply wr_modI); (· omega)) | (with_reducible apply wr_neg)
  | (with_reducible apply wr_lt) | (with_reducible apply wr_le) | (with_reducible apply wr_gt) | (with_reducible apply wr_ge) | ((with_reducible apply wr_eqS); exact rfl) | (with_reducible apply wr_ne) | (with_reducible apply wr_isB) | (with_reducible apply wr_isnB)
  | ((with_reducible apply wr_ixT); (· exact rfl)) | ((with_reducible apply wr_ixL); (· array_mem_dec); (· exact rfl)) | (with_reducible apply wr_trB) | ((with_reducible apply wr_trL); array_mem_dec) | ((with_reducible apply wr_lenL); array_mem_dec) | (with_reducible apply wr_lenT) | (with_reducible apply wr_intI) | (with_reducible apply wr_abs) | (with_reducible apply wr_min2)
  | (with_reducible apply wo_nx) | (with_reducible apply wo_retN) | (with_reducible apply wo_raise) | (with_reducible apply wo_asg) | (with_reducible apply wo_par) | (with_reducible apply wo_sub) | (with_reducible apply wo_for) | (with_reducible apply wr_isq) | (with_reducible apply wr_irg1) | (with_reducible apply wr_comp) | (with_reducible apply wr_met) | (with_reducible apply wr_met0)
  | ((with_reducible apply fnGo); (· exact rfl)) | ((with_reducible apply tupGo); (· simp only [List.length_cons, List.length_nil, Nat.reduceAdd, Nat.reduceLeDiff])) | ((with_reducible apply lstGo); (· simp only [List.length_cons, List.length_nil, Nat.reduceAdd, Nat.reduceLeDiff])) | ((with_reducible apply parGo); (· exact rfl)) | ((with_reducible apply asgGo); (· exact rfl)) | (with_reducible apply blGo)
  | ((with_reducible apply metGo); (· array_mem_dec)) | (with_reducible apply wr_fld) | ((with_reducible apply fldGo); (· array_mem_dec); (· exact rfl)) | (with_reducible apply wr_new) | (with_reducible apply wr_prop) | ((with_reducible apply propGo); (· array_mem_dec)) | (with_reducible apply isqT) | ((with_reducible apply isqL); (· array_mem_dec))
  | (with_reducible apply wr_me) | ((with_reducible apply methGo); (· array_mem_dec)) | (with_reducible apply wo_unl) | ((with_reducible apply unlGo); (· array_mem_dec); (· exact rfl); (· exact rfl)) | (with_reducible apply wo_try) | ((with_reducible apply wr_isX); (· array_mem_dec); (· first | exact rfl | decide)) | ((with_reducible apply wr_isXT); (· array_mem_dec); (· first | exact rfl | decide))
  | (with_reducible apply wr_neO) | ((with_reducible apply wr_eqO); (· array_mem_dec); (· array_mem_dec)) | ((with_reducible apply wr_isC); (· array_mem_dec)) | ((with_reducible apply wr_isi); (· first | exact rfl | (apply kindL; array_mem_dec)); (· decide)) | (with_reducible apply wr_sl) | (with_reducible apply wr_nop) | (with_reducible apply wo_dsub) | (with_reducible apply wr_dcomp)
  | (with_reducible apply bif_t) | (with_reducible apply bif_f) | (with_reducible apply bif_n) | ((with_reducible apply bif_dt); (· exact rfl)) | ((with_reducible apply bif_cf); (· decide)) | ((with_reducible apply bif_ct); (· decide)))

section
variable {a b c : Va} {X : Str} {mn p : Nat} {S : Sto} {d0 d3 d4 d10 : Option Va}
theorem due2 (h : Asks a b c X mn S) (d6 : Option Va) : wo ((sseq (sset 6 (xite (xnot (xtru (ycall 2 m__law_is_whole (acons (xvar 8) (acons (xlit (.int 6)) anil))))) (xlit (.str "width")) (xite (xtru (ycall 2 m__law_is_whole (acons (xvar 7) (acons (xbin oIx (xvar 2) (xvar 8)) anil)))) (xlit (.str "")) (xlit (.str "number")))))
  (sseq (sif (xbinB cNe (ylam exmT 4 1 b__law_word (ycall 2 m_turned (acons (xvar 7) (acons (xvar 8) anil)))) (xvar 6)) (sret (xlit (.bl false))) snext)
  (sseq (sset 6 (xlit (.str "")))
  (sseq (sif (xor (xnot (xtru (ycall 2 m__law_is_whole (acons (xvar 8) (acons (xlit (.int 6)) anil))))) (xnot (xtru (ycall 2 m__law_is_whole (acons (xvar 9) (acons (xlit (.int 6)) anil)))))) (sset 6 (xlit (.str "width"))) (sif (xor (xbinB cGt (xvar 8) (xvar 9)) (xnot (xtru (ycall 2 m__law_is_whole (acons (xvar 7) (acons (xbin oIx (xvar 2) (xvar 8)) anil)))))) (sset 6 (xlit (.str "number"))) snext))
  (sif (xor (xbinB cNe (ylam exmT 4 1 b__law_word (ycall 3 m_within (acons (xvar 7) (acons (xvar 8) (acons (xvar 9) anil))))) (xvar 6)) (xbinB cNe (xcall fReprY (acons (xlst (acons (xvar 7) (acons (xvar 8) (acons (xvar 9) anil)))) anil)) (xvar 5))) (sret (xlit (.bl false))) snext))))) (Em d0 d3 d4 (some (.str X)) d6 (some a) (some b) (some c) d10 p mn) S) (DoneQ a b c X d0 d3 d4 d10 p mn S) noK := by
  obtain ⟨k1, g1⟩ := h.ka
  obtain ⟨k2, g2⟩ := h.kb
  have fin : ∀ e, e = wd (eT a b) → wo ((sseq (sif (xbinB cNe (ylam exmT 4 1 b__law_word (ycall 2 m_turned (acons (xvar 7) (acons (xvar 8) anil)))) (xvar 6)) (sret (xlit (.bl false))) snext)
  (sseq (sset 6 (xlit (.str "")))
  (sseq (sif (xor (xnot (xtru (ycall 2 m__law_is_whole (acons (xvar 8) (acons (xlit (.int 6)) anil))))) (xnot (xtru (ycall 2 m__law_is_whole (acons (xvar 9) (acons (xlit (.int 6)) anil)))))) (sset 6 (xlit (.str "width"))) (sif (xor (xbinB cGt (xvar 8) (xvar 9)) (xnot (xtru (ycall 2 m__law_is_whole (acons (xvar 7) (acons (xbin oIx (xvar 2) (xvar 8)) anil)))))) (sset 6 (xlit (.str "number"))) snext))
  (sif (xor (xbinB cNe (ylam exmT 4 1 b__law_word (ycall 3 m_within (acons (xvar 7) (acons (xvar 8) (acons (xvar 9) anil))))) (xvar 6)) (xbinB cNe (xcall fReprY (acons (xlst (acons (xvar 7) (acons (xvar 8) (acons (xvar 9) anil)))) anil)) (xvar 5))) (sret (xlit (.bl false))) snext)))) (Em d0 d3 d4 (some (.str X)) (some (.str e)) (some a) (some b) (some c) d10 p mn) S) (DoneQ a b c X d0 d3 d4 d10 p mn S) noK := by
    rintro _ rfl
    exact ask2 h
  have e5 : (6 : Int) - 1 = 5 := rfl
  have w2 := whole_ok (g2 S fun _ _ z => z) 6
  rw [e5] at w2
  cases rb : inR 0 5 b with
  | false =>
    rw [rb] at w2
    have e : Str.ofString "width" = wd (eT a b) := by unfold eT; rw [rb]; rfl
    repeat (first | exact fin _ e | array_get_dec)
    refine wr_of w2 ?_
    repeat (first | exact fin _ e | array_get_dec)
  | true =>
    rw [rb] at w2
    obtain ⟨i, rfl, i0, i5⟩ := inR_int rb
    have w1 := whole_ok (g1 S fun _ _ z => z) (((2 ^ i.toNat : Nat) : Int))
    repeat array_get_dec
    refine wr_of w2 ?_
    repeat array_get_dec
    refine wr_ixL h.hm (many_at i0 i5) ?_
    repeat array_get_dec
    refine wr_of w1 ?_
    cases ra : inR 0 (((2 ^ i.toNat : Nat) : Int) - 1) a with
    | false =>
      have e : Str.ofString "number" = wd (eT a (.int i)) := by
        unfold eT
        have ra' : inR 0 (top2 (.int i)) a = false := ra
        rw [rb, ra']
        rfl
      repeat (first | exact fin _ e | array_get_dec)
    | true =>
      have e : Str.ofString "" = wd (eT a (.int i)) := by
        unfold eT
        have ra' : inR 0 (top2 (.int i)) a = true := ra
        rw [rb, ra']
        rfl
      repeat (first | exact fin _ e | array_get_dec)
theorem ask1 (h : Asks a b c X mn S) : wo ((sseq (sif (xbinB cNe (ylam exmT 4 1 b__law_word (ycall 2 m_bucket (acons (xvar 7) (acons (xvar 8) anil)))) (xvar 6)) (sret (xlit (.bl false))) snext)
  (sseq (sset 6 (xite (xnot (xtru (ycall 2 m__law_is_whole (acons (xvar 8) (acons (xlit (.int 6)) anil))))) (xlit (.str "width")) (xite (xtru (ycall 2 m__law_is_whole (acons (xvar 7) (acons (xbin oIx (xvar 2) (xvar 8)) anil)))) (xlit (.str "")) (xlit (.str "number")))))
  (sseq (sif (xbinB cNe (ylam exmT 4 1 b__law_word (ycall 2 m_turned (acons (xvar 7) (acons (xvar 8) anil)))) (xvar 6)) (sret (xlit (.bl false))) snext)
  (sseq (sset 6 (xlit (.str "")))
  (sseq (sif (xor (xnot (xtru (ycall 2 m__law_is_whole (acons (xvar 8) (acons (xlit (.int 6)) anil))))) (xnot (xtru (ycall 2 m__law_is_whole (acons (xvar 9) (acons (xlit (.int 6)) anil)))))) (sset 6 (xlit (.str "width"))) (sif (xor (xbinB cGt (xvar 8) (xvar 9)) (xnot (xtru (ycall 2 m__law_is_whole (acons (xvar 7) (acons (xbin oIx (xvar 2) (xvar 8)) anil)))))) (sset 6 (xlit (.str "number"))) snext))
  (sif (xor (xbinB cNe (ylam exmT 4 1 b__law_word (ycall 3 m_within (acons (xvar 7) (acons (xvar 8) (acons (xvar 9) anil))))) (xvar 6)) (xbinB cNe (xcall fReprY (acons (xlst (acons (xvar 7) (acons (xvar 8) (acons (xvar 9) anil)))) anil)) (xvar 5))) (sret (xlit (.bl false))) snext)))))) (Em d0 d3 d4 (some (.str X)) (some (.str (wd (eB a b)))) (some a) (some b) (some c) d10 p mn) S) (DoneQ a b c X d0 d3 d4 d10 p mn S) noK := by
  obtain ⟨k1, g1⟩ := h.ka
  obtain ⟨k2, g2⟩ := h.kb
  refine wo_seq (wo_if (wr_binB ?_))
  refine word_ok (eB_r a b) ?_ fun U kU => ?_
  · have w := bucket_ok (g1 S fun _ _ z => z) (g2 S fun _ _ z => z)
    unfold EndC at w ⊢
    repeat array_get_dec
    exact w
  · repeat (first | exact done_up kU (due2 (h.keep kU) _) | array_get_dec)
theorem ask0 (h : Asks a b c X mn S) (d6 : Option Va) : wo ((sseq (sif (xbinB cNe (xcall fReprY (acons (xlst (acons (ycall 1 m_is_width (acons (xvar 7) anil)) (acons (ycall 1 m_is_hash (acons (xvar 7) anil)) anil))) anil)) (xcall fReprY (acons (xlst (acons (ycall 2 m__law_is_whole (acons (xvar 7) (acons (xlit (.int 6)) anil))) (acons (ycall 2 m__law_is_whole (acons (xvar 7) (acons (xlit (.int 32)) anil))) anil))) anil))) (sret (xlit (.bl false))) snext)
  (sseq (sset 6 (xite (xnot (xtru (ycall 2 m__law_is_whole (acons (xvar 8) (acons (xlit (.int 6)) anil))))) (xlit (.str "width")) (xite (xtru (ycall 2 m__law_is_whole (acons (xvar 7) (acons (xlit (.int 32)) anil)))) (xlit (.str "")) (xlit (.str "hash")))))
  (sseq (sif (xbinB cNe (ylam exmT 4 1 b__law_word (ycall 2 m_bucket (acons (xvar 7) (acons (xvar 8) anil)))) (xvar 6)) (sret (xlit (.bl false))) snext)
  (sseq (sset 6 (xite (xnot (xtru (ycall 2 m__law_is_whole (acons (xvar 8) (acons (xlit (.int 6)) anil))))) (xlit (.str "width")) (xite (xtru (ycall 2 m__law_is_whole (acons (xvar 7) (acons (xbin oIx (xvar 2) (xvar 8)) anil)))) (xlit (.str "")) (xlit (.str "number")))))
  (sseq (sif (xbinB cNe (ylam exmT 4 1 b__law_word (ycall 2 m_turned (acons (xvar 7) (acons (xvar 8) anil)))) (xvar 6)) (sret (xlit (.bl false))) snext)
  (sseq (sset 6 (xlit (.str "")))
  (sseq (sif (xor (xnot (xtru (ycall 2 m__law_is_whole (acons (xvar 8) (acons (xlit (.int 6)) anil))))) (xnot (xtru (ycall 2 m__law_is_whole (acons (xvar 9) (acons (xlit (.int 6)) anil)))))) (sset 6 (xlit (.str "width"))) (sif (xor (xbinB cGt (xvar 8) (xvar 9)) (xnot (xtru (ycall 2 m__law_is_whole (acons (xvar 7) (acons (xbin oIx (xvar 2) (xvar 8)) anil)))))) (sset 6 (xlit (.str "number"))) snext))
  (sif (xor (xbinB cNe (ylam exmT 4 1 b__law_word (ycall 3 m_within (acons (xvar 7) (acons (xvar 8) (acons (xvar 9) anil))))) (xvar 6)) (xbinB cNe (xcall fReprY (acons (xlst (acons (xvar 7) (acons (xvar 8) (acons (xvar 9) anil)))) anil)) (xvar 5))) (sret (xlit (.bl false))) snext)))))))) (Em d0 d3 d4 (some (.str X)) d6 (some a) (some b) (some c) d10 p mn) S) (DoneQ a b c X d0 d3 d4 d10 p mn S) noK := by
  obtain ⟨k1, h1⟩ := h.ka
  obtain ⟨k2, h2⟩ := h.kb
  have g1 := h1 S fun _ _ z => z
  repeat array_get_dec
  refine wr_of (width_ok g1) ?_
  repeat array_get_dec
  refine wr_of (hash_ok g1) ?_
  repeat array_get_dec
  intro l1 U1 e1 t1 k1' hl1
  repeat array_get_dec
  refine wr_of (repr_bb _ _ hl1) ?_
  repeat array_get_dec
  refine wr_of (whole_ok (h1 U1 k1') 6) ?_
  repeat array_get_dec
  refine wr_of (whole_ok (h1 U1 k1') 32) ?_
  repeat array_get_dec
  intro l2 U2 e2 t2 k2' hl2
  repeat array_get_dec
  refine wr_of (repr_bb _ _ hl2) ?_
  have kU2 : Keep S U2 := fun j o z => k2' _ _ (k1' _ _ z)
  have hU := h.keep kU2
  have fin : ∀ e, e = wd (eB a b) → wo ((sseq (sif (xbinB cNe (ylam exmT 4 1 b__law_word (ycall 2 m_bucket (acons (xvar 7) (acons (xvar 8) anil)))) (xvar 6)) (sret (xlit (.bl false))) snext)
  (sseq (sset 6 (xite (xnot (xtru (ycall 2 m__law_is_whole (acons (xvar 8) (acons (xlit (.int 6)) anil))))) (xlit (.str "width")) (xite (xtru (ycall 2 m__law_is_whole (acons (xvar 7) (acons (xbin oIx (xvar 2) (xvar 8)) anil)))) (xlit (.str "")) (xlit (.str "number")))))
  (sseq (sif (xbinB cNe (ylam exmT 4 1 b__law_word (ycall 2 m_turned (acons (xvar 7) (acons (xvar 8) anil)))) (xvar 6)) (sret (xlit (.bl false))) snext)
  (sseq (sset 6 (xlit (.str "")))
  (sseq (sif (xor (xnot (xtru (ycall 2 m__law_is_whole (acons (xvar 8) (acons (xlit (.int 6)) anil))))) (xnot (xtru (ycall 2 m__law_is_whole (acons (xvar 9) (acons (xlit (.int 6)) anil)))))) (sset 6 (xlit (.str "width"))) (sif (xor (xbinB cGt (xvar 8) (xvar 9)) (xnot (xtru (ycall 2 m__law_is_whole (acons (xvar 7) (acons (xbin oIx (xvar 2) (xvar 8)) anil)))))) (sset 6 (xlit (.str "number"))) snext))
  (sif (xor (xbinB cNe (ylam exmT 4 1 b__law_word (ycall 3 m_within (acons (xvar 7) (acons (xvar 8) (acons (xvar 9) anil))))) (xvar 6)) (xbinB cNe (xcall fReprY (acons (xlst (acons (xvar 7) (acons (xvar 8) (acons (xvar 9) anil)))) anil)) (xvar 5))) (sret (xlit (.bl false))) snext)))))) (Em d0 d3 d4 (some (.str X)) (some (.str e)) (some a) (some b) (some c) d10 p mn) U2) (DoneQ a b c X d0 d3 d4 d10 p mn S) noK := by
    rintro _ rfl
    exact done_up kU2 (ask1 hU)
  have e5 : (6 : Int) - 1 = 5 := rfl
  have e31 : (32 : Int) - 1 = 31 := rfl
  have w2 := whole_ok (h2 U2 kU2) 6
  have w1 := whole_ok (h1 U2 kU2) 32
  rw [e5] at w2
  rw [e31] at w1
  repeat array_get_dec
  cases rb : inR 0 5 b with
  | false =>
    rw [rb] at w2
    have e : Str.ofString "width" = wd (eB a b) := by unfold eB; rw [rb]; rfl
    refine wr_of w2 ?_
    repeat (first | exact fin _ e | array_get_dec)
  | true =>
    rw [rb] at w2
    refine wr_of w2 ?_
    repeat array_get_dec
    refine wr_of w1 ?_
    cases ra : inR 0 31 a with
    | false =>
      have e : Str.ofString "hash" = wd (eB a b) := by unfold eB; rw [rb, ra]; rfl
      repeat (first | exact fin _ e | array_get_dec)
    | true =>
      have e : Str.ofString "" = wd (eB a b) := by unfold eB; rw [rb, ra]; rfl
      repeat (first | exact fin _ e | array_get_dec)
end
end Law
namespace Law
open PySem PySem.Spec PyProof.Rows L2 Rz PySem.W
local macro_rules | `(tactic| array_mem_dec) => `(tactic| first | assumption | ((with_reducible refine Keep.at' (by assumption) ?_); array_mem_dec) | ((with_reducible refine KeepB.at' (by assumption) (by first | assumption | omega) ?_); array_mem_dec))
local macro_rules | `(tactic| array_get_dec) => `(tactic| first
  | (with_reducible apply wo_seq) | (with_reducible apply wo_set) | (with_reducible apply wo_ret) | (with_reducible apply wo_if) | (with_reducible apply wo_exp)
  | (with_reducible apply wr_lit) | ((with_reducible apply wr_var); exact rfl) | (with_reducible apply wr_bin) | (with_reducible apply wr_binB) | (with_reducible apply wr_call) | (with_reducible apply wr_cons) | (with_reducible apply wr_nil)
  | (with_reducible apply wr_fn) | (with_reducible apply wr_not) | (with_reducible apply wr_and) | (with_reducible apply wr_or) | (with_reducible apply wr_ite) | (with_reducible apply wr_boo) | (with_reducible apply wr_tru) | (with_reducible apply wr_yes)
  | (with_reducible apply wr_tup) | (with_reducible apply wr_lst) | (with_reducible apply wr_un) | (with_reducible apply wr_isN) | (with_reducible apply wr_andV) | (with_reducible apply wr_orV) | (with_reducible apply wr_notV) | (with_reducible apply wr_orT) | (with_reducible apply wr_chain)
  | (with_reducible apply wr_addI) | (with_reducible apply wr_subI) | ((with_reducible apply wr_mulR); (· decide); (· decide)) | ((with_reducible apply wr_mulL); (· decide); (· decide)) | ((with_reducible apply wr_divI); (· omega); (· omega)) | ((with_reducible apply wr_modI); (· omega)) | (with_reducible apply wr_neg)
  | (with_reducible apply wr_lt) | (with_reducible apply wr_le) | (with_reducible apply wr_gt) | (with_reducible apply wr_ge) | ((with_reducible apply wr_eqS); exact rfl) | (with_reducible apply wr_ne) | (with_reducible apply wr_isB) | (with_reducible apply wr_isnB)
  | ((with_reducible apply wr_ixT); (· exact rfl)) | ((with_reducible apply wr_ixL); (· array_mem_dec); (· exact rfl)) | (with_reducible apply wr_trB) | ((with_reducible apply wr_trL); array_mem_dec) | ((with_reducible apply wr_lenL); array_mem_dec) | (with_reducible apply wr_lenT) | (with_reducible apply wr_intI) | (with_reducible apply wr_abs) | (with_reducible apply wr_min2)
  | (with_reducible apply wo_nx) | (with_reducible apply wo_retN) | (with_reducible apply wo_raise) | (with_reducible apply wo_asg) | (with_reducible apply wo_par) | (with_reducible apply wo_sub) | (with_reducible apply wo_for) | (with_reducible apply wr_isq) | (with_reducible apply wr_irg1) | (with_reducible apply wr_comp) | (with_reducible apply wr_met) | (with_reducible apply wr_met0)
  | ((with_reducible apply fnGo); (· exact rfl)) | ((with_reducible apply tupGo); (· simp only [List.length_cons, List.length_nil, Nat.reduceAdd, Nat.reduceLeDiff])) | ((with_reducible apply lstGo); (· simp only [List.length_cons, List.length_nil, Nat.reduceAdd, Nat.reduceLeDiff])) | ((with_reducible apply parGo); (· exact rfl)) | ((with_reducible apply asgGo); (· exact rfl)) | (with_reducible apply blGo)
  | ((with_reducible apply metGo); (· array_mem_dec)) | (with_reducible apply wr_fld) | ((with_reducible apply fldGo); (· array_mem_dec); (· exact rfl)) | (with_reducible apply wr_new) | (with_reducible apply wr_prop) | ((with_reducible apply propGo); (· array_mem_dec)) | (with_reducible apply isqT) | ((with_reducible apply isqL); (· array_mem_dec))
  | (with_reducible apply wr_me) | ((with_reducible apply methGo); (· array_mem_dec)) | (with_reducible apply wo_unl) | ((with_reducible apply unlGo); (· array_mem_dec); (· exact rfl); (· exact rfl)) | (with_reducible apply wo_try) | ((with_reducible apply wr_isX); (· array_mem_dec); (· first | exact rfl | decide)) | ((with_reducible apply wr_isXT); (· array_mem_dec); (· first | exact rfl | decide))
  | (with_reducible apply wr_neO) | ((with_reducible apply wr_eqO); (· array_mem_dec); (· array_mem_dec)) | ((with_reducible apply wr_isC); (· array_mem_dec)) | ((with_reducible apply wr_isi); (· first | exact rfl | (apply kindL; array_mem_dec)); (· decide)) | (with_reducible apply wr_sl) | (with_reducible apply wr_nop) | (with_reducible apply wo_dsub) | (with_reducible apply wr_dcomp)
  | (with_reducible apply bif_t) | (with_reducible apply bif_f) | (with_reducible apply bif_n) | ((with_reducible apply bif_dt); (· exact rfl)) | ((with_reducible apply bif_cf); (· decide)) | ((with_reducible apply bif_ct); (· decide)))
theorem cut_map (xs : List Int) (lo hi : Option Int) : ∃ ys : List Int, cutA (xs.map Va.int) lo hi = ys.map Va.int ∧ ys.length ≤ xs.length := by
  unfold cutA
  rw [List.length_map, ← List.map_drop, ← List.map_take]
  exact ⟨_, rfl, by rw [List.length_take, List.length_drop]; omega⟩
theorem pen_ok (xs : List Int) (hx : xs.length ≤ 63) : ∃ (p : Nat) (S' : Sto), m__law_pen [.loc 0] [.frl (xs.map .int)] = .ok (.loc p) S' ∧ Pen S' p 0 := by
  obtain ⟨ys, e, hy⟩ := cut_map xs none (some 60)
  have q1 : xslice (xvar 0) xnop (xpart (xlit (.int 60))) [some (.loc 0)] [Ob.frl (xs.map .int)] = .ok (.loc 1) [Ob.frl (xs.map .int), .lst (ys.map .int)] := by
    show llst (cutA (xs.map Va.int) none (some 60)) [Ob.frl (xs.map .int)] = _
    rw [e, llst_eq _ (by rw [List.length_map]; omega)]
    rfl
  have q2 : fList [.loc 1] [Ob.frl (xs.map .int), .lst (ys.map .int)] = .ok (.loc 2) [Ob.frl (xs.map .int), .lst (ys.map .int), .lst (ys.map .int)] := by
    show llst (ys.map Va.int) [Ob.frl (xs.map .int), .lst (ys.map .int)] = _
    rw [llst_eq _ (by rw [List.length_map]; omega)]
    rfl
  refine ⟨3, [Ob.frl (xs.map .int), .lst (ys.map .int), .lst (ys.map .int), .lst [.loc 2, .int 0, .int 0]], ?_, 2, ys, 0, 0, by decide, rfl, rfl, by omega, by omega⟩
  show (b__law_pen [some (.loc 0)] [Ob.frl (xs.map .int)]).fin = _
  have q : b__law_pen [some (.loc 0)] [Ob.frl (xs.map .int)] = .rt (.loc 3) [Ob.frl (xs.map .int), .lst (ys.map .int), .lst (ys.map .int), .lst [.loc 2, .int 0, .int 0]] := by
    unfold b__law_pen
    exact ret_at (lst_at (us := [.loc 2, .int 0, .int 0]) (cons_at (call_at (one_at q1) q2) (cons_at lit_at (one_at lit_at))) (by simp))
  rw [q]
  rfl



theorem turn_ok {p m mn : Nat} {S : Sto} (hm : m + 100 < 4294967296) (pn : Pen S p m) (np : mn ≠ p) (hmn : S[mn]? = some (.lst many)) (d0 d3 d4 d5 d6 d7 d8 d9 d10 : Option Va) :
    wo (l_law_0 (Em d0 d3 d4 d5 d6 d7 d8 d9 d10 p mn) S) (fun δ T => (∃ e4 e5 e6 e7 e8 e9 e10, δ = Em d0 d3 e4 e5 e6 e7 e8 e9 e10 p mn) ∧ Pen T p (m + 25) ∧ T[mn]? = some (.lst many)) noK := by
  have pl := pn.lt
  refine wl_law_0 ?_
  repeat array_get_dec
  intro q1 U1 e1 l1 k1 h1
  repeat array_get_dec
  refine wr_dictI0 fun d2 U2 e2 l2 k2 h2 => ?_
  repeat array_get_dec
  refine wr_of (pow39 _) ?_
  repeat array_get_dec
  intro o U3 e3 l3 k3 h3
  let M : Nat → Prop := fun i => i = p ∨ i = o
  have nM : ∀ i, i ≠ p → i ≠ o → ¬ M i := fun i a b c => c.elim a b
  have k03 : Keep S U3 := fun j x z => k3 _ _ (k2 _ _ (k1 _ _ z))
  have go := gy_ods (M := M) (k3 _ _ (k2 _ _ h1)) (nM _ (by omega) (by omega)) (k3 _ _ h2) (nM _ (by omega) (by omega))
  repeat array_get_dec
  show wr (r__law_any 3 [.loc p, .int ((2 : Nat) : Int)] U3) _ _
  have c2 : cc 2 = 17 := rfl
  have z2 : zz 2 = 2592 := rfl
  refine (any_ok 2 3 (by decide) p m M U3 (by omega) (pn.keep k03) (.inl rfl) (fun i hi => by rcases hi with z | z <;> omega)).use fun v U4 ⟨gv, p4, k4, l4⟩ => ?_
  repeat array_get_dec
  refine wr_app (k4 _ _ (by omega) h3) (by simp) fun U5 l5 k5 h5 => ?_
  have p5 := p4.app (show p < o by omega) k5
  have kM5 : KM M U4 U5 := KM.kb k5 (.inr rfl)
  have kM35 : KM M U3 U5 := (KM.kb k4 (.inl rfl)).trans kM5
  generalize eo : ([Va.int 0, .int 1, .int 2, .int 3, .int 4, .int 5, .int 6, .int 7, .int 8, .int 15, .int 16, .int 31, .int 32, .int (-1), .bl true, .bl false, .non, .str "1", .str "", .loc q1, .tup [.int 1], .loc d2, .int (10 ^ 39)] ++ [v]) = ods at h5
  have lo : ods.length = 24 := by rw [← eo]; rfl
  have gy : ∀ w ∈ ods, GY M 4 3000 U5 w := fun w hw => by
    rw [← eo] at hw
    rcases List.mem_append.mp hw with z | z
    · exact (go w z).km kM35
    · rw [List.mem_singleton.mp z]
      exact (gv.up (by decide) (by omega)).km kM5
  have k0m : U5[mn]? = some (.lst many) := k5 _ _ (by have := lt_of hmn; omega) (k4 _ _ np (k03 _ _ hmn))
  repeat array_get_dec
  refine rngGo 3 rfl (by decide) ?_
  intro D U6 eD l6 k6 hD
  have pD : p < D := by omega
  have ol : o < U5.length := lt_of h5
  refine (wr_cR (n := 3) (by decide) (fun i acc V => acc.length = i ∧ (∀ w ∈ acc, w ∈ ods) ∧ Pen V p (m + 17 + i) ∧ (∀ (x : Nat) (b : Ob), x ≠ p → U5[x]? = some b → V[x]? = some b)) ⟨rfl, (fun w hw => nomatch hw), (p5.mono (by omega)).keep k6, fun x b _ z => k6 _ _ z⟩ hD (fun i acc V hi ⟨la, ga, pV, kV⟩ hV => ⟨_, rfl, wr_yes (bif_t ?_)⟩)
    (QV := fun v V => v = .loc D ∧ ∃ acc, V[D]? = some (.lst acc) ∧ acc.length = 3 ∧ (∀ w ∈ acc, w ∈ ods) ∧ Pen V p (m + 17 + 3) ∧ (∀ (x : Nat) (b : Ob), x ≠ p → U5[x]? = some b → V[x]? = some b)) (E := noE) (fun acc V ⟨la, ga, pV, kV⟩ hV => ⟨rfl, acc, hV, la, ga, pV, kV⟩)).use fun v V ⟨ev, acc, hV, la, ga, pV, kV⟩ => ?_
  · repeat array_get_dec
    obtain ⟨w, W, a1, a2, a3, a4, a5⟩ := draw_ok p (m + 17 + i) (by omega) V pV 24 (by decide) (by decide)
    refine wr_of a1 ?_
    obtain ⟨n, rfl⟩ := Int.eq_ofNat_of_zero_le a2
    have nl : n < ods.length := by omega
    refine wr_ixL (a5 _ _ (by omega) (kV _ _ (by omega) h5)) (atI_nat (List.getElem?_eq_getElem nl)) ?_
    refine ⟨a5 _ _ (by omega) hV, fun T lT kT hT => ⟨by simp [la], fun u hu => ?_, (a4.app pD kT).mono (by omega), fun x b x1 z => kT _ _ (by have := lt_of z; omega) (a5 _ _ x1 (kV _ _ x1 z))⟩⟩
    rcases List.mem_append.mp hu with z | z
    · exact ga u z
    · rw [List.mem_singleton.mp z]; exact List.getElem_mem nl
  · subst ev
    obtain ⟨a, b, c, rfl⟩ : ∃ a b c, acc = [a, b, c] := by
      match acc, la with
      | [a, b, c], _ => exact ⟨a, b, c, rfl⟩
    have kMV : KM M U5 V := fun x y n z => kV _ _ (fun q => n (.inl q)) z
    have ya := (gy a (ga a (by simp))).km kMV
    have yb := (gy b (ga b (by simp))).km kMV
    have yc := (gy c (ga c (by simp))).km kMV
    obtain ⟨X, hX⟩ := gy_repr (ya.up (by decide) (by decide)) (yb.up (by decide) (by decide)) (yc.up (by decide) (by decide))
    repeat array_get_dec
    intro f W ef lW kW hf
    repeat array_get_dec
    refine wr_of (hX W f (KM.of kW) hf) ?_
    have kmW : ∀ {T}, Keep W T → KM M V T := fun y => (KM.of kW).trans (KM.of y)
    have hA : Asks a b c X mn W := ⟨kW _ _ (kV _ _ np k0m), let ⟨j, q⟩ := ya.kd; ⟨j, fun T y => q T (kmW y)⟩, let ⟨j, q⟩ := yb.kd; ⟨j, fun T y => q T (kmW y)⟩, let ⟨j, q⟩ := yc.kd; ⟨j, fun T y => q T (kmW y)⟩, fun T l y => hX T l (kmW y)⟩
    repeat (first | exact (ask0 hA _).mono fun δ T ⟨⟨e6, ed⟩, kT⟩ => ⟨⟨_, _, _, _, _, _, _, ed⟩, ((pV.keep kW).keep kT).mono (by omega), kT _ _ hA.hm⟩ | array_get_dec)
theorem law_ok : LawOk m_law := fun xs hx => by
  obtain ⟨p, S1, e1, pn1⟩ := pen_ok xs hx
  suffices z : wr (m_law [.loc 0] [.frl (xs.map .int)]) (fun v T => v = .bl true ∧ True) noE by
    obtain ⟨T, e, _⟩ := ok_of z
    exact ⟨T, e⟩
  refine w_law ?_
  repeat array_get_dec
  refine wr_of e1 ?_
  repeat array_get_dec
  intro mn S2 em l2 k2 h2
  have pl := pn1.lt
  repeat array_get_dec
  refine rngGo 60 rfl (by decide) ?_
  refine wo_rng (fun j δ U => (∃ e3 e4 e5 e6 e7 e8 e9 e10, δ = Em (some (.loc 0)) e3 e4 e5 e6 e7 e8 e9 e10 p mn) ∧ Pen U p (25 * j) ∧ U[mn]? = some (.lst many)) ⟨⟨_, _, _, _, _, _, _, _, rfl⟩, pn1.keep k2, h2⟩ (fun j δ U hj ⟨⟨e3, e4, e5, e6, e7, e8, e9, e10, ed⟩, pU, hU⟩ => ?_) (fun δ U ⟨⟨e3, e4, e5, e6, e7, e8, e9, e10, ed⟩, pU, hU⟩ => ?_)
  · subst ed
    refine ⟨_, rfl, ?_⟩
    refine wo.use (turn_ok (m := 25 * j) (by omega) pU (by omega) hU (some (.loc 0)) _ e4 e5 e6 e7 e8 e9 e10) fun δ' V ⟨⟨f4, f5, f6, f7, f8, f9, f10, ed⟩, pV, hV⟩ => ?_
    exact ⟨⟨_, _, _, _, _, _, _, _, ed⟩, pV.mono (by omega), hV⟩
  · subst ed
    repeat array_get_dec
    exact ⟨rfl, trivial⟩
end Law
open PySem PySem.W PyProof.Rows
set_option maxRecDepth 100000 in
set_option maxHeartbeats 0 in
theorem PySem.Challenge.cw_loosecursors_k03_bits_refused_holds : PySem.Challenge.rw_loosecursors_k03_bits_refused.Holds := by
  w_on; o_law; k_head; (case hw => w_witness2)
  k_fill
  refine Rz.walk_T (l := PySem.Challenge.rw_loosecursors_k03_bits_refused) (k := 8) (x := "script") (m := Law.m_law) Law.law_ok rfl rfl ⟨rfl, by decide, by decide⟩ (by decide +kernel) (fun w h Y => PySem.W.km_in_of Y) (by decide +kernel) ?F
  case F =>
    intro w mg fa h KX G hmg own
    refine' Law.all_mk KX G hmg own ?a_CursorError ?x_CursorError ?k_CursorError ?b_CursorError ?t_CursorError ?a_InvalidHash ?x_InvalidHash ?k_InvalidHash ?b_InvalidHash ?t_InvalidHash ?a_InvalidNumber ?x_InvalidNumber ?k_InvalidNumber ?b_InvalidNumber ?t_InvalidNumber ?a_InvalidShape ?x_InvalidShape ?k_InvalidShape ?b_InvalidShape ?t_InvalidShape ?a_InvalidWidth ?x_InvalidWidth ?k_InvalidWidth ?b_InvalidWidth ?t_InvalidWidth ?z_bool ?z_dict ?z_int ?z_isinstance ?z_len ?z_list ?z_range ?z_repr ?z_tuple ?c_GREATEST_HASH ?c_GREATEST_WIDTH ?xd_CursorError ?xs_InvalidHash ?xg_InvalidHash ?xk_InvalidHash ?xd_InvalidHash ?xa_InvalidHash ?xo_InvalidHash ?xq_InvalidHash_InvalidNumber ?xq_InvalidHash_InvalidShape ?xq_InvalidHash_InvalidWidth ?xs_InvalidNumber ?xg_InvalidNumber ?xk_InvalidNumber ?xd_InvalidNumber ?xa_InvalidNumber ?xo_InvalidNumber ?xq_InvalidNumber_InvalidHash ?xq_InvalidNumber_InvalidShape ?xq_InvalidNumber_InvalidWidth ?xs_InvalidWidth ?xg_InvalidWidth ?xk_InvalidWidth ?xd_InvalidWidth ?xa_InvalidWidth ?xo_InvalidWidth ?xq_InvalidWidth_InvalidHash ?xq_InvalidWidth_InvalidNumber ?xq_InvalidWidth_InvalidShape ?xn_ ?xt_ ?xi_InvalidHash ?xr_InvalidHash ?xi_InvalidNumber ?xr_InvalidNumber ?xi_InvalidShape ?xr_InvalidShape ?xi_InvalidWidth ?xr_InvalidWidth ?fa__law_next ?fl__law_next ?fc__law_next ?fk__law_next ?fa__law_draw ?fl__law_draw ?fc__law_draw ?fk__law_draw ?fa__law_any ?fl__law_any ?fc__law_any ?fk__law_any ?fa__law_is_whole ?fl__law_is_whole ?fc__law_is_whole ?fk__law_is_whole ?fa__law_pen ?fl__law_pen ?fc__law_pen ?fk__law_pen ?fa__law_word ?fl__law_word ?fc__law_word ?fk__law_word ?fa_buckets_of ?fl_buckets_of ?fc_buckets_of ?fk_buckets_of ?fa_is_integer ?fl_is_integer ?fc_is_integer ?fk_is_integer ?fa_is_between ?fl_is_between ?fc_is_between ?fk_is_between ?fa_is_hash ?fl_is_hash ?fc_is_hash ?fk_is_hash ?fa_check_hash ?fl_check_hash ?fc_check_hash ?fk_check_hash ?fa_is_width ?fl_is_width ?fc_is_width ?fk_is_width ?fa_check_width ?fl_check_width ?fc_check_width ?fk_check_width ?fa_bucket ?fl_bucket ?fc_bucket ?fk_bucket ?fa__check_number ?fl__check_number ?fc__check_number ?fk__check_number ?fa_turned ?fl_turned ?fc_turned ?fk_turned ?fa_within ?fl_within ?fc_within ?fk_within ?fa_law ?fl_law ?fc_law ?fk_law ?cl_ ?cv_ ?c11_ ?c11b_ ?c18_ ?c7_ ?c9_ ?c10_ ?cne_ ?np_
    (case a_CursorError => k_is)
    (case x_CursorError => k_exc)
    (case k_CursorError => k_is)
    (case b_CursorError => k_is)
    (case t_CursorError => k_is)
    (case a_InvalidHash => k_is)
    (case x_InvalidHash => k_exc)
    (case k_InvalidHash => k_is)
    (case b_InvalidHash => k_is)
    (case t_InvalidHash => k_is)
    (case a_InvalidNumber => k_is)
    (case x_InvalidNumber => k_exc)
    (case k_InvalidNumber => k_is)
    (case b_InvalidNumber => k_is)
    (case t_InvalidNumber => k_is)
    (case a_InvalidShape => k_is)
    (case x_InvalidShape => k_exc)
    (case k_InvalidShape => k_is)
    (case b_InvalidShape => k_is)
    (case t_InvalidShape => k_is)
    (case a_InvalidWidth => k_is)
    (case x_InvalidWidth => k_exc)
    (case k_InvalidWidth => k_is)
    (case b_InvalidWidth => k_is)
    (case t_InvalidWidth => k_is)
    (case z_bool => k_is)
    (case z_dict => k_is)
    (case z_int => k_is)
    (case z_isinstance => k_is)
    (case z_len => k_is)
    (case z_list => k_is)
    (case z_range => k_is)
    (case z_repr => k_is)
    (case z_tuple => k_is)
    (case c_GREATEST_HASH => k_is)
    (case c_GREATEST_WIDTH => k_is)
    (case xd_CursorError => k_is)
    (case xs_InvalidHash => k_is)
    (case xg_InvalidHash => k_is)
    (case xk_InvalidHash => k_is)
    (case xd_InvalidHash => k_is)
    (case xa_InvalidHash => k_is)
    (case xo_InvalidHash => k_is)
    (case xq_InvalidHash_InvalidNumber => k_is)
    (case xq_InvalidHash_InvalidShape => k_is)
    (case xq_InvalidHash_InvalidWidth => k_is)
    (case xs_InvalidNumber => k_is)
    (case xg_InvalidNumber => k_is)
    (case xk_InvalidNumber => k_is)
    (case xd_InvalidNumber => k_is)
    (case xa_InvalidNumber => k_is)
    (case xo_InvalidNumber => k_is)
    (case xq_InvalidNumber_InvalidHash => k_is)
    (case xq_InvalidNumber_InvalidShape => k_is)
    (case xq_InvalidNumber_InvalidWidth => k_is)
    (case xs_InvalidWidth => k_is)
    (case xg_InvalidWidth => k_is)
    (case xk_InvalidWidth => k_is)
    (case xd_InvalidWidth => k_is)
    (case xa_InvalidWidth => k_is)
    (case xo_InvalidWidth => k_is)
    (case xq_InvalidWidth_InvalidHash => k_is)
    (case xq_InvalidWidth_InvalidNumber => k_is)
    (case xq_InvalidWidth_InvalidShape => k_is)
    (case xn_ => k_is)
    (case xt_ => k_is)
    (case xi_InvalidHash => k_is)
    (case xr_InvalidHash => k_is)
    (case xi_InvalidNumber => k_is)
    (case xr_InvalidNumber => k_is)
    (case xi_InvalidShape => k_is)
    (case xr_InvalidShape => k_is)
    (case xi_InvalidWidth => k_is)
    (case xr_InvalidWidth => k_is)
    (case fa__law_next => k_is)
    (case fl__law_next => k_is)
    (case fc__law_next => k_is)
    (case fk__law_next => k_is)
    (case fa__law_draw => k_is)
    (case fl__law_draw => k_is)
    (case fc__law_draw => k_is)
    (case fk__law_draw => k_is)
    (case fa__law_any => k_is)
    (case fl__law_any => k_is)
    (case fc__law_any => k_is)
    (case fk__law_any => k_is)
    (case fa__law_is_whole => k_is)
    (case fl__law_is_whole => k_is)
    (case fc__law_is_whole => k_is)
    (case fk__law_is_whole => k_is)
    (case fa__law_pen => k_is)
    (case fl__law_pen => k_is)
    (case fc__law_pen => k_is)
    (case fk__law_pen => k_is)
    (case fa__law_word => k_is)
    (case fl__law_word => k_is)
    (case fc__law_word => k_is)
    (case fk__law_word => k_is)
    (case fa_buckets_of => k_is)
    (case fl_buckets_of => k_is)
    (case fc_buckets_of => k_is)
    (case fk_buckets_of => k_is)
    (case fa_is_integer => k_is)
    (case fl_is_integer => k_is)
    (case fc_is_integer => k_is)
    (case fk_is_integer => k_is)
    (case fa_is_between => k_is)
    (case fl_is_between => k_is)
    (case fc_is_between => k_is)
    (case fk_is_between => k_is)
    (case fa_is_hash => k_is)
    (case fl_is_hash => k_is)
    (case fc_is_hash => k_is)
    (case fk_is_hash => k_is)
    (case fa_check_hash => k_is)
    (case fl_check_hash => k_is)
    (case fc_check_hash => k_is)
    (case fk_check_hash => k_is)
    (case fa_is_width => k_is)
    (case fl_is_width => k_is)
    (case fc_is_width => k_is)
    (case fk_is_width => k_is)
    (case fa_check_width => k_is)
    (case fl_check_width => k_is)
    (case fc_check_width => k_is)
    (case fk_check_width => k_is)
    (case fa_bucket => k_is)
    (case fl_bucket => k_is)
    (case fc_bucket => k_is)
    (case fk_bucket => k_is)
    (case fa__check_number => k_is)
    (case fl__check_number => k_is)
    (case fc__check_number => k_is)
    (case fk__check_number => k_is)
    (case fa_turned => k_is)
    (case fl_turned => k_is)
    (case fc_turned => k_is)
    (case fk_turned => k_is)
    (case fa_within => k_is)
    (case fl_within => k_is)
    (case fc_within => k_is)
    (case fk_within => k_is)
    (case fa_law => k_is)
    (case fl_law => k_is)
    (case fc_law => k_is)
    (case fk_law => k_is)
    (case cl_ => rfl)
    (case cv_ => k_is)
    (case c11_ => rfl)
    (case c11b_ => rfl)
    (case c18_ => rfl)
    (case c7_ => rfl)
    (case c9_ => rfl)
    (case c10_ => rfl)
    (case cne_ => decide)
    (case np_ => first | exact rfl | kernel_rfl)
