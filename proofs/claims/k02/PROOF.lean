import PyProof.Rows.All
import Wide.All
import OpenK.AllK
import Wide.FinOn
import HandS.Base
import HandS.Call
import HandS.List
import HandS.Ends
import HandS.Exc
import HandS.ExcOwn
import HandS.Comp
import HandS.Iter
import HandS.Words
import HandS.Style
import HandS.Conv
import HandS.RaiseMore
import HandS.IsInst
import HandS.TupAny
import HandS.TryOnly
import HandS.WordsExc
import PyProof.Rows.Range3
import PyProof.ListRange
import PySem.Challenge.RW_loosecursors_k02_bits
set_option Elab.async false
set_option linter.all false
set_option maxRecDepth 100000
set_option maxHeartbeats 4000000
set_option autoImplicit false
/-! A plain semantics of data, beside the hand layer: values Va (tuples are data), a store of numbered objects, and what of the model answers to them. -/
namespace Rz
open PySem PySem.Spec PyProof.Rows L2

/-- built-in classes by number -/
def tyName : Nat → String
  | 0 => "NoneType"
  | 1 => "bool"
  | 2 => "int"
  | 3 => "str"
  | 4 => "tuple"
  | 5 => "list"
  | 6 => "dict"
  | _ => "object"

inductive Va where
  | non | bl (b : Bool) | int (i : Int) | str (x : Str) | ty (n : Nat) | tup (ws : List Va) | loc (i : Nat) | cl (c : Nat)
  deriving Inhabited

inductive Ob where
  | lst (ws : List Va) | frl (ws : List Va) | dct (kvs : List (Va × Va)) | ins (c : Nat) (fs : List Va) | exo (c : Nat) (fs : List Va)
  deriving Inhabited

abbrev Env := List (Option Va)
abbrev Sto := List Ob

inductive Rs (α : Type) where
  | ok (a : α) (S : Sto)
  | ex (c : Nat) (fs : List Va) (S : Sto)
  | bad
def Rs.bind {α β : Type} (r : Rs α) (f : α → Sto → Rs β) : Rs β := match r with
  | .ok a S => f a S
  | .ex c fs S => .ex c fs S
  | .bad => .bad

inductive Out where
  | nx (δ : Env) (S : Sto)
  | rt (w : Va) (S : Sto)
  | bk (δ : Env) (S : Sto)
  | ct (δ : Env) (S : Sto)
  | ex (c : Nat) (fs : List Va) (δ : Env) (S : Sto)
  | bad
def Out.next (o : Out) (f : Env → Sto → Out) : Out := match o with
  | .nx δ S => f δ S
  | o => o
def Rs.out {α : Type} (r : Rs α) (δ : Env) (f : α → Sto → Out) : Out := match r with
  | .ok a S => f a S
  | .ex c fs S => .ex c fs δ S
  | .bad => .bad

abbrev XE := Env → Sto → Rs Va
abbrev XA := Env → Sto → Rs (List Va)
abbrev XT := Env → Sto → Rs Bool
abbrev XS := Env → Sto → Out

/-- what the text's classes are: where they stand, the names of their attributes in order -/
structure G where
  K : PySem.W.Frag
  cls : Nat → Addr
  fld : Nat → List Str

mutual
inductive Rel (g : G) (ρ : List Addr) (H : Hp) : Va → V → Prop
  | non : Rel g ρ H .non .non
  | bl (b : Bool) : Rel g ρ H (.bl b) (.bl b)
  | int (i : Int) : Rel g ρ H (.int i) (.int i)
  | str (x : Str) : Rel g ρ H (.str x) (.str x)
  | ty (n : Nat) : Rel g ρ H (.ty n) (.ty (tyName n))
  | tup {ws : List Va} {vs : List V} {a : Addr} : SqT g.K H a vs → RelL g ρ H ws vs → Rel g ρ H (.tup ws) (.ref a)
  | loc {i : Nat} {a : Addr} : ρ[i]? = some a → Rel g ρ H (.loc i) (.ref a)
  | cl (c : Nat) : Rel g ρ H (.cl c) (.ref (g.cls c))
inductive RelL (g : G) (ρ : List Addr) (H : Hp) : List Va → List V → Prop
  | nil : RelL g ρ H [] []
  | cons {w : Va} {ws : List Va} {v : V} {vs : List V} : Rel g ρ H w v → RelL g ρ H ws vs → RelL g ρ H (w :: ws) (v :: vs)
end

/-- more is known, nothing is forgotten -/
structure Ext (g : G) (ρ : List Addr) (H : Hp) (ρ' : List Addr) (H' : Hp) : Prop where
  pre : ∃ r, ρ' = ρ ++ r
  tup : ∀ a vs, SqT g.K H a vs → SqT g.K H' a vs

section
variable {g : G} {ρ ρ' ρ'' : List Addr} {H H' H'' : Hp}
theorem Ext.refl : Ext g ρ H ρ H := ⟨⟨[], by simp⟩, fun _ _ h => h⟩
theorem Ext.trans (a : Ext g ρ H ρ' H') (b : Ext g ρ' H' ρ'' H'') : Ext g ρ H ρ'' H'' := by
  obtain ⟨r, rfl⟩ := a.pre
  obtain ⟨q, rfl⟩ := b.pre
  exact ⟨⟨r ++ q, by simp⟩, fun x vs h => b.tup x vs (a.tup x vs h)⟩
theorem Ext.at (e : Ext g ρ H ρ' H') {i : Nat} {a : Addr} (h : ρ[i]? = some a) : ρ'[i]? = some a := by
  obtain ⟨r, rfl⟩ := e.pre
  have q := (List.getElem?_eq_some_iff.mp h).1
  rw [List.getElem?_append_left q]
  exact h
theorem Rel.mono (e : Ext g ρ H ρ' H') {w : Va} {v : V} (h : Rel g ρ H w v) : Rel g ρ' H' w v :=
  Rel.rec (motive_1 := fun w v _ => Rel g ρ' H' w v) (motive_2 := fun ws vs _ => RelL g ρ' H' ws vs) .non (fun b => .bl b) (fun i => .int i) (fun x => .str x) (fun n => .ty n)
    (fun s _ ih => .tup (e.tup _ _ s) ih) (fun s => .loc (e.at s)) (fun c => .cl c) .nil (fun _ _ a b => .cons a b) h
theorem RelL.mono (e : Ext g ρ H ρ' H') : ∀ {ws : List Va} {vs : List V}, RelL g ρ H ws vs → RelL g ρ' H' ws vs
  | _, _, .nil => .nil
  | _, _, .cons a b => .cons (a.mono e) (RelL.mono e b)
theorem RelL.length : ∀ {ws : List Va} {vs : List V}, RelL g ρ H ws vs → ws.length = vs.length
  | _, _, .nil => rfl
  | _, _, .cons _ b => congrArg (· + 1) (RelL.length b)
theorem RelL.get : ∀ {ws : List Va} {vs : List V} {i : Nat} {w : Va}, RelL g ρ H ws vs → ws[i]? = some w → ∃ v, vs[i]? = some v ∧ Rel g ρ H w v
  | _, _, _, _, .nil, h => by simp at h
  | _, _, 0, _, .cons a _, h => by
    simp at h
    subst h
    exact ⟨_, rfl, a⟩
  | _, _, i + 1, w, .cons _ b, h => by
    obtain ⟨v, h1, h2⟩ := RelL.get (i := i) (w := w) b (by simpa using h)
    exact ⟨v, by simpa using h1, h2⟩
theorem RelL.tog : ∀ {ws : List Va} {vs : List V} {i : Nat} {v : V}, RelL g ρ H ws vs → vs[i]? = some v → ∃ w, ws[i]? = some w ∧ Rel g ρ H w v
  | _, _, _, _, .nil, h => by simp at h
  | _, _, 0, _, .cons a _, h => by
    simp at h
    subst h
    exact ⟨_, rfl, a⟩
  | _, _, i + 1, v, .cons _ b, h => by
    obtain ⟨w, h1, h2⟩ := RelL.tog (i := i) (v := v) b (by simpa using h)
    exact ⟨w, by simpa using h1, h2⟩
theorem RelL.app : ∀ {ws us : List Va} {vs ts : List V}, RelL g ρ H ws vs → RelL g ρ H us ts → RelL g ρ H (ws ++ us) (vs ++ ts)
  | _, _, _, _, .nil, h => h
  | _, _, _, _, .cons a b, h => .cons a (RelL.app b h)
theorem RelL.take : ∀ {ws : List Va} {vs : List V} (n : Nat), RelL g ρ H ws vs → RelL g ρ H (ws.take n) (vs.take n)
  | _, _, 0, _ => .nil
  | _, _, _ + 1, .nil => .nil
  | _, _, n + 1, .cons a b => .cons a (RelL.take n b)
theorem RelL.drop : ∀ {ws : List Va} {vs : List V} (n : Nat), RelL g ρ H ws vs → RelL g ρ H (ws.drop n) (vs.drop n)
  | _, _, 0, h => h
  | _, _, _ + 1, .nil => .nil
  | _, _, n + 1, .cons _ b => RelL.drop n b
theorem RelL.put {w : Va} {v : V} (r : Rel g ρ H w v) : ∀ {ws : List Va} {vs : List V} (i : Nat), RelL g ρ H ws vs → RelL g ρ H (ws.set i w) (vs.set i v)
  | _, _, _, .nil => .nil
  | _, _, 0, .cons _ b => .cons r b
  | _, _, i + 1, .cons a b => .cons a (RelL.put r i b)
theorem RelL.rev : ∀ {ws : List Va} {vs : List V}, RelL g ρ H ws vs → RelL g ρ H ws.reverse vs.reverse
  | _, _, .nil => .nil
  | _, _, .cons a b => by
    rw [List.reverse_cons, List.reverse_cons]
    exact (RelL.rev b).app (.cons a .nil)
theorem RelL.ints : ∀ ns : List Int, RelL g ρ H (ns.map Va.int) (ns.map V.int)
  | [] => .nil
  | n :: r => .cons (.int n) (RelL.ints r)
end

/-- what stands at the address of an object of the store -/
def At (g : G) (ρ : List Addr) (H : Hp) (a : Addr) : Ob → Prop
  | .lst ws => ∃ vs, H a = some (.lst vs) ∧ RelL g ρ H ws vs
  | .frl ws => (∃ o vs, H a = some (.frz o (.lst vs)) ∧ RelL g ρ H ws vs) ∨ ∃ vs, (∀ H', SqL g.K H' a vs) ∧ RelL g ρ H ws vs
  | .dct kvs => False
  | .ins c fs => ∃ dx fs', H a = some (.ins (g.cls c) dx fs') ∧ fs'.map (·.1) = (g.fld c).take fs.length ∧ RelL g ρ H fs (fs'.map (·.2))
  | .exo c fs => False
def isFr : Ob → Bool
  | .frl _ => true
  | _ => false
structure Sim (g : G) (ρ : List Addr) (S : Sto) (H : Hp) : Prop where
  len : S.length = ρ.length
  inj : ∀ (i j : Nat) (a : Addr) (o u : Ob), ρ[i]? = some a → ρ[j]? = some a → S[i]? = some o → S[j]? = some u → isFr o = false → isFr u = false → i = j
  ats : ∀ (i : Nat) (o : Ob) (a : Addr), S[i]? = some o → ρ[i]? = some a → At g ρ H a o

section
variable {g : G} {ρ ρ' : List Addr} {H H' : Hp} {S : Sto} {a : Addr}
theorem At.there {o : Ob} (h : At g ρ H a o) (n : isFr o = false) : ∃ u, H a = some u ∧ (∀ vs, u ≠ .tup vs) ∧ ∀ ob w, u ≠ .frz ob w := by
  cases o with
  | lst ws => obtain ⟨vs, e, _⟩ := h; exact ⟨_, e, (fun vs z => by cases z), fun ob w z => by cases z⟩
  | frl ws => cases n
  | dct kvs => exact h.elim
  | ins c fs => obtain ⟨dx, fs', e, _⟩ := h; exact ⟨_, e, (fun vs z => by cases z), fun ob w z => by cases z⟩
  | exo c fs => exact h.elim
/-- the object's description at a heap that knows more, the object itself standing -/
theorem At.mono (e : Ext g ρ H ρ' H') (k : ∀ u, H a = some u → H' a = some u) {o : Ob} (h : At g ρ H a o) : At g ρ' H' a o := by
  cases o with
  | lst ws => obtain ⟨vs, q, r⟩ := h; exact ⟨vs, k _ q, r.mono e⟩
  | frl ws =>
    rcases h with ⟨o, vs, q, r⟩ | ⟨vs, q, r⟩
    · exact .inl ⟨o, vs, k _ q, r.mono e⟩
    · exact .inr ⟨vs, q, r.mono e⟩
  | dct kvs => exact h
  | ins c fs => obtain ⟨dx, fs', q, z, r⟩ := h; exact ⟨dx, fs', k _ q, z, r.mono e⟩
  | exo c fs => exact h
theorem Sim.mono (s : Sim g ρ S H) (t : ∀ a vs, SqT g.K H a vs → SqT g.K H' a vs) (k : ∀ a ∈ ρ, ∀ u, H a = some u → H' a = some u) : Sim g ρ S H' :=
  ⟨s.len, s.inj, fun i o a h1 h2 => (s.ats i o a h1 h2).mono ⟨⟨[], by simp⟩, t⟩ (k a (List.mem_of_getElem? h2))⟩
theorem sqT_upd {p : Addr} {o : HO} (h : H p = none) : ∀ a vs, SqT g.K H a vs → SqT g.K (upd H p o) a vs := fun a vs s => by
  rcases s with (s | ⟨u, s⟩) | s
  · exact .inl (.inl (by rw [upd_ne (ne_of_none s h)]; exact s))
  · exact .inl (.inr ⟨u, by rw [upd_ne (ne_of_none s h)]; exact s⟩)
  · exact .inr s
/-- a new address is laid, known to the store or not -/
theorem Sim.aside {p : Addr} {o : HO} (s : Sim g ρ S H) (h : H p = none) : Sim g ρ S (upd H p o) :=
  s.mono (sqT_upd h) fun a _ u e => by rw [upd_ne (ne_of_none e h)]; exact e
theorem ext_upd {p : Addr} {o : HO} (h : H p = none) : Ext g ρ H ρ (upd H p o) := ⟨⟨[], by simp⟩, sqT_upd h⟩
theorem Sim.laid {p : Addr} {o : Ob} {u : HO} (s : Sim g ρ S H) (h : H p = none) (new : ∀ ρ' H', Ext g ρ H ρ' H' → H' p = some u → At g ρ' H' p o) (nf : isFr o = false) :
    Sim g (ρ ++ [p]) (S ++ [o]) (upd H p u) ∧ Ext g ρ H (ρ ++ [p]) (upd H p u) := by
  have e : Ext g ρ H (ρ ++ [p]) (upd H p u) := ⟨⟨[p], rfl⟩, sqT_upd h⟩
  have sl := s.len
  have old : ∀ {i : Nat} {a : Addr}, i ≠ ρ.length → (ρ ++ [p])[i]? = some a → i < ρ.length ∧ ρ[i]? = some a := fun {i a} hi q => by
    have hlt := (List.getElem?_eq_some_iff.mp q).1
    rw [List.length_append, List.length_singleton] at hlt
    have hlt2 : i < ρ.length := by omega
    rw [List.getElem?_append_left hlt2] at q
    exact ⟨hlt2, q⟩
  have oldS : ∀ {i : Nat} {b : Ob}, i < ρ.length → (S ++ [o])[i]? = some b → S[i]? = some b := fun {i b} hi q => by
    rw [List.getElem?_append_left (by omega)] at q
    exact q
  have newA : ∀ {a : Addr}, (ρ ++ [p])[ρ.length]? = some a → a = p := fun {a} q => by simp at q; exact q.symm
  have newS : ∀ {b : Ob}, (S ++ [o])[ρ.length]? = some b → b = o := fun {b} q => by rw [← sl] at q; simp at q; exact q.symm
  have freshA : ∀ {i : Nat} {a : Addr} {b : Ob}, ρ[i]? = some a → S[i]? = some b → isFr b = false → a ≠ p := fun {i a b} q1 q2 q3 z => by
    obtain ⟨x, q4, _, _⟩ := (s.ats i b a q2 q1).there q3
    rw [z, h] at q4
    cases q4
  refine ⟨⟨by simp [sl], fun i j a b c h1 h2 h3 h4 h5 h6 => ?_, fun i b a h1 h2 => ?_⟩, e⟩
  · by_cases hi : i = ρ.length
    · by_cases hj : j = ρ.length
      · rw [hi, hj]
      · obtain ⟨l2, q2⟩ := old hj h2
        rw [hi] at h1
        exact absurd (newA h1) (freshA q2 (oldS l2 h4) h6)
    · obtain ⟨l1, q1⟩ := old hi h1
      by_cases hj : j = ρ.length
      · rw [hj] at h2
        exact absurd (newA h2) (freshA q1 (oldS l1 h3) h5)
      · obtain ⟨l2, q2⟩ := old hj h2
        exact s.inj i j a b c q1 q2 (oldS l1 h3) (oldS l2 h4) h5 h6
  · by_cases hi : i = ρ.length
    · subst hi
      obtain rfl := newA h2
      obtain rfl := newS h1
      exact new _ _ e upd_same
    · obtain ⟨l1, q1⟩ := old hi h2
      exact (s.ats i b a (oldS l1 h1) q1).mono e fun x q => by rw [upd_ne (ne_of_none q h)]; exact q
/-- an object of the store is written -/
theorem Sim.put {i : Nat} {o o' : Ob} {u : HO} (s : Sim g ρ S H) (h1 : S[i]? = some o) (h2 : ρ[i]? = some a) (nf : isFr o = false) (nf' : isFr o' = false)
    (new : ∀ H', Ext g ρ H ρ H' → H' a = some u → At g ρ H' a o') : Sim g ρ (S.set i o') (upd H a u) ∧ Ext g ρ H ρ (upd H a u) := by
  obtain ⟨x, hx, nt, nfz⟩ := (s.ats i o a h1 h2).there nf
  have e : Ext g ρ H ρ (upd H a u) := ⟨⟨[], by simp⟩, fun b vs t => by
    rcases t with (t | ⟨ob, t⟩) | t
    · exact .inl (.inl (by rw [upd_ne (ne_of t hx (fun z => nt vs z.symm))]; exact t))
    · exact .inl (.inr ⟨ob, by rw [upd_ne (ne_of t hx (fun z => nfz ob _ z.symm))]; exact t⟩)
    · exact .inr t⟩
  have back : ∀ {j : Nat} {c : Ob}, (S.set i o')[j]? = some c → isFr c = false → ∃ b, S[j]? = some b ∧ isFr b = false := fun {j c} q q2 => by
    by_cases hj : j = i
    · subst hj
      exact ⟨o, h1, nf⟩
    · rw [List.getElem?_set_ne (Ne.symm hj)] at q
      exact ⟨c, q, q2⟩
  refine ⟨⟨by simp [s.len], fun j k b c d q1 q2 q3 q4 q5 q6 => ?_, fun j b c q1 q2 => ?_⟩, e⟩
  · obtain ⟨c', z1, z2⟩ := back q3 q5
    obtain ⟨d', z3, z4⟩ := back q4 q6
    exact s.inj j k b c' d' q1 q2 z1 z3 z2 z4
  · by_cases hj : j = i
    · subst hj
      rw [h2] at q2
      cases q2
      have hlt := (List.getElem?_eq_some_iff.mp h1).1
      rw [List.getElem?_set_self hlt] at q1
      cases q1
      exact new _ e upd_same
    · rw [List.getElem?_set_ne (Ne.symm hj)] at q1
      have z0 := s.ats j b c q1 q2
      by_cases hb : isFr b = true
      · cases b with
        | frl ws =>
          rcases z0 with ⟨ob, vs, z, r⟩ | ⟨vs, z, r⟩
          · refine .inl ⟨ob, vs, ?_, r.mono e⟩
            rw [upd_ne (ne_of z hx fun y => nfz _ _ y.symm)]
            exact z
          · exact .inr ⟨vs, z, r.mono e⟩
        | _ => cases hb
      · have hb' : isFr b = false := by simpa using hb
        refine z0.mono e fun y q => ?_
        have n : c ≠ a := fun z => by
          subst z
          exact hj (s.inj j i c b o q2 h2 q1 h1 hb' nf)
        rw [upd_ne n]
        exact q
end
end Rz
namespace Rz
open PySem PySem.Spec PyProof.Rows L2

/-! ### what is asked of the model -/
def ExD (g : G) (ρ : List Addr) (H : Hp) (c : Nat) (fs : List Va) (d : Option Addr) : Prop :=
  (fs = [] ∧ d = none) ∨ ∃ dd fs', d = some dd ∧ H dd = some (.xd fs') ∧ fs'.map (·.1) = (g.fld c).take fs.length ∧ RelL g ρ H fs (fs'.map (·.2))
def wpR {α β : Type} (g : G) (Wx : WX) (σ : L2.St) (rel : List Addr → Hp → α → β → Prop) (ρ : List Addr) (H : Hp) (r : Rs α) (Q : β → Hp → Prop) : Prop :=
  match r with
  | .ok a S => ∀ ρ' H' b, Ext g ρ H ρ' H' → Sim g ρ' S H' → rel ρ' H' a b → Q b H'
  | .ex c fs S => ∀ ρ' H' d, Ext g ρ H ρ' H' → Sim g ρ' S H' → ExD g ρ' H' c fs d → Wx (.ref (g.cls c)) d σ H'
  | .bad => False
def relB (_ : List Addr) (_ : Hp) (a b : Bool) : Prop := a = b
def SimE (g : G) (ρ : List Addr) (H : Hp) (δ : Env) (σ : L2.St) : Prop := δ.length = σ.length ∧ ∀ (i : Nat) (w : Va), δ[i]? = some (some w) → ∃ v, σ[i]? = some (some v) ∧ Rel g ρ H w v
def wpS (g : G) (Wx : WX) (ρ : List Addr) (H : Hp) (D : Ends) (o : Out) : Prop :=
  match o with
  | .nx δ S => ∀ ρ' H' σ', Ext g ρ H ρ' H' → Sim g ρ' S H' → SimE g ρ' H' δ σ' → D.nx σ' H'
  | .bk δ S => ∀ ρ' H' σ', Ext g ρ H ρ' H' → Sim g ρ' S H' → SimE g ρ' H' δ σ' → D.bk σ' H'
  | .ct δ S => ∀ ρ' H' σ', Ext g ρ H ρ' H' → Sim g ρ' S H' → SimE g ρ' H' δ σ' → D.ct σ' H'
  | .rt w S => ∀ ρ' H' v, Ext g ρ H ρ' H' → Sim g ρ' S H' → Rel g ρ' H' w v → D.rt v H'
  | .ex c fs δ S => ∀ ρ' H' σ' d, Ext g ρ H ρ' H' → Sim g ρ' S H' → SimE g ρ' H' δ σ' → ExD g ρ' H' c fs d → Wx (.ref (g.cls c)) d σ' H'
  | .bad => False

section
variable {g : G} {Wx : WX} {ρ ρ' : List Addr} {H H' : Hp} {σ : L2.St} {δ : Env} {S : Sto}
theorem SimE.mono (e : Ext g ρ H ρ' H') (h : SimE g ρ H δ σ) : SimE g ρ' H' δ σ := ⟨h.1, fun i w q => let ⟨v, h1, h2⟩ := h.2 i w q; ⟨v, h1, h2.mono e⟩⟩
theorem SimE.put {i : Nat} {w : Va} {v : V} (h : SimE g ρ H δ σ) (r : Rel g ρ H w v) : SimE g ρ H (δ.set i (some w)) (σ.set i (some v)) := by
  refine ⟨by simp [h.1], fun j u q => ?_⟩
  by_cases hj : j = i
  · subst hj
    have hlt : j < δ.length := by
      have z := (List.getElem?_eq_some_iff.mp q).1
      simpa using z
    rw [List.getElem?_set_self hlt] at q
    cases q
    exact ⟨v, List.getElem?_set_self (by rw [← h.1]; exact hlt), r⟩
  · rw [List.getElem?_set_ne (Ne.symm hj)] at q ⊢
    exact h.2 j u q
theorem SimE.drop {i : Nat} (h : SimE g ρ H δ σ) : SimE g ρ H (δ.set i none) (σ.set i none) := by
  refine ⟨by simp [h.1], fun j u q => ?_⟩
  by_cases hj : j = i
  · subst hj
    have hlt : j < δ.length := by
      have z := (List.getElem?_eq_some_iff.mp q).1
      simpa using z
    rw [List.getElem?_set_self hlt] at q
    cases q
  · rw [List.getElem?_set_ne (Ne.symm hj)] at q ⊢
    exact h.2 j u q
theorem SimE.weak {i : Nat} (h : SimE g ρ H δ σ) : SimE g ρ H (δ.set i none) σ := by
  refine ⟨by simp [h.1], fun j u q => ?_⟩
  by_cases hj : j = i
  · subst hj
    have hlt : j < δ.length := by
      have z := (List.getElem?_eq_some_iff.mp q).1
      simpa using z
    rw [List.getElem?_set_self hlt] at q
    cases q
  · rw [List.getElem?_set_ne (Ne.symm hj)] at q
    exact h.2 j u q
section
variable {α β γ θ : Type} {rel : List Addr → Hp → α → β → Prop} {rel2 : List Addr → Hp → γ → θ → Prop}
theorem wpR.imp {r : Rs α} {Q Q' : β → Hp → Prop} (h : wpR g Wx σ rel ρ H r Q) (k : ∀ b H', Q b H' → Q' b H') : wpR g Wx σ rel ρ H r Q' := by
  cases r with
  | ok a S => exact fun ρ' H' b e s r => k b H' (h ρ' H' b e s r)
  | ex c fs S => exact h
  | bad => exact h
theorem wpR.ext {r : Rs α} {Q : β → Hp → Prop} (e0 : Ext g ρ H ρ' H') (h : wpR g Wx σ rel ρ H r Q) : wpR g Wx σ rel ρ' H' r Q := by
  cases r with
  | ok a S => exact fun ρ1 H1 b e s r => h ρ1 H1 b (e0.trans e) s r
  | ex c fs S => exact fun ρ1 H1 d e s x => h ρ1 H1 d (e0.trans e) s x
  | bad => exact h
theorem wpR.bind {r : Rs α} {f : α → Sto → Rs γ} {Q : θ → Hp → Prop} (h : wpR g Wx σ rel2 ρ H (r.bind f) Q) :
    wpR g Wx σ rel ρ H r fun b H1 => ∃ ρ1 a S1, Ext g ρ H ρ1 H1 ∧ Sim g ρ1 S1 H1 ∧ rel ρ1 H1 a b ∧ wpR g Wx σ rel2 ρ1 H1 (f a S1) Q := by
  cases r with
  | ok a S => exact fun ρ' H' b e s r => ⟨ρ', a, S, e, s, r, wpR.ext e h⟩
  | ex c fs S => exact h
  | bad => exact h
theorem wpS.ext {D : Ends} {o : Out} (e0 : Ext g ρ H ρ' H') (h : wpS g Wx ρ H D o) : wpS g Wx ρ' H' D o := by
  cases o with
  | nx δ S => exact fun ρ1 H1 s e a b => h ρ1 H1 s (e0.trans e) a b
  | bk δ S => exact fun ρ1 H1 s e a b => h ρ1 H1 s (e0.trans e) a b
  | ct δ S => exact fun ρ1 H1 s e a b => h ρ1 H1 s (e0.trans e) a b
  | rt w S => exact fun ρ1 H1 s e a b => h ρ1 H1 s (e0.trans e) a b
  | ex c fs δ S => exact fun ρ1 H1 s d e a b c => h ρ1 H1 s d (e0.trans e) a b c
  | bad => exact h
theorem wpR.out {r : Rs α} {f : α → Sto → Out} {D : Ends} (se : SimE g ρ H δ σ) (h : wpS g Wx ρ H D (r.out δ f)) :
    wpR g Wx σ rel ρ H r fun b H1 => ∃ ρ1 a S1, Ext g ρ H ρ1 H1 ∧ Sim g ρ1 S1 H1 ∧ rel ρ1 H1 a b ∧ wpS g Wx ρ1 H1 D (f a S1) := by
  cases r with
  | ok a S => exact fun ρ' H' b e s r => ⟨ρ', a, S, e, s, r, wpS.ext e h⟩
  | ex c fs S => exact fun ρ' H' d e s x => h ρ' H' σ d e s (se.mono e) x
  | bad => exact h
end
theorem wpR.fin {α β : Type} {rel : List Addr → Hp → α → β → Prop} {a : α} {b : β} {Q : β → Hp → Prop} (h : wpR g Wx σ rel ρ H (.ok a S) Q) (s : Sim g ρ S H) (r : rel ρ H a b) : Q b H := h ρ H b .refl s r
theorem wpR.fin_at {α β : Type} {rel : List Addr → Hp → α → β → Prop} {a : α} {b : β} {Q : β → Hp → Prop} (h : wpR g Wx σ rel ρ H (.ok a S) Q) (e : Ext g ρ H ρ' H') (s : Sim g ρ' S H') (r : rel ρ' H' a b) : Q b H' := h ρ' H' b e s r
end

/-! ### the readings, the judgements -/
def tE (g : G) (Wx : WX) (x : XE) : TE := fun σ H Q => ∃ δ S ρ, Sim g ρ S H ∧ SimE g ρ H δ σ ∧ wpR g Wx σ (Rel g) ρ H (x δ S) Q
def tA (g : G) (Wx : WX) (x : XA) : TA := fun σ H Q => ∃ δ S ρ, Sim g ρ S H ∧ SimE g ρ H δ σ ∧ wpR g Wx σ (RelL g) ρ H (x δ S) Q
def tQ (g : G) (Wx : WX) (x : XT) : TT := fun σ H Q => ∃ δ S ρ, Sim g ρ S H ∧ SimE g ρ H δ σ ∧ wpR g Wx σ relB ρ H (x δ S) Q
def tS (g : G) (Wx : WX) (x : XS) : TS := fun D σ H => ∃ δ S ρ, Sim g ρ S H ∧ SimE g ρ H δ σ ∧ wpS g Wx ρ H D (x δ S)
/-- e means x -/
abbrev SE (X : Cx) (g : G) (Wx : WX) (e : Expr) (x : XE) : Prop := PE X e (tE g Wx x)
abbrev SA (X : Cx) (g : G) (Wx : WX) (es : List Expr) (x : XA) : Prop := PA X es (tA g Wx x)
abbrev SQ (X : Cx) (g : G) (Wx : WX) (e : Expr) (x : XT) : Prop := PT X e (tQ g Wx x)
abbrev SS (X : Cx) (g : G) (Wx : WX) (s : Stmt) (x : XS) : Prop := PS X s (tS g Wx x)
abbrev SB (X : Cx) (g : G) (Wx : WX) (s : List Stmt) (x : XS) : Prop := PSs X s (tS g Wx x)
theorem pe_imp {X : Cx} {e : Expr} {t t' : TE} (h : PE X e t) (k : ∀ σ H Q, t' σ H Q → t σ H Q) : PE X e t' := ⟨fun pins s σ H Q I q => h.run pins s σ H Q I (k _ _ _ q)⟩
theorem pt_imp {X : Cx} {e : Expr} {t t' : TT} (h : PT X e t) (k : ∀ σ H Q, t' σ H Q → t σ H Q) : PT X e t' := ⟨fun pins s σ H Q I q => h.run pins s σ H Q I (k _ _ _ q)⟩
theorem pw_imp {X : Cx} {e : Expr} {t t' : TT} (h : PW X e t) (k : ∀ σ H Q, t' σ H Q → t σ H Q) : PW X e t' := ⟨fun wh pins s σ H Q I q => h.run wh pins s σ H Q I (k _ _ _ q)⟩
theorem pa_imp {X : Cx} {e : List Expr} {t t' : TA} (h : PA X e t) (k : ∀ σ H Q, t' σ H Q → t σ H Q) : PA X e t' := ⟨fun ps pins s σ H Q I q => h.run ps pins s σ H Q I (k _ _ _ q)⟩
theorem ps_imp {X : Cx} {e : Stmt} {t t' : TS} (h : PS X e t) (k : ∀ D σ H, t' D σ H → t D σ H) : PS X e t' := ⟨fun pins s σ H D I q => h.run pins s σ H D I (k _ _ _ q)⟩
theorem pb_imp {X : Cx} {e : List Stmt} {t t' : TS} (h : PSs X e t) (k : ∀ D σ H, t' D σ H → t D σ H) : PSs X e t' := ⟨fun pins s σ H D I q => h.run pins s σ H D I (k _ _ _ q)⟩

/-- where one stands -/
structure XO (X : Cx) (g : G) (Wx : WX) (k : Nat) : Prop where
  K : g.K = X.K
  nd : X.N.Nodup
  calm : X.calm = true
  room : Room k X.A
  grd : X.A.guards = some []
  tk : Takes X Wx
  po : PassesOwn (model X.prog X.w) X.A X.env X.xe
theorem XO.mono {X : Cx} {g : G} {Wx : WX} {j k : Nat} (o : XO X g Wx k) (h : j ≤ k) : XO X g Wx j := ⟨o.K, o.nd, o.calm, o.room.mono h, o.grd, o.tk, o.po⟩

/-! ### combinators -/
@[simp] def xvar (i : Nat) : XE := fun δ S => match δ[i]? with
  | some (some w) => .ok w S
  | _ => .bad
@[simp] def xlit (w : Va) : XE := fun _ S => .ok w S
@[simp] def xbin (f : Va → Va → Sto → Rs Va) (x y : XE) : XE := fun δ S => (x δ S).bind fun a S1 => (y δ S1).bind fun b S2 => f a b S2
@[simp] def xun (f : Va → Sto → Rs Va) (x : XE) : XE := fun δ S => (x δ S).bind f
@[simp] def xbinB (f : Va → Va → Sto → Rs Bool) (x y : XE) : XT := fun δ S => (x δ S).bind fun a S1 => (y δ S1).bind fun b S2 => f a b S2
@[simp] def xboo (x : XT) : XE := fun δ S => (x δ S).bind fun b S1 => .ok (.bl b) S1
@[simp] def xand (x y : XT) : XT := fun δ S => (x δ S).bind fun b S1 => if b then y δ S1 else .ok false S1
@[simp] def xor (x y : XT) : XT := fun δ S => (x δ S).bind fun b S1 => if b then .ok true S1 else y δ S1
@[simp] def xnot (x : XT) : XT := fun δ S => (x δ S).bind fun b S1 => .ok (!b) S1
@[simp] def xite (c : XT) (x y : XE) : XE := fun δ S => (c δ S).bind fun b S1 => if b then x δ S1 else y δ S1
@[simp] def anil : XA := fun _ S => .ok [] S
@[simp] def acons (x : XE) (r : XA) : XA := fun δ S => (x δ S).bind fun a S1 => (r δ S1).bind fun as S2 => .ok (a :: as) S2
@[simp] def xcall (f : List Va → Sto → Rs Va) (r : XA) : XE := fun δ S => (r δ S).bind f
/-- a length within the line -/
def fits (n : Nat) : Bool := decide (n ≤ sizeLine)
theorem fits_iff {n : Nat} : fits n = true ↔ n ≤ sizeLine := by unfold fits; exact decide_eq_true_iff
theorem fits_of {n : Nat} (h : n ≤ 16777216) : fits n = true := fits_iff.mpr (by rw [sizeLine_eq]; exact h)
def ltup (ws : List Va) (S : Sto) : Rs Va := bif fits ws.length then .ok (.tup ws) S else .bad
def llst (ws : List Va) (S : Sto) : Rs Va := bif fits ws.length then .ok (.loc S.length) (S ++ [.lst ws]) else .bad

section
variable {X : Cx} {g : G} {Wx : WX} {k : Nat} {pos : Pos}
theorem se_var (i : Nat) {x : Str} (hN : X.N[i]? = some x := by rfl) (hv : Vis X.env.scope x := by first | exact Or.inl rfl | exact Or.inr (Or.inl rfl) | exact Or.inr (Or.inr rfl)) (hd : (x == ("__debug__" : Str)) = false := by decide)
    (hcd : (x == ("__classdict__" : Str)) = false := by decide) : SE X g Wx (.Name x pos) (xvar i) :=
  pe_imp (pe_var hN hv hd hcd) fun σ H Q ⟨δ, S, ρ, sm, se, h⟩ => by
    unfold xvar at h
    split at h
    · rename_i w hw
      obtain ⟨v, hv, r⟩ := se.2 _ _ hw
      exact ⟨v, hv, h.fin sm r⟩
    · exact h.elim
theorem se_c {e : Expr} {w : Va} {v : V} (h : PE X e (tC v)) (r : ∀ ρ H, Rel g ρ H w v) : SE X g Wx e (xlit w) :=
  pe_imp h fun σ H Q ⟨δ, S, ρ, sm, se, h⟩ => h.fin sm (r ρ H)
theorem se_int {i : Int} {j : Nat} : SE X g Wx (.Constant (.int i) j pos) (xlit (.int i)) := se_c pe_int fun _ _ => .int i
theorem se_bl {b : Bool} {j : Nat} : SE X g Wx (.Constant (.bool b) j pos) (xlit (.bl b)) := se_c pe_bl fun _ _ => .bl b
theorem se_non {j : Nat} : SE X g Wx (.Constant .none j pos) (xlit .non) := se_c pe_non fun _ _ => .non
theorem se_str {x : Str} {j : Nat} : SE X g Wx (.Constant (.str x) j pos) (xlit (.str x)) := se_c pe_str fun _ _ => .str x
theorem se_ty {x : Str} (n : Nat) (hm : X.mg x = none) (hg : Gl X x := by rfl) (hv : bootBuiltins x = some (.type (tyName n)) := by decide +kernel) (hn : x ≠ "__name__" := by decide) (hd : (x == ("__debug__" : Str)) = false := by decide) : SE X g Wx (.Name x pos) (xlit (.ty n)) :=
  se_c (pe_bltn (v := .ty (tyName n)) hg hm hv rfl hn hd) fun _ _ => .ty n
theorem se_gint {x : Str} {i : Int} {t : Tok} (hm : X.mg x = some (.int i t)) (hg : Gl X x := by rfl) (hd : (x == ("__debug__" : Str)) = false := by decide) : SE X g Wx (.Name x pos) (xlit (.int i)) :=
  se_c (pe_glob (v := .int i) hg hm ⟨t, rfl⟩ hd) fun _ _ => .int i
theorem se_cls {x : Str} {c : Nat} (hm : X.mg x = some (.ref (g.cls c))) (hg : Gl X x := by rfl) (hd : (x == ("__debug__" : Str)) = false := by decide) : SE X g Wx (.Name x pos) (xlit (.cl c)) :=
  se_c (pe_glob (v := .ref (g.cls c)) hg hm rfl hd) fun _ _ => .cl c

/-- what an operation on data is worth -/
def OpS (g : G) (r : R2) (f : Va → Va → Sto → Rs Va) : Prop :=
  ∀ (Wx : WX) (σ : L2.St) (ρ : List Addr) (S : Sto) (H : Hp) (a b : Va) (x y : V) (Q : VK), Sim g ρ S H → Rel g ρ H a x → Rel g ρ H b y → wpR g Wx σ (Rel g) ρ H (f a b S) Q → r x y H Q
def OpB (g : G) (r : R2) (f : Va → Va → Sto → Rs Bool) : Prop :=
  ∀ (Wx : WX) (σ : L2.St) (ρ : List Addr) (S : Sto) (H : Hp) (a b : Va) (x y : V) (Q : VK), Sim g ρ S H → Rel g ρ H a x → Rel g ρ H b y → wpR g Wx σ relB ρ H (f a b S) (fun b H' => Q (.bl b) H') → r x y H Q
theorem two_in {x y : XE} {f : Va → Va → Sto → Rs Va} {r : R2} (hf : OpS g r f) : ∀ σ H Q, tE g Wx (xbin f x y) σ H Q → tOp r (tE g Wx x) (tE g Wx y) σ H Q :=
  fun σ H Q ⟨δ, S, ρ, sm, se, h⟩ => by
    refine ⟨δ, S, ρ, sm, se, wpR.imp (wpR.bind (rel := Rel g) h) fun v H1 ⟨ρ1, a, S1, e1, s1, r1, h1⟩ => ?_⟩
    refine ⟨δ, S1, ρ1, s1, se.mono e1, wpR.imp (wpR.bind (rel := Rel g) h1) fun u H2 ⟨ρ2, b, S2, e2, s2, r2, h2⟩ => ?_⟩
    exact hf Wx σ ρ2 S2 H2 a b v u Q s2 (r1.mono e2) r2 h2
theorem two_inB {x y : XE} {f : Va → Va → Sto → Rs Bool} {r : R2} (hf : OpB g r f) : ∀ σ H Q, tE g Wx (xboo (xbinB f x y)) σ H Q → tOp r (tE g Wx x) (tE g Wx y) σ H Q :=
  fun σ H Q ⟨δ, S, ρ, sm, se, h⟩ => by
    have h' : wpR g Wx σ relB ρ H (xbinB f x y δ S) fun b H' => Q (.bl b) H' := by
      unfold xboo at h
      cases q : xbinB f x y δ S with
      | ok b S' => rw [q] at h; exact fun ρ' H' b' e s r => by cases r; exact h ρ' H' (.bl b) e s (.bl b)
      | ex c fs S' => rw [q] at h; exact h
      | bad => rw [q] at h; exact h
    refine ⟨δ, S, ρ, sm, se, wpR.imp (wpR.bind (rel := Rel g) h') fun v H1 ⟨ρ1, a, S1, e1, s1, r1, h1⟩ => ?_⟩
    refine ⟨δ, S1, ρ1, s1, se.mono e1, wpR.imp (wpR.bind (rel := Rel g) h1) fun u H2 ⟨ρ2, b, S2, e2, s2, r2, h2⟩ => ?_⟩
    exact hf Wx σ ρ2 S2 H2 a b v u Q s2 (r1.mono e2) r2 h2
theorem se_bin {a b : Expr} {op : Operator} {x y : XE} {r : R2} {f : Va → Va → Sto → Rs Va} (ho : OpR X (binaryOp op) r) (hf : OpS g r f) (ha : SE X g Wx a x) (hb : SE X g Wx b y) : SE X g Wx (.BinOp a op b pos) (xbin f x y) :=
  pe_imp (pe_op ho ha hb) (two_in hf)
theorem se_cmp {a b : Expr} {op : CmpOp} {x y : XE} {r : R2} {f : Va → Va → Sto → Rs Bool} (ho : OpR X (compareOp op) r) (hf : OpB g r f) (ha : SE X g Wx a x) (hb : SE X g Wx b y) (hm : behindInMarks op b = false := by first | exact nobehind _ (by decide) (by decide) | rfl) :
    SE X g Wx (.Compare a [op] [b] pos) (xboo (xbinB f x y)) := pe_imp (pe_cmpR ho ha hb hm) (two_inB hf)
theorem sq_cmp {a b : Expr} {op : CmpOp} {x y : XE} {r : R2} {f : Va → Va → Sto → Rs Bool} (ho : OpR X (compareOp op) r) (hf : OpB g r f) (ha : SE X g Wx a x) (hb : SE X g Wx b y) (hm : behindInMarks op b = false := by first | exact nobehind _ (by decide) (by decide) | rfl) :
    SQ X g Wx (.Compare a [op] [b] pos) (xbinB f x y) := by
  refine pt_imp (pt_cmpR ho ha hb hm) fun σ H Q ⟨δ, S, ρ, sm, se, h⟩ => ?_
  refine two_inB hf σ H _ ⟨δ, S, ρ, sm, se, ?_⟩
  unfold xboo
  cases q : xbinB f x y δ S with
  | ok b S' => rw [q] at h; exact fun ρ' H' v e s r => by cases r; exact ⟨b, rfl, h ρ' H' b e s rfl⟩
  | ex c fs S' => rw [q] at h; exact h
  | bad => rw [q] at h; exact h
/-- a test of a value that is a bool -/
@[simp] def tobl (w : Va) (S : Sto) : Rs Bool := match w with
  | .bl b => .ok b S
  | _ => .bad
def xtst (x : XE) : XT := fun δ S => (x δ S).bind tobl
end
end Rz
namespace Rz
open PySem PySem.Spec PyProof.Rows L2

/-! ### reading the store -/
def getL (S : Sto) (i : Nat) : Option (List Va) := match S[i]? with
  | some (.lst ws) => some ws
  | some (.frl ws) => some ws
  | _ => none
theorem getL_at {g : G} {ρ : List Addr} {S : Sto} {H : Hp} {i : Nat} {ws : List Va} {a : Addr} (s : Sim g ρ S H) (h : getL S i = some ws) (r : ρ[i]? = some a) : ∃ vs, SqL g.K H a vs ∧ RelL g ρ H ws vs := by
  unfold getL at h
  split at h
  · rename_i w e
    cases h
    obtain ⟨vs, q, z⟩ := s.ats i _ a e r
    exact ⟨vs, .of q, z⟩
  · rename_i w e
    cases h
    rcases s.ats i _ a e r with ⟨o, vs, q, z⟩ | ⟨vs, q, z⟩
    · exact ⟨vs, .inl (.inr ⟨o, q⟩), z⟩
    · exact ⟨vs, q H, z⟩
  · cases h
/-- truth -/
@[simp] def truV (w : Va) (S : Sto) : Rs Bool := match w with
  | .non => .ok false S
  | .bl b => .ok b S
  | .int i => .ok (i != 0) S
  | .str y => bif fits y.length then .ok ((y.length : Int) != 0) S else .bad
  | .tup ws => .ok (!ws.isEmpty) S
  | .loc i => match getL S i with
    | some ws => .ok (!ws.isEmpty) S
    | none => .bad
  | _ => .bad
theorem RelL.emp {g : G} {ρ : List Addr} {H : Hp} {ws : List Va} {vs : List V} (r : RelL g ρ H ws vs) : (!ws.isEmpty) = !vs.isEmpty := by
  cases r <;> rfl
theorem truV_ok {g : G} {Wx : WX} {σ : L2.St} {ρ : List Addr} {S : Sto} {H : Hp} {w : Va} {v : V} {Q : Bool → Hp → Prop} (s : Sim g ρ S H) (r : Rel g ρ H w v) (h : wpR g Wx σ relB ρ H (truV w S) Q) : ∃ k, TruV g.K v H k ∧ Q k H := by
  cases r with
  | non => exact ⟨false, rfl, h.fin s rfl⟩
  | bl b => exact ⟨b, rfl, h.fin s rfl⟩
  | int i => exact ⟨_, rfl, h.fin s rfl⟩
  | str y =>
    have h' : wpR g Wx σ relB ρ H (bif fits y.length then Rs.ok ((y.length : Int) != 0) S else .bad) Q := h
    by_cases hz : fits y.length = true
    · rw [hz] at h'
      exact ⟨_, ⟨fits_iff.mp hz, rfl⟩, wpR.fin (a := ((y.length : Int) != 0)) h' s rfl⟩
    · rw [Bool.not_eq_true _ |>.mp hz] at h'
      exact h'.elim
  | ty n => exact h.elim
  | cl c => exact h.elim
  | tup q z => exact ⟨_, .inr (.inl ⟨_, q, z.emp⟩), h.fin s rfl⟩
  | @loc i a q =>
    unfold truV at h
    dsimp only at h
    split at h
    · rename_i ws e
      obtain ⟨vs, h1, h2⟩ := getL_at s e q
      exact ⟨_, .inl ⟨vs, h1, h2.emp⟩, h.fin s rfl⟩
    · exact h.elim

section
variable {X : Cx} {g : G} {Wx : WX} {k : Nat} {pos : Pos} {a b c : Expr} {x y z : XE} {p q : XT}
@[simp] def xtru (x : XE) : XT := fun δ S => (x δ S).bind truV
theorem sq_tru (o : XO X g Wx k) (ha : SE X g Wx a x) (he : ∀ whole, isTrue a X.env whole = (do let v ← whole; standAt a.pos; holding [v] (truthy v)) := by intro _; rfl) : SQ X g Wx a (xtru x) :=
  pt_imp (pt_truth ha he) fun σ H Q ⟨δ, S, ρ, sm, se, h⟩ => ⟨δ, S, ρ, sm, se, wpR.imp (wpR.bind (rel := Rel g) h) fun v H1 ⟨ρ1, w, S1, e1, s1, r1, h1⟩ => o.K ▸ truV_ok s1 r1 h1⟩
theorem sq_not (hp : SQ X g Wx a p) : SQ X g Wx (.UnaryOp .Not a pos) (xnot p) :=
  pt_imp (pt_not hp) fun σ H Q ⟨δ, S, ρ, sm, se, h⟩ => ⟨δ, S, ρ, sm, se, wpR.imp (wpR.bind (rel := relB) h) fun v H1 ⟨ρ1, w, S1, e1, s1, r1, h1⟩ => by
    cases r1
    exact h1.fin s1 rfl⟩
abbrev SW (X : Cx) (g : G) (Wx : WX) (e : Expr) (x : XT) : Prop := PW X e (tQ g Wx x)
theorem sw_and1 (hp : SQ X g Wx a p) : SW X g Wx (.BoolOp .And [a] pos) p := pw_and1 hp
theorem sw_or1 (hp : SQ X g Wx a p) : SW X g Wx (.BoolOp .Or [a] pos) p := pw_or1 hp
theorem sw_and {rest : List Expr} (hp : SQ X g Wx a p) (hq : SW X g Wx (.BoolOp .And (b :: rest) pos) q) : SW X g Wx (.BoolOp .And (a :: b :: rest) pos) (xand p q) :=
  pw_imp (pw_and hp hq) fun σ H Q ⟨δ, S, ρ, sm, se, h⟩ => ⟨δ, S, ρ, sm, se, wpR.imp (wpR.bind (rel := relB) h) fun v H1 ⟨ρ1, w, S1, e1, s1, r1, h1⟩ => by
    cases r1
    cases v with
    | true => exact ⟨δ, S1, ρ1, s1, se.mono e1, h1⟩
    | false => exact h1.fin s1 rfl⟩
theorem sw_or {rest : List Expr} (hp : SQ X g Wx a p) (hq : SW X g Wx (.BoolOp .Or (b :: rest) pos) q) : SW X g Wx (.BoolOp .Or (a :: b :: rest) pos) (xor p q) :=
  pw_imp (pw_or hp hq) fun σ H Q ⟨δ, S, ρ, sm, se, h⟩ => ⟨δ, S, ρ, sm, se, wpR.imp (wpR.bind (rel := relB) h) fun v H1 ⟨ρ1, w, S1, e1, s1, r1, h1⟩ => by
    cases r1
    cases v with
    | true => exact h1.fin s1 rfl
    | false => exact ⟨δ, S1, ρ1, s1, se.mono e1, h1⟩⟩
theorem sq_boo (h : SW X g Wx a p) : SQ X g Wx a p := h.pt
/-- and, or as values: the operands are bools -/
@[simp] def xandV (x y : XE) : XE := fun δ S => (x δ S).bind fun w S1 => match w with
  | .bl true => y δ S1
  | .bl false => .ok (.bl false) S1
  | _ => .bad
@[simp] def xorV (x y : XE) : XE := fun δ S => (x δ S).bind fun w S1 => match w with
  | .bl true => .ok (.bl true) S1
  | .bl false => y δ S1
  | _ => .bad
@[simp] def xnotV (x : XE) : XE := fun δ S => (x δ S).bind fun w S1 => match w with
  | .bl b => .ok (.bl (!b)) S1
  | _ => .bad
theorem se_one {op : BoolOp} (ha : SE X g Wx a x) : SE X g Wx (.BoolOp op [a] pos) x := pe_one ha
theorem se_and {rest : List Expr} (ha : SE X g Wx a x) (hb : SE X g Wx (.BoolOp .And (b :: rest) pos) y) : SE X g Wx (.BoolOp .And (a :: b :: rest) pos) (xandV x y) :=
  pe_imp (pe_and ha hb) fun σ H Q ⟨δ, S, ρ, sm, se, h⟩ => ⟨δ, S, ρ, sm, se, wpR.imp (wpR.bind (rel := Rel g) h) fun v H1 ⟨ρ1, w, S1, e1, s1, r1, h1⟩ => by
    cases r1 with
    | bl t =>
      refine ⟨t, rfl, ?_⟩
      cases t with
      | true => exact ⟨δ, S1, ρ1, s1, se.mono e1, h1⟩
      | false => exact h1.fin s1 (.bl false)
    | _ => exact h1.elim⟩
theorem se_or {rest : List Expr} (ha : SE X g Wx a x) (hb : SE X g Wx (.BoolOp .Or (b :: rest) pos) y) : SE X g Wx (.BoolOp .Or (a :: b :: rest) pos) (xorV x y) :=
  pe_imp (pe_or ha hb) fun σ H Q ⟨δ, S, ρ, sm, se, h⟩ => ⟨δ, S, ρ, sm, se, wpR.imp (wpR.bind (rel := Rel g) h) fun v H1 ⟨ρ1, w, S1, e1, s1, r1, h1⟩ => by
    cases r1 with
    | bl t =>
      refine ⟨t, rfl, ?_⟩
      cases t with
      | true => exact h1.fin s1 (.bl true)
      | false => exact ⟨δ, S1, ρ1, s1, se.mono e1, h1⟩
    | _ => exact h1.elim⟩
theorem se_not (ha : SE X g Wx a x) : SE X g Wx (.UnaryOp .Not a pos) (xnotV x) :=
  pe_imp (pe_not ha) fun σ H Q ⟨δ, S, ρ, sm, se, h⟩ => ⟨δ, S, ρ, sm, se, wpR.imp (wpR.bind (rel := Rel g) h) fun v H1 ⟨ρ1, w, S1, e1, s1, r1, h1⟩ => by
    cases r1 with
    | bl t => exact ⟨t, rfl, h1.fin s1 (.bl _)⟩
    | _ => exact h1.elim⟩
theorem se_ite (hp : SQ X g Wx c p) (ha : SE X g Wx a x) (hb : SE X g Wx b y) : SE X g Wx (.IfExp c a b pos) (xite p x y) :=
  pe_imp (pe_ifExp hp ha hb) fun σ H Q ⟨δ, S, ρ, sm, se, h⟩ => ⟨δ, S, ρ, sm, se, wpR.imp (wpR.bind (rel := relB) h) fun v H1 ⟨ρ1, w, S1, e1, s1, r1, h1⟩ => by
    cases r1
    cases v with
    | true => exact ⟨δ, S1, ρ1, s1, se.mono e1, h1⟩
    | false => exact ⟨δ, S1, ρ1, s1, se.mono e1, h1⟩⟩
/-- a op b op' c -/
@[simp] def xchain (f f' : Va → Va → Sto → Rs Bool) (x y z : XE) : XT := fun δ S => (x δ S).bind fun u S1 => (y δ S1).bind fun v S2 => (f u v S2).bind fun t S3 => if t then (z δ S3).bind fun w S4 => f' v w S4 else .ok false S3
theorem wp_boo {g : G} {Wx : WX} {σ : L2.St} {ρ : List Addr} {H : Hp} {r : Rs Bool} {Q : VK} (h : wpR g Wx σ (Rel g) ρ H (r.bind fun b S => .ok (.bl b) S) Q) : wpR g Wx σ relB ρ H r fun b H' => Q (.bl b) H' := by
  cases r with
  | ok b S' => exact fun ρ' H' b' e s r => by cases r; exact h ρ' H' (.bl b) e s (.bl b)
  | ex c fs S' => exact h
  | bad => exact h
theorem chain_in {op op' : CmpOp} {r r' : R2} {f f' : Va → Va → Sto → Rs Bool} (hf : OpB g r f) (hf' : OpB g r' f') (σ : L2.St) (H : Hp) (Q : VK) (h0 : ∃ δ S ρ, Sim g ρ S H ∧ SimE g ρ H δ σ ∧ wpR g Wx σ relB ρ H (xchain f f' x y z δ S) fun b H' => Q (.bl b) H') : tChain r r' (tE g Wx x) (tE g Wx y) (tE g Wx z) σ H Q := by
  obtain ⟨δ, S, ρ, sm, se, h⟩ := h0
  refine ⟨δ, S, ρ, sm, se, wpR.imp (wpR.bind (rel := Rel g) h) fun v H1 ⟨ρ1, a, S1, e1, s1, r1, h1⟩ => ?_⟩
  refine ⟨δ, S1, ρ1, s1, se.mono e1, wpR.imp (wpR.bind (rel := Rel g) h1) fun u H2 ⟨ρ2, b, S2, e2, s2, r2, h2⟩ => ?_⟩
  refine hf Wx σ ρ2 S2 H2 a b v u _ s2 (r1.mono e2) r2 (wpR.imp (wpR.bind (rel := relB) h2) fun t H3 ⟨ρ3, t', S3, e3, s3, r3, h3⟩ => ?_)
  cases r3
  refine ⟨t, rfl, ?_⟩
  cases t with
  | false => exact h3.fin s3 rfl
  | true =>
    refine ⟨δ, S3, ρ3, s3, se.mono ((e1.trans e2).trans e3), wpR.imp (wpR.bind (rel := Rel g) h3) fun w H4 ⟨ρ4, c, S4, e4, s4, r4, h4⟩ => ?_⟩
    exact hf' Wx σ ρ4 S4 H4 b c u w Q s4 (r2.mono (e3.trans e4)) r4 h4
theorem se_chain {op op' : CmpOp} {r r' : R2} {f f' : Va → Va → Sto → Rs Bool} (ho : OpR X (compareOp op) r) (ho' : OpR X (compareOp op') r') (hf : OpB g r f) (hf' : OpB g r' f') (ha : SE X g Wx a x) (hb : SE X g Wx b y) (hc : SE X g Wx c z)
    (hm : lastMarks [op, op'] [b, c] = false := by with_unfolding_all rfl) : SE X g Wx (.Compare a [op, op'] [b, c] pos) (xboo (xchain f f' x y z)) :=
  pe_imp (pe_chain ho ho' ha hb hc hm) fun σ H Q ⟨δ, S, ρ, sm, se, h⟩ => chain_in (op := op) (op' := op') hf hf' σ H Q ⟨δ, S, ρ, sm, se, wp_boo h⟩
theorem sq_chain {op op' : CmpOp} {r r' : R2} {f f' : Va → Va → Sto → Rs Bool} (ho : OpR X (compareOp op) r) (ho' : OpR X (compareOp op') r') (hf : OpB g r f) (hf' : OpB g r' f') (ha : SE X g Wx a x) (hb : SE X g Wx b y) (hc : SE X g Wx c z)
    (hm : lastMarks [op, op'] [b, c] = false := by with_unfolding_all rfl) : SQ X g Wx (.Compare a [op, op'] [b, c] pos) (xchain f f' x y z) :=
  pt_imp (pt_chain ho ho' ha hb hc hm) fun σ H Q ⟨δ, S, ρ, sm, se, h⟩ => chain_in (op := op) (op' := op') hf hf' σ H _ ⟨δ, S, ρ, sm, se, wpR.imp h fun b H' q => ⟨b, rfl, q⟩⟩

/-! ### arguments, displays -/
variable {es : List Expr} {r : XA}
theorem sa_nil : SA X g Wx [] anil := pa_imp pa_nil fun σ H Q ⟨δ, S, ρ, sm, se, h⟩ => h.fin sm .nil
theorem sa_cons (ha : SE X g Wx a x) (hr : SA X g Wx es r) (hs : starEach (a :: es) X.env = (false, eval a X.env) :: starEach es X.env := by rfl) : SA X g Wx (a :: es) (acons x r) :=
  pa_imp (pa_cons ha hr hs) fun σ H Q ⟨δ, S, ρ, sm, se, h⟩ => ⟨δ, S, ρ, sm, se, wpR.imp (wpR.bind (rel := Rel g) h) fun v H1 ⟨ρ1, w, S1, e1, s1, r1, h1⟩ =>
    ⟨δ, S1, ρ1, s1, se.mono e1, wpR.imp (wpR.bind (rel := RelL g) h1) fun vs H2 ⟨ρ2, ws, S2, e2, s2, r2, h2⟩ => h2.fin s2 (.cons (r1.mono e2) r2)⟩⟩
@[simp] def xtup (r : XA) : XE := fun δ S => (r δ S).bind ltup
@[simp] def xlst (r : XA) : XE := fun δ S => (r δ S).bind llst
theorem new_tup {σ : L2.St} {ρ : List Addr} {S : Sto} {H : Hp} {ws : List Va} {vs : List V} {Q : VK} (s : Sim g ρ S H) (r : RelL g ρ H ws vs) (h : wpR g Wx σ (Rel g) ρ H (ltup ws S) Q) : vs.length ≤ sizeLine ∧ ∀ p, H p = none → Q (.ref p) (upd H p (.tup vs)) := by
  unfold ltup at h
  by_cases hz : fits ws.length = true
  · rw [hz] at h
    refine ⟨by rw [← r.length]; exact fits_iff.mp hz, fun p hp => ?_⟩
    exact wpR.fin_at (a := Va.tup ws) h (ext_upd hp) (s.aside hp) (.tup (.of upd_same) (r.mono (ext_upd hp)))
  · rw [Bool.not_eq_true _ |>.mp hz] at h
    exact h.elim
theorem new_lst {σ : L2.St} {ρ : List Addr} {S : Sto} {H : Hp} {ws : List Va} {vs : List V} {Q : VK} (s : Sim g ρ S H) (r : RelL g ρ H ws vs) (h : wpR g Wx σ (Rel g) ρ H (llst ws S) Q) : vs.length ≤ sizeLine ∧ ∀ p, H p = none → Q (.ref p) (upd H p (.lst vs)) := by
  unfold llst at h
  by_cases hz : fits ws.length = true
  · rw [hz] at h
    refine ⟨by rw [← r.length]; exact fits_iff.mp hz, fun p hp => ?_⟩
    obtain ⟨s1, e1⟩ := s.laid (o := .lst ws) (u := .lst vs) hp (fun ρ' H' e q => ⟨vs, q, r.mono e⟩) rfl
    exact wpR.fin_at (a := Va.loc S.length) h e1 s1 (.loc (by rw [s.len]; simp))
  · rw [Bool.not_eq_true _ |>.mp hz] at h
    exact h.elim
theorem se_tup {n : Nat} (hr : SA X g Wx es r) {x1} : SE X g Wx (.Tuple es x1 pos) (xtup r) :=
  pe_imp (pe_tup hr) fun σ H Q ⟨δ, S, ρ, sm, se, h⟩ => ⟨δ, S, ρ, sm, se, wpR.imp (wpR.bind (rel := RelL g) h) fun vs H1 ⟨ρ1, ws, S1, e1, s1, r1, h1⟩ => new_tup s1 r1 h1⟩
theorem se_lst (hr : SA X g Wx es r) : SE X g Wx (.List es pos) (xlst r) :=
  pe_imp (pe_lst hr) fun σ H Q ⟨δ, S, ρ, sm, se, h⟩ => ⟨δ, S, ρ, sm, se, wpR.imp (wpR.bind (rel := RelL g) h) fun vs H1 ⟨ρ1, ws, S1, e1, s1, r1, h1⟩ => new_lst s1 r1 h1⟩

/-! ### statements -/
variable {s t : XS} {st : Stmt} {rest : List Stmt}
@[simp] def snext : XS := fun δ S => .nx δ S
@[simp] def sseq (s t : XS) : XS := fun δ S => (s δ S).next t
theorem sb_nil : SB X g Wx [] snext := pb_imp pss_nil fun D σ H ⟨δ, S, ρ, sm, se, h⟩ => h ρ H σ .refl sm se
theorem sb_cons (h1 : SS X g Wx st s) (h2 : SB X g Wx rest t) : SB X g Wx (st :: rest) (sseq s t) :=
  pb_imp (pss_cons h1 h2) fun D σ H ⟨δ, S, ρ, sm, se, h⟩ => by
    refine ⟨δ, S, ρ, sm, se, ?_⟩
    unfold sseq at h
    cases q : s δ S with
    | nx δ' S' =>
      rw [q] at h
      exact fun ρ' H' σ' e1 s1 se1 => ⟨δ', S', ρ', s1, se1, wpS.ext e1 h⟩
    | bk δ' S' => rw [q] at h; exact h
    | ct δ' S' => rw [q] at h; exact h
    | rt w S' => rw [q] at h; exact h
    | ex c fs δ' S' => rw [q] at h; exact h
    | bad => rw [q] at h; exact h
theorem sb_one (h1 : SS X g Wx st s) : SB X g Wx [st] s := pss_one h1
@[simp] def sset (i : Nat) (x : XE) : XS := fun δ S => (x δ S).out δ fun w S1 => .nx (δ.set i (some w)) S1
theorem ss_set (o : XO X g Wx k) (i : Nat) {n : Str} {e : Expr} {pos' : Pos} (he : SE X g Wx e x) (hi : X.N[i]? = some n := by rfl) (hx : Loc X.env.scope n := by first | exact Or.inl rfl | exact Or.inr rfl)
    (hs : swapsWith e (some (.Name n pos')) pos.line X.env = pure false := by rfl) (hf : X.fn n = true ∨ X.env.scope.names.lookup n = some .local := by first | exact .inl rfl | exact .inr rfl) :
    SS X g Wx (.Assign [.Name n pos'] e pos) (sset i x) :=
  ps_imp (ps_asg he (pg_name (i := i) o.nd hi hx hf) (by first | exact hs | rfl)) fun D σ H ⟨δ, S, ρ, sm, se, h⟩ => ⟨δ, S, ρ, sm, se, wpR.imp (wpR.out (rel := Rel g) se h) fun v H1 ⟨ρ1, w, S1, e1, s1, r1, h1⟩ =>
    h1 ρ1 H1 _ .refl s1 ((se.mono e1).put r1)⟩
@[simp] def sexp (x : XE) : XS := fun δ S => (x δ S).out δ fun _ S1 => .nx δ S1
theorem ss_exp {e : Expr} (he : SE X g Wx e x) (hs : swapsWith e none pos.line X.env = pure false := by rfl) : SS X g Wx (.Expr e pos) (sexp x) :=
  ps_imp (ps_expr he hs) fun D σ H ⟨δ, S, ρ, sm, se, h⟩ => ⟨δ, S, ρ, sm, se, wpR.imp (wpR.out (rel := Rel g) se h) fun v H1 ⟨ρ1, w, S1, e1, s1, r1, h1⟩ => h1 ρ1 H1 _ .refl s1 (se.mono e1)⟩
@[simp] def sret (x : XE) : XS := fun δ S => (x δ S).out δ fun w S1 => .rt w S1
theorem ss_ret {e : Expr} (he : SE X g Wx e x) : SS X g Wx (.Return (some e) pos) (sret x) :=
  ps_imp (ps_ret he) fun D σ H ⟨δ, S, ρ, sm, se, h⟩ => ⟨δ, S, ρ, sm, se, wpR.imp (wpR.out (rel := Rel g) se h) fun v H1 ⟨ρ1, w, S1, e1, s1, r1, h1⟩ => h1 ρ1 H1 _ .refl s1 r1⟩
@[simp] def sretN : XS := fun _ S => .rt .non S
theorem ss_retN : SS X g Wx (.Return none pos) sretN := ps_imp ps_retN fun D σ H ⟨δ, S, ρ, sm, se, h⟩ => h ρ H _ .refl sm .non
theorem ss_pass : SS X g Wx (.Pass pos) snext := ps_imp ps_pass fun D σ H ⟨δ, S, ρ, sm, se, h⟩ => h ρ H σ .refl sm se
@[simp] def sbrk : XS := fun δ S => .bk δ S
@[simp] def scnt : XS := fun δ S => .ct δ S
theorem ss_brk : SS X g Wx (.Break pos) sbrk := ps_imp ps_break fun D σ H ⟨δ, S, ρ, sm, se, h⟩ => h ρ H σ .refl sm se
theorem ss_cnt : SS X g Wx (.Continue pos) scnt := ps_imp ps_continue fun D σ H ⟨δ, S, ρ, sm, se, h⟩ => h ρ H σ .refl sm se
@[simp] def sif (p : XT) (s t : XS) : XS := fun δ S => (p δ S).out δ fun b S1 => if b then s δ S1 else t δ S1
theorem ss_if {A B : List Stmt} (hp : SQ X g Wx c p) (ha : SB X g Wx A s) (hb : SB X g Wx B t) : SS X g Wx (.If c A B pos) (sif p s t) :=
  ps_imp (ps_if hp ha hb) fun D σ H ⟨δ, S, ρ, sm, se, h⟩ => ⟨δ, S, ρ, sm, se, wpR.imp (wpR.out (rel := relB) se h) fun v H1 ⟨ρ1, w, S1, e1, s1, r1, h1⟩ => by
    cases r1
    cases v with
    | true => exact ⟨δ, S1, ρ1, s1, se.mono e1, h1⟩
    | false => exact ⟨δ, S1, ρ1, s1, se.mono e1, h1⟩⟩
@[simp] def sraise (c : Nat) : XS := fun δ S => .ex c [] δ S
theorem ss_raise (o : XO X g Wx k) {c : Nat} {n m : Str} {j : Nat} {p2 pos' pos2 : Pos} {bmB : List Value} {B newId initId : String} (F : PySem.ExcBaseFacts B newId initId bmB) (q : PySem.W.excIn X.K (g.cls c) bmB newId = true) (gC : X.mg n = some (.ref (g.cls c)))
    (kC : PySem.W.keepIn X.K (.ref (g.cls c)) = true) (rs : Raises X (.ref (g.cls c))) (hg : Gl X n := by rfl) (hdb : (n == ("__debug__" : Str)) = false := by decide) : SS X g Wx (.Raise (some (.Call (.Name n p2) [.Constant (.str m) j pos2] [] pos')) none pos) (sraise c) :=
  ps_imp (ps_raise o.calm o.tk (pmk_own F q gC kC rs hg hdb)) fun D σ H ⟨δ, S, ρ, sm, se, h⟩ => h ρ H σ none .refl sm se (.inl ⟨rfl, rfl⟩)
end
end Rz
namespace Rz
open PySem PySem.Spec PyProof.Rows L2

/-! ### defs: as the hand layer's FnOk, where no guard stands around -/
structure FnG (P : Program) (w : World) (K : PySem.W.Frag) (mg : Str → Option Value) (base : Heap) (k : Nat) (f : Addr) (fd : FuncData) (ps : List Str) (sp : Sp) : Prop where
  len : ∀ vs H Q E, sp vs H Q E → vs.length = ps.length
  run : ∀ (A : Around) (outer : List PySem.Env) (s : Shared) (H : Hp) (args : Args) (us : List Value) (vs : List V) (Q : VK) (E : XK), Room k A → A.guards = some [] →
    Env0 P w K mg base A outer s H → BindsTo s fd args (ps.zip us) → Vals vs us → sp vs H Q E →
    codeAny (model P w) A (.call (.ref f) args) (CR (L2.CX P w) outer P w H s Q E) s
theorem FnG.mono {P : Program} {w : World} {K : PySem.W.Frag} {mg : Str → Option Value} {base : Heap} {j k : Nat} {f : Addr} {fd : FuncData} {ps : List Str} {sp : Sp} (F : FnG P w K mg base j f fd ps sp) (h : j ≤ k) : FnG P w K mg base k f fd ps sp :=
  ⟨F.len, fun A outer s H args us vs Q E hr => F.run A outer s H args us vs Q E (hr.mono h)⟩
/-- the promise of a def whose meaning is m, of n parameters -/
def spM (g : G) (n : Nat) (m : List Va → Sto → Rs Va) : Sp := fun vs H Q E => vs.length = n ∧ ∃ ws S ρ, Sim g ρ S H ∧ RelL g ρ H ws vs ∧ wpR g (fun c d _ H' => E c d H') [] (Rel g) ρ H (m ws S) Q
/-- a body's meaning as a def's -/
def Out.fin (o : Out) : Rs Va := match o with
  | .rt w S' => .ok w S'
  | .nx _ S' => .ok .non S'
  | .ex c fs _ S' => .ex c fs S'
  | _ => .bad
@[simp] def mkFn (n : Nat) (s : XS) (ws : List Va) (S : Sto) : Rs Va := (s (ws.map some ++ List.replicate (n - ws.length) none) S).fin
theorem simE_start {g : G} {ρ : List Addr} {H : Hp} {ws : List Va} {vs : List V} {N : List Str} (r : RelL g ρ H ws vs) : SimE g ρ H (ws.map some ++ List.replicate (N.length - ws.length) none) (L2.start N vs) := by
  have hl := r.length
  refine ⟨by unfold L2.start; simp [hl], fun i w q => ?_⟩
  have hlt : i < ws.length := by
    rcases Nat.lt_or_ge i ws.length with h | h
    · exact h
    · rw [List.getElem?_append_right (by simpa using h)] at q
      have z := (List.getElem?_eq_some_iff.mp q).2
      simp at z
  rw [List.getElem?_append_left (by simpa using hlt), List.getElem?_map] at q
  have q' : ws[i]? = some w := by
    cases e : ws[i]? with
    | none => rw [e] at q; cases q
    | some w' => rw [e] at q; simpa using q
  obtain ⟨v, h1, h2⟩ := r.get q'
  refine ⟨v, ?_, h2⟩
  unfold L2.start
  rw [List.getElem?_append_left (by simp; omega), List.getElem?_map, h1]
  rfl
abbrev Eo (E : XK) : WX := fun c d _ H' => E c d H'
/-- THE RULE for a def -/
theorem fng_of {g : G} {P : Program} {w : World} {K : PySem.W.Frag} {mg : Str → Option Value} {base : Heap} {x qual : Str} {st : Stmt} {f : Addr} {fd : FuncData} {N ps : List Str} {k n : Nat} {sem : XS} (F : Fun K x qual st f fd) (S : FnScope N ps (defScope st)) (hK : g.K = K)
    (hn : ps.length = n)
    (hbody : ∀ (cdv : Value) (A : Around) (outer : List PySem.Env) (s : Shared) (H : Hp) (E : XK), XO (cxOf (L2.CX P w) P w K mg base N qual (defScope st) f cdv A outer s H E) g (Eo E) k →
      SB (cxOf (L2.CX P w) P w K mg base N qual (defScope st) f cdv A outer s H E) g (Eo E) (defBody st) sem) :
    FnG P w K mg base (k + 1) f fd ps (spM g n (mkFn N.length sem)) := by
  obtain ⟨oc, od, kV, doc, pm, an, cdv, ct, osl, rfl, lk, hcd⟩ := F.ex
  refine ⟨fun vs H Q E h => h.1.trans hn.symm, fun A outer s H args us vs Q E hr hgd e0 hb r hsp => ?_⟩
  obtain ⟨hl, ws, T, ρ, sm, rl, hw⟩ := hsp
  have hl' : vs.length = ps.length := hl.trans hn.symm
  have at0 : ∀ b o, base.get? b = some o → s.heap.get? b = some o := fun b o e => (e0.bs b o e).1
  have KX : K.In s.heap := e0.mod.kin.keeps at0
  have hkind : ∀ y ∈ ps.zip us, (defScope st).names.lookup y.1 = some .local ∨ ((defScope st).names.lookup y.1 = some .cell ∧ ((cellsFrom (s.heap.objs.size + 1) (defScope st).names []).lookup y.1).isSome = true) := by
    intro y hy
    obtain ⟨nm, v⟩ := y
    rcases S.par nm (List.of_mem_zip hy).1 with q | q
    · left; exact q
    · right; exact ⟨q, PySem.W.cellsFrom_some _ _ _ (.inl q)⟩
  refine codeAny_call_function hr.depth (KX _ _ lk) rfl S.co S.gen rfl (PySem.W.codeRec_of KX hcd) (hb _ _ _ _ (wpAny_newFunctionEnv_cells S.kind hkind fun env he s1 x => ?_))
  subst he
  refine ⟨(e0.mod.nolimit.keeps at0).keeps x.toInCall.keep, codeAny_func ?_⟩
  have xo : XO (cxOf (L2.CX P w) P w K mg base N qual (defScope st) f cdv A outer s H E) g (Eo E) k := ⟨hK, S.nd, rfl, hr.deeper _, hgd, takes_of rfl rfl rfl rfl, passes_of rfl⟩
  have ht := hbody cdv A outer s H E xo
  have I : Inv (cxOf (L2.CX P w) P w K mg base N qual (defScope st) f cdv A outer s H E) [] (L2.start N vs) H s1 := inv_start S hr.hd e0 hl' r x
  have fin : ∀ {σ' : L2.St} {H' : Hp} {s' : Shared} {v : V} {u : Value}, Inv (cxOf (L2.CX P w) P w K mg base N qual (defScope st) f cdv A outer s H E) [] σ' H' s' → RelV v u → Q v H' → CE outer P w H s Q u s' :=
    fun {σ' H' s' v u} J rv q => ⟨v, H', J.os, J.bare, J.base, J.hok, rv, q⟩
  have hq : tS g (Eo E) sem { nx := fun _ H' => Q .non H', rt := Q } (L2.start N vs) H := by
    refine ⟨_, T, ρ, sm, simE_start rl, ?_⟩
    unfold mkFn at hw
    unfold Out.fin at hw
    generalize sem (ws.map some ++ List.replicate (N.length - ws.length) none) T = z at hw ⊢
    cases z with
    | nx δ S' => exact fun ρ' H' σ' e a b => hw ρ' H' .non e a .non
    | rt w S' => exact hw
    | ex c fs δ S' => exact fun ρ' H' σ' d e a b c => hw ρ' H' d e a c
    | bk δ S' => exact hw.elim
    | ct δ S' => exact hw.elim
    | bad => exact hw.elim
  refine wpAny_mono (ht.run [] s1 (L2.start N vs) H _ I hq) (fun fl s' hs => ?_) fun e s' hs => hs
  cases fl with
  | ret u => obtain ⟨v, σ', H', J, rv, q⟩ := hs; exact fin J rv q
  | next => obtain ⟨σ', H', J, q⟩ := hs; exact fin (v := V.non) (u := Value.none) J rfl q
  | brk => obtain ⟨_, _, _, q⟩ := hs; exact q.elim
  | cont => obtain ⟨_, _, _, q⟩ := hs; exact q.elim

section
variable {X : Cx} {g : G} {Wx : WX} {k : Nat} {pos : Pos} {a b c : Expr} {es : List Expr} {x y z : XE} {r : XA}
theorem run_g (o : XO X g Wx k) {f : Addr} {fd : FuncData} {ps : List Str} {m : List Va → Sto → Rs Va} {n : Nat} {pins : List (Addr × Obj)} {σ : L2.St} {ρ : List Addr} {S : Sto} {H : Hp} {s : Shared} {Q : VK} {us : List Value} {vs : List V} {ws : List Va}
    (F : FnG X.prog X.w X.K X.mg X.base k f fd ps (spM g n m)) (hb : Binds X.K fd ps []) (hn : ws.length = n) (sm : Sim g ρ S H) (rl : RelL g ρ H ws vs) (I : Inv X pins σ H s) (rv : Vals vs us) (h : wpR g Wx σ (Rel g) ρ H (m ws S) Q) :
    wpAny (model X.prog X.w) X.A (PySem.call (.ref f) us) (EP X pins σ Q) X.xe s := by
  have h' : spM g n m vs H Q (WE Wx σ) := by
    refine ⟨by rw [← rl.length]; exact hn, ws, S, ρ, sm, rl, ?_⟩
    cases q : m ws S with
    | ok w S' => rw [q] at h; exact h
    | ex c fs S' => rw [q] at h; exact h
    | bad => rw [q] at h; exact h
  have hl : us.length = ps.length := by
    rw [← rv.length]
    exact F.len _ _ _ _ h'
  have bd := hb s us I.kIn (by simpa using hl)
  rw [List.append_nil] at bd
  refine wpAny_call (codeAny_mono (F.run X.A X.stack s H ⟨us, []⟩ us vs Q _ o.room o.grd I.env0 bd rv h') fun res s' hq => ?_)
  cases res with
  | error e => exact passAt o.tk σ pins H s e s' I hq
  | ok fl =>
    cases fl with
    | ret u => exact I.after hq
    | _ => exact False.elim hq
/-- f(e, ..) -/
@[simp] def ycall (n : Nat) (m : List Va → Sto → Rs Va) (r : XA) : XE := fun δ S => (r δ S).bind fun ws S1 => if ws.length = n then m ws S1 else .bad
theorem se_call (o : XO X g Wx k) {j : Nat} {f : Addr} {fd : FuncData} {ps : List Str} {nm : Str} {p : Pos} {m : List Va → Sto → Rs Va} {n : Nat} (F : FnG X.prog X.w X.K X.mg X.base j f fd ps (spM g n m)) (hj : j ≤ k) (hm : X.mg nm = some (.ref f)) (hk : PySem.W.keepIn X.K (.ref f) = true)
    (hb : Binds X.K fd ps []) (ha : SA X g Wx (a :: es) r) (hg : Gl X nm := by rfl) (hdb : (nm == ("__debug__" : Str)) = false := by decide) (he : starEach (a :: es) X.env = (false, eval a X.env) :: starEach es X.env := by rfl)
    (hpl : (backTo pos (starEach es X.env)).any (·.1) = false := by rfl) : SE X g Wx (.Call (.Name nm p) (a :: es) [] pos) (ycall n m r) := by
  refine ⟨fun pins s σ H Q I ⟨δ, S, ρ, sm, se, h⟩ => ?_⟩
  refine wpAny_Call_Name_kw (ld_glob I hg hm (PySem.W.callWith_K (h₀ := X.base) I.ok.mod.kin hk (thn (ha.run pos pins s σ H _ I ⟨δ, S, ρ, sm, se, wpR.bind (rel := RelL g) h⟩) fun us s1 hh => ?_) he hpl) hdb)
  obtain ⟨vs, H1, I1, rv, ρ1, ws, S1, e1, s1', r1, h1⟩ := hh
  refine ⟨I1.kIn, ?_⟩
  by_cases hn : ws.length = n
  · rw [if_pos hn] at h1
    exact run_g o (F.mono hj) hb hn s1' r1 I1 rv h1
  · rw [if_neg hn] at h1
    exact h1.elim
theorem se_call0 (o : XO X g Wx k) {j : Nat} {f : Addr} {fd : FuncData} {ps : List Str} {nm : Str} {p : Pos} {m : List Va → Sto → Rs Va} {n : Nat} (F : FnG X.prog X.w X.K X.mg X.base j f fd ps (spM g n m)) (hj : j ≤ k) (hm : X.mg nm = some (.ref f)) (hk : PySem.W.keepIn X.K (.ref f) = true)
    (hb : Binds X.K fd ps []) (hg : Gl X nm := by rfl) (hdb : (nm == ("__debug__" : Str)) = false := by decide) : SE X g Wx (.Call (.Name nm p) [] [] pos) (ycall n m anil) := by
  refine ⟨fun pins s σ H Q I ⟨δ, S, ρ, sm, se, h⟩ => ?_⟩
  refine wpAny_Call_Name_kw (ld_glob I hg hm ?_ hdb)
  have h1 : wpR g Wx σ (Rel g) ρ H (if ([] : List Va).length = n then m [] S else .bad) Q := h
  by_cases hn : ([] : List Va).length = n
  · rw [if_pos hn] at h1
    exact PySem.W.callWith_K0 I.kIn hk (run_g (us := []) o (F.mono hj) hb hn sm .nil I .nil h1)
  · rw [if_neg hn] at h1
    exact h1.elim

/-! ### targets -/
/-- a target's store, in the environment -/
abbrev XP := Va → Env → Option Env
/-- a target's reading: sl the slots that it may change -/
def tP (g : G) (p : XP) (sl : List Nat) : TG := fun v σ H Q => ∃ δ w ρ δ', Rel g ρ H w v ∧ SimE g ρ H δ σ ∧ p w δ = some δ' ∧ ∀ σ', SimE g ρ H δ' σ' → σ'.length = σ.length → (∀ j, j ∉ sl → σ'[j]? = σ[j]?) → Q σ' H
theorem pg_imp {tg : Expr} {t t' : TG} (h : PG X tg t) (k : ∀ v σ H Q, t' v σ H Q → t v σ H Q) : PG X tg t' := ⟨fun pins s σ H x v Q I r q => h.run pins s σ H x v Q I r (k _ _ _ _ q)⟩
theorem pgs_imp {tg : List Expr} {t t' : TGs} (h : PGs X tg t) (k : ∀ v σ H Q, t' v σ H Q → t v σ H Q) : PGs X tg t' := ⟨fun pins s σ H x v Q I r q => h.run pins s σ H x v Q I r (k _ _ _ _ q)⟩
abbrev SG (X : Cx) (g : G) (tg : Expr) (p : XP) (sl : List Nat) : Prop := PG X tg (tP g p sl)
@[simp] def pname (i : Nat) : XP := fun w δ => some (δ.set i (some w))
theorem sg_name (o : XO X g Wx k) (i : Nat) {n : Str} {p : Pos} (hi : X.N[i]? = some n := by rfl) (hx : Loc X.env.scope n := by first | exact Or.inl rfl | exact Or.inr rfl) (hf : X.fn n = true ∨ X.env.scope.names.lookup n = some .local := by first | exact .inl rfl | exact .inr rfl) :
    SG X g (.Name n p) (pname i) [i] := pg_imp (pg_name (i := i) o.nd hi hx hf) fun v σ H Q ⟨δ, w, ρ, δ', r, se, e, q⟩ => by
    cases e
    exact q _ (se.put r) (by simp) fun j hj => List.getElem?_set_ne (fun z => hj (by rw [z]; exact List.mem_singleton.mpr rfl))
abbrev XPs := List Va → Env → Option Env
def tPs (g : G) (p : XPs) (sl : List Nat) : TGs := fun vs σ H Q => ∃ δ ws ρ δ', RelL g ρ H ws vs ∧ SimE g ρ H δ σ ∧ p ws δ = some δ' ∧ ∀ σ', SimE g ρ H δ' σ' → σ'.length = σ.length → (∀ j, j ∉ sl → σ'[j]? = σ[j]?) → Q σ' H
abbrev SGs (X : Cx) (g : G) (ts : List Expr) (p : XPs) (sl : List Nat) : Prop := PGs X ts (tPs g p sl)
@[simp] def pnil : XPs := fun ws δ => match ws with
  | [] => some δ
  | _ => none
@[simp] def pcons (p : XP) (q : XPs) : XPs := fun ws δ => match ws with
  | w :: ws => (p w δ).bind (q ws)
  | [] => none
theorem sgs_nil : SGs X g [] pnil [] := pgs_imp pgs_nil fun vs σ H Q ⟨δ, ws, ρ, δ', r, se, e, q⟩ => by
  cases r with
  | nil => cases e; exact ⟨rfl, q _ se rfl fun _ _ => rfl⟩
  | cons a b => cases e
theorem sgs_cons {ts : List Expr} {p : XP} {q : XPs} {s1 s2 : List Nat} (hp : SG X g a p s1) (hq : SGs X g ts q s2) (hs : ∀ (t : TG) (u : TGs), PG X a t → PGs X ts u → PGs X (a :: ts) (gCons t u) := by intro t u h1 h2; exact pgs_cons h1 h2) : SGs X g (a :: ts) (pcons p q) (s1 ++ s2) :=
  pgs_imp (hs _ _ hp hq) fun vs σ H Q ⟨δ, ws, ρ, δ', r, se, e, k⟩ => by
    cases r with
    | nil => cases e
    | @cons w ws v vs r1 r2 =>
      have e' : (p w δ).bind (q ws) = some δ' := e
      cases e1 : p w δ with
      | none => rw [e1] at e'; cases e'
      | some δ1 =>
        rw [e1] at e'
        exact ⟨v, vs, rfl, δ, w, ρ, δ1, r1, se, e1, fun σ1 se1 l1 k1 => ⟨δ1, ws, ρ, δ', r2, se1, e', fun σ2 se2 l2 k2 => k σ2 se2 (l2.trans l1) fun j hj => (k2 j fun z => hj (List.mem_append_right _ z)).trans (k1 j fun z => hj (List.mem_append_left _ z))⟩⟩
@[simp] def ptup (n : Nat) (q : XPs) : XP := fun w δ => match w with
  | .tup ws => if ws.length = n then q ws δ else none
  | _ => none
theorem sg_tup (o : XO X g Wx k) {ts : List Expr} {q : XPs} {sl : List Nat} {j : Nat} {p : Pos} (n : Nat) (hq : SGs X g ts q sl) (hs : ∀ u : TGs, X.calm = true → PGs X ts u → PG X (.Tuple ts j p) (gTup X.K n u) := by intro u hc h; exact pg_tup hc h) : SG X g (.Tuple ts j p) (ptup n q) sl :=
  pg_imp (hs _ o.calm hq) fun v σ H Q ⟨δ, w, ρ, δ', r, se, e, k⟩ => by
    cases r with
    | @tup ws vs a s rl =>
      have e' : (if ws.length = n then q ws δ else none) = some δ' := e
      by_cases hn : ws.length = n
      · rw [if_pos hn] at e'
        exact ⟨a, vs, rfl, o.K ▸ s, by rw [← rl.length]; exact hn, δ, ws, ρ, δ', rl, se, e', k⟩
      · rw [if_neg hn] at e'
        cases e'
    | _ => cases e

/-! ### loops -/
/-- what comes next: none: the source is no more what it was; some none: it ends -/
abbrev Nth := Sto → Nat → Option (Option Va)
def nseq (ws : List Va) : Nth := fun _ i => some ws[i]?
def nloc (l : Nat) : Nth := fun S i => (getL S l).map fun ws => ws[i]?
def nrng (lo : Int) (n : Nat) : Nth := fun _ i => some (if i < n then some (.int (lo + i)) else none)
def forG (nth : Nth) (put : XP) (body : XS) : Nat → Nat → XS
  | 0, _ => fun _ _ => .bad
  | n + 1, i => fun δ S => match nth S i with
    | none => .bad
    | some none => .nx δ S
    | some (some w) => match put w δ with
      | none => .bad
      | some δ1 => match body δ1 S with
        | .nx δ2 S2 => forG nth put body n (i + 1) δ2 S2
        | .ct δ2 S2 => forG nth put body n (i + 1) δ2 S2
        | .bk δ2 S2 => .nx δ2 S2
        | o => o
/-- the iterator J gives what nth tells -/
def NthOk (g : G) (ρ0 : List Addr) (H0 : Hp) (nth : Nth) (J : It) : Prop := ∀ i S ρ H, Ext g ρ0 H0 ρ H → Sim g ρ S H →
  (nth S i = some none → J.stop i H) ∧ ∀ w, nth S i = some (some w) → J.go i H ∧ ∀ x H', J.yld i H x H' → H' = H ∧ Rel g ρ H w x
theorem nth_seq {ρ : List Addr} {H : Hp} {ws : List Va} {vs : List V} {q : Addr} (s : SqT g.K H q vs) (r : RelL g ρ H ws vs) : NthOk g ρ H (nseq ws) (Itt g.K q) := fun i S ρ1 H1 e sm => by
  refine ⟨fun h => ⟨vs, e.tup _ _ s, ?_⟩, fun w h => ?_⟩
  · have h' : ws[i]? = none := Option.some.inj h
    rw [← r.length]
    exact List.getElem?_eq_none_iff.mp h'
  · have h' : ws[i]? = some w := Option.some.inj h
    obtain ⟨v, h1, h2⟩ := (r.mono e).get h'
    refine ⟨⟨vs, v, e.tup _ _ s, h1⟩, fun x H' y => ⟨y.1, ?_⟩⟩
    have z := y.2 vs (e.tup _ _ s)
    rw [h1] at z
    cases z
    exact h2
theorem nth_loc {ρ : List Addr} {H : Hp} {l : Nat} {q : Addr} (hq : ρ[l]? = some q) : NthOk g ρ H (nloc l) (Itl g.K q) := fun i S ρ1 H1 e sm => by
  have hq1 := e.at hq
  unfold nloc
  cases hw : getL S l with
  | none => exact ⟨fun h => (by cases h), fun w h => (by cases h)⟩
  | some ws =>
    obtain ⟨vs, h1, h2⟩ := getL_at sm hw hq1
    refine ⟨fun h => ⟨vs, h1, ?_⟩, fun w h => ?_⟩
    · have h' : ws[i]? = none := Option.some.inj h
      rw [← h2.length]
      exact List.getElem?_eq_none_iff.mp h'
    · have h' : ws[i]? = some w := Option.some.inj h
      obtain ⟨v, h3, h4⟩ := h2.get h'
      refine ⟨⟨vs, v, h1, h3⟩, fun x H' y => ⟨y.1, ?_⟩⟩
      have z := y.2 vs h1
      rw [h3] at z
      cases z
      exact h4
theorem nth_rng {ρ : List Addr} {H : Hp} {lo : Int} {n : Nat} : NthOk g ρ H (nrng lo n) (Itr lo n) := fun i S ρ1 H1 e sm => by
  unfold nrng
  by_cases hi : i < n
  · rw [if_pos hi]
    refine ⟨fun h => (by cases h), fun w h => ?_⟩
    cases h
    refine ⟨hi, fun x H' y => ⟨y.1, ?_⟩⟩
    rw [y.2]
    exact .int _
  · rw [if_neg hi]
    exact ⟨fun _ => Nat.le_of_not_lt hi, fun w h => (by cases h)⟩
/-- what a for (a comprehension) walks: how many turns are allowed, what comes -/
abbrev XI := Env → Sto → Rs (Nat × Nth)
def tI (g : G) (Wx : WX) (x : XI) : TI := fun σ H R => ∃ δ S ρ, Sim g ρ S H ∧ SimE g ρ H δ σ ∧ match x δ S with
    | .ok a S' => ∀ ρ' H' J, Ext g ρ H ρ' H' → Sim g ρ' S' H' → NthOk g ρ' H' a.2 J → R J H'
    | .ex c fs S' => ∀ ρ' H' d, Ext g ρ H ρ' H' → Sim g ρ' S' H' → ExD g ρ' H' c fs d → Wx (.ref (g.cls c)) d σ H'
    | .bad => False
abbrev SI (X : Cx) (g : G) (Wx : WX) (tg it : Expr) (x : XI) : Prop := PI X tg it (tI g Wx x)
theorem pi_imp {tg it : Expr} {w w' : TI} (h : PI X tg it w) (k : ∀ σ H R, w' σ H R → w σ H R) : PI X tg it w' := ⟨fun pins s σ H R I q => h.run pins s σ H R I (k _ _ _ q)⟩
@[simp] def sfor (x : XI) (put : XP) (body : XS) : XS := fun δ S => (x δ S).out δ fun a S1 => forG a.2 put body a.1 0 δ S1
theorem ss_for (o : XO X g Wx k) {tg it : Expr} {B : List Stmt} {xi : XI} {put : XP} {sl : List Nat} {body : XS} (hi : SI X g Wx tg it xi) (hg : SG X g tg put sl) (hb : SB X g Wx B body) (hs : ∀ x, foldedSetIterable it X.env x = pure x := by intro _; rfl) : SS X g Wx (.For tg it B [] pos) (sfor xi put body) := by
  refine ps_imp (ps_for o.po o.calm hi hg hb hs) fun D σ H ⟨δ, S, ρ, sm, se, h⟩ => ?_
  refine ⟨δ, S, ρ, sm, se, ?_⟩
  unfold sfor at h
  cases q : xi δ S with
  | bad => rw [q] at h; exact h
  | ex c fs S' => rw [q] at h; exact fun ρ' H' d e s z => h ρ' H' σ d e s (se.mono e) z
  | ok a S' =>
    rw [q] at h
    have h' : wpS g Wx ρ H D (forG a.2 put body a.1 0 δ S') := h
    intro ρ1 H1 J e1 s1 ok
    refine ⟨fun i m σ H => ∃ δ S ρ, Ext g ρ1 H1 ρ H ∧ Sim g ρ S H ∧ SimE g ρ H δ σ ∧ wpS g Wx ρ H D (forG a.2 put body m i δ S), ⟨a.1, δ, S', ρ1, .refl, s1, se.mono e1, wpS.ext e1 h'⟩, ?_⟩
    rintro i m σ2 H2 ⟨δ2, S2, ρ2, e2, s2, se2, hw⟩
    cases m with
    | zero => exact hw.elim
    | succ m =>
      obtain ⟨k3, k4⟩ := ok i S2 ρ2 H2 e2 s2
      unfold forG at hw
      cases hn : a.2 S2 i with
      | none => rw [hn] at hw; exact hw.elim
      | some ow =>
        rw [hn] at hw
        cases ow with
        | none => exact .inl ⟨k3 hn, hw ρ2 H2 σ2 .refl s2 se2⟩
        | some w =>
          obtain ⟨g1, g2⟩ := k4 w hn
          refine .inr ⟨g1, fun σ' H' => ∃ δ S ρ, Ext g ρ1 H1 ρ H' ∧ Sim g ρ S H' ∧ SimE g ρ H' δ σ' ∧ wpS g Wx ρ H' D (forG a.2 put body m (i + 1) δ S), fun σ' H' hh => ⟨m, Nat.lt_succ_self m, hh⟩, fun x H' y => ?_⟩
          obtain ⟨rfl, rx⟩ := g2 x H' y
          dsimp only at hw
          cases hp : put w δ2 with
          | none => rw [hp] at hw; exact hw.elim
          | some δ3 =>
            rw [hp] at hw
            refine ⟨δ2, w, ρ2, δ3, rx, se2, hp, fun σ3 se3 _ _ => ⟨δ3, S2, ρ2, s2, se3, ?_⟩⟩
            dsimp only at hw
            cases hb' : body δ3 S2 with
            | nx δ4 S4 => rw [hb'] at hw; exact fun ρ' H'' σ' e s se => ⟨δ4, S4, ρ', e2.trans e, s, se, wpS.ext e hw⟩
            | ct δ4 S4 => rw [hb'] at hw; exact fun ρ' H'' σ' e s se => ⟨δ4, S4, ρ', e2.trans e, s, se, wpS.ext e hw⟩
            | bk δ4 S4 => rw [hb'] at hw; exact hw
            | rt w' S4 => rw [hb'] at hw; exact hw
            | ex c fs δ4 S4 => rw [hb'] at hw; exact hw
            | bad => rw [hb'] at hw; exact hw
/-- over a list or a tuple -/
@[simp] def isq (x : XE) : XI := fun δ S => (x δ S).bind fun w S1 => match w with
  | .tup ws => .ok (ws.length + 1, nseq ws) S1
  | .loc l => match getL S1 l with
    | some ws => .ok (ws.length + 1, nloc l) S1
    | none => .bad
  | _ => .bad
theorem si_seq (o : XO X g Wx k) {tg it : Expr} (he : SE X g Wx it x) : SI X g Wx tg it (isq x) := by
  have both : PI X tg it fun σ H R => iList X.K (tE g Wx x) σ H R ∨ iTup X.K (tE g Wx x) σ H R := ⟨fun pins s σ H R I h => by
    rcases h with h | h
    · exact (pi_list he).run pins s σ H R I h
    · exact (pi_tup he).run pins s σ H R I h⟩
  refine pi_imp both fun σ H R ⟨δ, S, ρ, sm, se, h⟩ => ?_
  all_goals
    unfold isq at h
    cases q : x δ S with
    | bad => rw [q] at h; exact h.elim
    | ex c fs S' =>
      rw [q] at h
      refine .inl ⟨δ, S, ρ, sm, se, ?_⟩
      rw [q]
      exact h
    | ok w S' =>
      rw [q] at h
      dsimp only [Rs.bind] at h
      cases w with
      | tup ws =>
        refine .inr ⟨δ, S, ρ, sm, se, ?_⟩
        rw [q]
        intro ρ1 H1 v e1 s1 r1
        cases r1 with
        | @tup ws vs p sq rl => exact ⟨p, rfl, ⟨vs, o.K ▸ sq⟩, h ρ1 H1 _ e1 s1 (o.K ▸ nth_seq sq rl)⟩
      | loc l =>
        dsimp only at h
        cases hw : getL S' l with
        | none => rw [hw] at h; exact h.elim
        | some ws =>
          rw [hw] at h
          refine .inl ⟨δ, S, ρ, sm, se, ?_⟩
          rw [q]
          intro ρ1 H1 v e1 s1 r1
          cases r1 with
          | @loc i p hp =>
            obtain ⟨vs, h1, h2⟩ := getL_at s1 hw hp
            exact ⟨p, rfl, ⟨vs, o.K ▸ h1⟩, h ρ1 H1 _ e1 s1 (o.K ▸ nth_loc hp)⟩
      | _ => exact h.elim
def big (j : Int) : Bool := decide (-(2 ^ 62) ≤ j) && decide (j < 2 ^ 62)
theorem big_ok {j : Int} (h : big j = true) : -(2 ^ 62) ≤ j ∧ j < 2 ^ 62 := by
  unfold big at h
  simpa using h
@[simp] def irg1 (x : XE) : XI := fun δ S => (x δ S).bind fun w S1 => match w with
  | .int j => bif big j then .ok (j.toNat + 1, nrng 0 j.toNat) S1 else .bad
  | _ => .bad
theorem si_rg1 {tg : Expr} {p : Pos} (hm : X.mg "range" = none) (he : SE X g Wx a x) (hg : Gl X "range" := by rfl) (hs : starEach [a] X.env = [(false, eval a X.env)] := by rfl) : SI X g Wx tg (.Call (.Name "range" p) [a] [] pos) (irg1 x) := by
  refine pi_imp (pi_range1 hg hm (pa_cons he pa_nil (hs := hs)) hs) fun σ H R ⟨δ, S, ρ, sm, se, h⟩ => ⟨δ, S, ρ, sm, se, ?_⟩
  unfold irg1 at h
  cases q : x δ S with
  | bad => rw [q] at h; exact h
  | ex c fs S' => rw [q] at h; exact h
  | ok w S' =>
    rw [q] at h
    dsimp only [Rs.bind] at h
    intro ρ1 H1 v e1 s1 r1
    cases r1 with
    | int j =>
      dsimp only at h
      by_cases hb : big j = true
      · rw [hb] at h
        exact ⟨j, rfl, (big_ok hb).1, (big_ok hb).2, h ρ1 H1 _ e1 s1 nth_rng⟩
      · rw [Bool.not_eq_true _ |>.mp hb] at h
        exact h.elim
    | _ => exact h.elim
@[simp] def irg2 (x y : XE) : XI := fun δ S => (x δ S).bind fun w S1 => (y δ S1).bind fun u S2 => match w, u with
  | .int i, .int j => bif big i && big j then .ok ((j - i).toNat + 1, nrng i (j - i).toNat) S2 else .bad
  | _, _ => .bad
theorem si_rg2 {tg : Expr} {p : Pos} (hm : X.mg "range" = none) (he : SE X g Wx a x) (hy : SE X g Wx b y) (hg : Gl X "range" := by rfl) (hs : starEach [a, b] X.env = (false, eval a X.env) :: starEach [b] X.env := by rfl)
    (pir : ∀ ta : TA, X.mg "range" = none → PA X [a, b] ta → PI X tg (.Call (.Name "range" p) [a, b] [] pos) (iRng2 ta) := by intro ta hm h; exact pi_range2 (by rfl) hm h) (hs2 : starEach [b] X.env = (false, eval b X.env) :: starEach [] X.env := by rfl) : SI X g Wx tg (.Call (.Name "range" p) [a, b] [] pos) (irg2 x y) := by
  refine pi_imp (pir _ hm (pa_cons he (pa_cons hy pa_nil (hs := hs2)) (hs := hs))) fun σ H R ⟨δ, S, ρ, sm, se, h⟩ => ⟨δ, S, ρ, sm, se, ?_⟩
  unfold irg2 at h
  cases q : x δ S with
  | bad => rw [q] at h; exact h
  | ex c fs S' => rw [q] at h; exact h
  | ok w S' =>
    rw [q] at h
    dsimp only [Rs.bind] at h
    intro ρ1 H1 v e1 s1 r1
    refine ⟨δ, S', ρ1, s1, se.mono e1, ?_⟩
    cases q2 : y δ S' with
    | bad => rw [q2] at h; exact h.elim
    | ex c fs S2 => rw [q2] at h; exact fun ρ' H' d e s z => h ρ' H' d (e1.trans e) s z
    | ok u S2 =>
      rw [q2] at h
      intro ρ2 H2 v2 e2 s2 r2
      dsimp only at h
      cases r1 with
      | int i =>
        cases r2 with
        | int j =>
          dsimp only at h
          by_cases hb : (big i && big j) = true
          · rw [hb] at h
            rw [Bool.and_eq_true] at hb
            exact ⟨i, j, rfl, ⟨(big_ok hb.1).1, (big_ok hb.1).2, (big_ok hb.2).1, (big_ok hb.2).2⟩, h ρ2 H2 _ (e1.trans e2) s2 nth_rng⟩
          · rw [Bool.not_eq_true _ |>.mp hb] at h
            exact h.elim
        | _ => exact h.elim
      | _ => exact h.elim
end
end Rz
namespace Rz
open PySem PySem.Spec PyProof.Rows L2

/-! ### operations on data -/
def mulOk (i j : Int) : Bool := (decide (-(2 ^ 64) < i) && decide (i < 2 ^ 64)) || (decide (-(2 ^ 64) < j) && decide (j < 2 ^ 64))
theorem mulOk_ok {i j : Int} (h : mulOk i j = true) : CMul i j := by
  unfold mulOk at h
  simp only [Bool.or_eq_true, Bool.and_eq_true, decide_eq_true_eq] at h
  exact h
def powOk (i j : Int) : Bool := decide (0 ≤ j) && decide (j ≤ 1000000) && decide (i.natAbs < 2 ^ 64)
theorem powOk_ok {i j : Int} (h : powOk i j = true) : CPow i j := by
  unfold powOk at h
  simp only [Bool.and_eq_true, decide_eq_true_eq] at h
  exact ⟨h.1.1, h.1.2, h.2⟩
@[simp] def oAdd (a b : Va) (S : Sto) : Rs Va := match a, b with
  | .int i, .int j => .ok (.int (i + j)) S
  | .str x, .str y => bif fits (x.length + y.length) then .ok (.str (x ++ y)) S else .bad
  | .tup xs, .tup ys => ltup (xs ++ ys) S
  | .loc i, .loc j => match S[i]?, S[j]? with
    | some (.lst xs), some (.lst ys) => llst (xs ++ ys) S
    | _, _ => .bad
  | _, _ => .bad
@[simp] def oSub (a b : Va) (S : Sto) : Rs Va := match a, b with
  | .int i, .int j => .ok (.int (i - j)) S
  | _, _ => .bad
def oMul (a b : Va) (S : Sto) : Rs Va := match a, b with
  | .int i, .int j => bif mulOk i j then .ok (.int (i * j)) S else .bad
  | .loc l, .int k => match S[l]? with
    | some (.lst xs) => bif big k && decide (xs.length * k.toNat ≤ sizeLine) then llst (List.replicate k.toNat xs).flatten S else .bad
    | _ => .bad
  | _, _ => .bad
@[simp] def oDiv (a b : Va) (S : Sto) : Rs Va := match a, b with
  | .int i, .int j => if 0 < j ∧ j < 1073741824 then .ok (.int (i / j)) S else .bad
  | _, _ => .bad
@[simp] def oMod (a b : Va) (S : Sto) : Rs Va := match a, b with
  | .int i, .int j => if 0 < j then .ok (.int (i % j)) S else .bad
  | _, _ => .bad
@[simp] def oPow (a b : Va) (S : Sto) : Rs Va := match a, b with
  | .int i, .int j => bif powOk i j then .ok (.int (i ^ j.toNat)) S else .bad
  | _, _ => .bad
@[simp] def oShl (a b : Va) (S : Sto) : Rs Va := match a, b with
  | .int i, .int j => bif powOk i j then .ok (.int (i * 2 ^ j.toNat)) S else .bad
  | _, _ => .bad
section
variable {g : G}
abbrev rOr (r r' : R2) : R2 := fun x y H Q => r x y H Q ∨ r' x y H Q
abbrev rStr : R2 := fun x y H Q => ∃ i j, x = .str i ∧ y = .str j ∧ i.length + j.length ≤ sizeLine ∧ Q (.str (i ++ j)) H
abbrev rAddAll (K : PySem.W.Frag) : R2 := rOr (rI0 fun i j => .int (i + j)) (rOr rStr (rOr (rCatA K) rCat))
theorem or_add {X : Cx} : OpR X (binaryOp .Add) (rAddAll X.K) := OpR.or op_add (OpR.or op_add_str (OpR.or op_catA op_cat))
theorem os_add : OpS g (rAddAll g.K) oAdd := fun Wx σ ρ S H a b x y Q sm ra rb h => by
  cases ra with
  | int i =>
    cases rb with
    | int j => exact .inl ⟨i, j, rfl, rfl, h.fin sm (.int _)⟩
    | _ => exact h.elim
  | str i =>
    cases rb with
    | str j =>
      have h' : wpR g Wx σ (Rel g) ρ H (bif fits (i.length + j.length) then .ok (.str (i ++ j)) S else .bad) Q := h
      by_cases hz : fits (i.length + j.length) = true
      · rw [hz] at h'
        exact .inr (.inl ⟨i, j, rfl, rfl, fits_iff.mp hz, wpR.fin (a := Va.str (i ++ j)) h' sm (.str _)⟩)
      · rw [Bool.not_eq_true _ |>.mp hz] at h'
        exact h'.elim
    | _ => exact h.elim
  | @tup ws vs p s rl =>
    cases rb with
    | @tup us ts q s2 rl2 =>
      have h' : wpR g Wx σ (Rel g) ρ H (ltup (ws ++ us) S) Q := h
      obtain ⟨z1, z2⟩ := new_tup sm (rl.app rl2) h'
      have key : ∀ v, Rel g ρ H (.tup (ws ++ us)) v → Q v H := fun v rv => by
        unfold ltup at h'
        have e : (ws ++ us).length = (vs ++ ts).length := (rl.app rl2).length
        rw [fits_iff.mpr (by rw [e]; exact z1)] at h'
        exact wpR.fin (a := Va.tup (ws ++ us)) h' sm rv
      refine .inr (.inr (.inl ⟨p, q, vs, ts, rfl, rfl, s, s2, by simpa using z1, fun e => ?_, fun _ e => ?_, fun _ _ => z2⟩))
      · subst e
        cases rl
        exact key _ (.tup s2 rl2)
      · subst e
        cases rl2
        exact key _ (.tup s (by simpa using rl))
    | _ => exact h.elim
  | @loc i p hp =>
    cases rb with
    | @loc j q hq =>
      have h' : wpR g Wx σ (Rel g) ρ H (match S[i]?, S[j]? with | some (.lst xs), some (.lst ys) => llst (xs ++ ys) S | _, _ => .bad) Q := h
      split at h'
      · rename_i xs ys e1 e2
        obtain ⟨vs, k1, k2⟩ := sm.ats i _ p e1 hp
        obtain ⟨ts, k3, k4⟩ := sm.ats j _ q e2 hq
        obtain ⟨z1, z2⟩ := new_lst sm (k2.app k4) h'
        exact .inr (.inr (.inr ⟨p, q, vs, ts, rfl, rfl, k1, k3, by simpa using z1, z2⟩))
      · exact h'.elim
    | _ => exact h.elim
  | _ => cases rb <;> exact h.elim
theorem os_sub : OpS g (rI0 fun i j => .int (i - j)) oSub := fun Wx σ ρ S H a b x y Q sm ra rb h => by
  cases ra with
  | int i =>
    cases rb with
    | int j => exact ⟨i, j, rfl, rfl, h.fin sm (.int _)⟩
    | _ => exact h.elim
  | _ => cases rb <;> exact h.elim
theorem os_int {C : Int → Int → Prop} {c : Int → Int → Prop} [∀ i j, Decidable (c i j)] {f : Int → Int → Int} {o : Va → Va → Sto → Rs Va} (hc : ∀ i j, c i j → C i j) (ho : ∀ i j S, o (.int i) (.int j) S = if c i j then .ok (.int (f i j)) S else .bad)
    (hn : ∀ a b S, (∀ i j, ¬ (a = .int i ∧ b = .int j)) → o a b S = .bad) : OpS g (rI C fun i j => .int (f i j)) o := fun Wx σ ρ S H a b x y Q sm ra rb h => by
  by_cases e : ∃ i j, a = .int i ∧ b = .int j
  · obtain ⟨i, j, rfl, rfl⟩ := e
    cases ra
    cases rb
    rw [ho] at h
    by_cases z : c i j
    · rw [if_pos z] at h
      exact ⟨i, j, rfl, rfl, hc _ _ z, h.fin sm (.int _)⟩
    · rw [if_neg z] at h
      exact h.elim
  · rw [hn a b S fun i j z => e ⟨i, j, z⟩] at h
    exact h.elim
theorem os_div : OpS g (rI CDiv fun i j => .int (i / j)) oDiv := os_int (c := fun i j => 0 < j ∧ j < 1073741824) (fun _ _ h => h) (fun _ _ _ => rfl) (fun a b S n => by cases a <;> cases b <;> first | rfl | exact absurd ⟨rfl, rfl⟩ (n _ _))
theorem os_mod : OpS g (rI (fun _ j => 0 < j) fun i j => .int (i % j)) oMod := os_int (c := fun _ j => 0 < j) (fun _ _ h => h) (fun _ _ _ => rfl) (fun a b S n => by cases a <;> cases b <;> first | rfl | exact absurd ⟨rfl, rfl⟩ (n _ _))
theorem os_pow : OpS g (rI CPow fun i j => .int (i ^ j.toNat)) oPow := os_int (c := fun i j => powOk i j = true) (fun _ _ h => powOk_ok h) (fun i j S => by show cond (powOk i j) _ _ = _; cases powOk i j <;> rfl) (fun a b S n => by cases a <;> cases b <;> first | rfl | exact absurd ⟨rfl, rfl⟩ (n _ _))
theorem os_shl : OpS g (rI CPow fun i j => .int (i * 2 ^ j.toNat)) oShl := os_int (c := fun i j => powOk i j = true) (fun _ _ h => powOk_ok h) (fun i j S => by show cond (powOk i j) _ _ = _; cases powOk i j <;> rfl) (fun a b S n => by cases a <;> cases b <;> first | rfl | exact absurd ⟨rfl, rfl⟩ (n _ _))
abbrev rMulAll : R2 := rOr (rI CMul fun i j => .int (i * j)) rRep
theorem or_mul {X : Cx} : OpR X (binaryOp .Mult) rMulAll := OpR.or op_mul op_rep
theorem RelL.rep {ρ : List Addr} {H : Hp} {ws : List Va} {vs : List V} (r : RelL g ρ H ws vs) : ∀ n, RelL g ρ H (List.replicate n ws).flatten (List.replicate n vs).flatten
  | 0 => .nil
  | n + 1 => by
    rw [List.replicate_succ, List.replicate_succ, List.flatten_cons, List.flatten_cons]
    exact r.app (RelL.rep r n)
theorem os_mul : OpS g rMulAll oMul := fun Wx σ ρ S H a b x y Q sm ra rb h => by
  cases ra with
  | int i =>
    cases rb with
    | int j =>
      have h' : wpR g Wx σ (Rel g) ρ H (bif mulOk i j then .ok (.int (i * j)) S else .bad) Q := h
      by_cases z : mulOk i j = true
      · rw [z] at h'
        exact .inl ⟨i, j, rfl, rfl, mulOk_ok z, wpR.fin (a := Va.int (i * j)) h' sm (.int _)⟩
      · rw [Bool.not_eq_true _ |>.mp z] at h'
        exact h'.elim
    | _ => exact h.elim
  | @loc l p hp =>
    cases rb with
    | int k =>
      have h' : wpR g Wx σ (Rel g) ρ H (match S[l]? with | some (.lst xs) => bif (big k && decide (xs.length * k.toNat ≤ sizeLine)) then llst (List.replicate k.toNat xs).flatten S else .bad | _ => .bad) Q := h
      split at h'
      · rename_i xs e1
        obtain ⟨vs, k1, k2⟩ := sm.ats l _ p e1 hp
        by_cases z : (big k && decide (xs.length * k.toNat ≤ sizeLine)) = true
        · rw [z] at h'
          rw [Bool.and_eq_true, decide_eq_true_eq] at z
          obtain ⟨z1, z2⟩ := new_lst sm (k2.rep k.toNat) h'
          exact .inr ⟨p, k, vs, rfl, rfl, k1, by have := (big_ok z.1).1; omega, by have := (big_ok z.1).2; omega, by rw [← k2.length]; exact z.2, z2⟩
        · rw [Bool.not_eq_true _ |>.mp z] at h'
          exact h'.elim
      · exact h'.elim
    | _ => exact h.elim
  | _ => cases rb <;> exact h.elim
/-! ### order -/
@[simp] def cLt (a b : Va) (S : Sto) : Rs Bool := match a, b with
  | .int i, .int j => .ok (decide (i < j)) S
  | _, _ => .bad
@[simp] def cLe (a b : Va) (S : Sto) : Rs Bool := match a, b with
  | .int i, .int j => .ok (decide (i ≤ j)) S
  | _, _ => .bad
@[simp] def cGt (a b : Va) (S : Sto) : Rs Bool := match a, b with
  | .int i, .int j => .ok (decide (j < i)) S
  | _, _ => .bad
@[simp] def cGe (a b : Va) (S : Sto) : Rs Bool := match a, b with
  | .int i, .int j => .ok (decide (j ≤ i)) S
  | _, _ => .bad
theorem ob_int {f : Int → Int → Bool} {o : Va → Va → Sto → Rs Bool} (ho : ∀ i j S, o (.int i) (.int j) S = .ok (f i j) S) (hn : ∀ a b S, (∀ i j, ¬ (a = .int i ∧ b = .int j)) → o a b S = .bad) : OpB g (rI0 fun i j => .bl (f i j)) o := fun Wx σ ρ S H a b x y Q sm ra rb h => by
  by_cases e : ∃ i j, a = .int i ∧ b = .int j
  · obtain ⟨i, j, rfl, rfl⟩ := e
    cases ra
    cases rb
    rw [ho] at h
    exact ⟨i, j, rfl, rfl, h.fin sm rfl⟩
  · rw [hn a b S fun i j z => e ⟨i, j, z⟩] at h
    exact h.elim
theorem ob_lt : OpB g (rI0 fun i j => .bl (decide (i < j))) cLt := ob_int (fun _ _ _ => rfl) (fun a b S n => by cases a <;> cases b <;> first | rfl | exact absurd ⟨rfl, rfl⟩ (n _ _))
theorem ob_le : OpB g (rI0 fun i j => .bl (decide (i ≤ j))) cLe := ob_int (fun _ _ _ => rfl) (fun a b S n => by cases a <;> cases b <;> first | rfl | exact absurd ⟨rfl, rfl⟩ (n _ _))
theorem ob_gt : OpB g (rI0 fun i j => .bl (decide (j < i))) cGt := ob_int (fun _ _ _ => rfl) (fun a b S n => by cases a <;> cases b <;> first | rfl | exact absurd ⟨rfl, rfl⟩ (n _ _))
theorem ob_ge : OpB g (rI0 fun i j => .bl (decide (j ≤ i))) cGe := ob_int (fun _ _ _ => rfl) (fun a b S n => by cases a <;> cases b <;> first | rfl | exact absurd ⟨rfl, rfl⟩ (n _ _))

/-! ### data as a whole -/
def allD (f : Va → Option PyData) : List Va → Option (List PyData)
  | [] => some []
  | w :: ws => match f w, allD f ws with
    | some d, some ds => some (d :: ds)
    | _, _ => none
def toD (S : Sto) : Nat → Va → Option PyData
  | 0, _ => none
  | n + 1, w => match w with
    | .non => some .none
    | .bl b => some (.bool b)
    | .int i => some (.int i)
    | .str x => some (.str x)
    | .tup ws => (allD (toD S n) ws).map .tuple
    | .loc l => match getL S l with
      | some ws => (allD (toD S n) ws).map .list
      | none => none
    | _ => none
theorem allD_ok {ρ : List Addr} {H : Hp} {f : Va → Option PyData} (hf : ∀ w v d, f w = some d → Rel g ρ H w v → Dp g.K H v d) : ∀ {ws : List Va} {vs : List V} {ds : List PyData}, allD f ws = some ds → RelL g ρ H ws vs → DpAll g.K H vs ds
  | [], _, ds, h, r => by
    cases r
    cases h
    exact .nil
  | w :: ws, _, ds, h, r => by
    cases r with
    | cons a b =>
      unfold allD at h
      cases e1 : f w with
      | none => rw [e1] at h; cases h
      | some d =>
        cases e2 : allD f ws with
        | none => rw [e1, e2] at h; cases h
        | some ds =>
          rw [e1, e2] at h
          cases h
          exact .cons (hf _ _ _ e1 a) (allD_ok hf e2 b)
theorem toD_ok {ρ : List Addr} {S : Sto} {H : Hp} (sm : Sim g ρ S H) : ∀ (n : Nat) (w : Va) (v : V) (d : PyData), toD S n w = some d → Rel g ρ H w v → Dp g.K H v d
  | 0, _, _, _, h, _ => by cases h
  | n + 1, w, v, d, h, r => by
    cases r with
    | non => cases h; exact .non
    | bl b => cases h; exact .bl b
    | int b => cases h; exact .int b
    | str b => cases h; exact .str b
    | ty b => cases h
    | cl b => cases h
    | @tup ws vs a s rl =>
      have h' : (allD (toD S n) ws).map PyData.tuple = some d := h
      cases e : allD (toD S n) ws with
      | none => rw [e] at h'; cases h'
      | some ds =>
        rw [e] at h'
        cases h'
        exact .tup s (allD_ok (fun w v d => toD_ok sm n w v d) e rl)
    | @loc l a hp =>
      have h' : (match getL S l with | some ws => (allD (toD S n) ws).map PyData.list | none => none) = some d := h
      cases q : getL S l with
      | none => rw [q] at h'; cases h'
      | some ws =>
        rw [q] at h'
        obtain ⟨vs, s, rl⟩ := getL_at sm q hp
        have h'' : (allD (toD S n) ws).map PyData.list = some d := h'
        cases e : allD (toD S n) ws with
        | none => rw [e] at h''; cases h''
        | some ds =>
          rw [e] at h''
          cases h''
          exact .lst s (allD_ok (fun w v d => toD_ok sm n w v d) e rl)
/-- a == b of scalars -/
def scE (a b : Va) : Option Bool := match a, b with
  | .str x, .str y => some (decide (x = y))
  | .int x, .int y => some (decide (x = y))
  | .bl x, .bl y => some (decide (x = y))
  | .non, .int _ => some false
  | .non, .bl _ => some false
  | .non, .str _ => some false
  | .int _, .non => some false
  | .bl _, .non => some false
  | .str _, .non => some false
  | .int _, .str _ => some false
  | .str _, .int _ => some false
  | .bl _, .str _ => some false
  | .str _, .bl _ => some false
  | _, _ => none
def deepE (a b : Va) (S : Sto) : Rs Bool := match toD S 64 a, toD S 64 b with
  | some d, some e => bif SeqAt.shaped d && SeqAt.shaped e then .ok (PyData.eqv d e) S else .bad
  | _, _ => .bad
/-- a == b of data -/
def cEq (a b : Va) (S : Sto) : Rs Bool := match scE a b with
  | some t => .ok t S
  | none => deepE a b S
@[simp] def cNe (a b : Va) (S : Sto) : Rs Bool := (cEq a b S).bind fun b S1 => .ok (!b) S1
theorem scE_ok {ρ : List Addr} {H : Hp} {a b : Va} {x y : V} {t : Bool} (ra : Rel g ρ H a x) (rb : Rel g ρ H b y) (h : scE a b = some t) : scal x y = true ∧ decide (x = y) = t := by
  cases ra <;> cases rb <;> first | (cases h; done) | (cases h; exact ⟨rfl, by simp⟩) | (cases h; exact ⟨rfl, decide_eq_false (by intro z; cases z)⟩)
theorem deepE_ok {Wx : WX} {σ : L2.St} {ρ : List Addr} {S : Sto} {H : Hp} {a b : Va} {x y : V} {Q : Bool → Hp → Prop} (sm : Sim g ρ S H) (ra : Rel g ρ H a x) (rb : Rel g ρ H b y) (h : wpR g Wx σ relB ρ H (deepE a b S) Q) :
    ∃ d e, Dp g.K H x d ∧ Dp g.K H y e ∧ SeqAt.shaped d = true ∧ SeqAt.shaped e = true ∧ Q (PyData.eqv d e) H := by
  unfold deepE at h
  cases e1 : toD S 64 a with
  | none => rw [e1] at h; exact h.elim
  | some d =>
    cases e2 : toD S 64 b with
    | none => rw [e1, e2] at h; exact h.elim
    | some e =>
      rw [e1, e2] at h
      dsimp only at h
      by_cases z : (SeqAt.shaped d && SeqAt.shaped e) = true
      · rw [z] at h
        rw [Bool.and_eq_true] at z
        exact ⟨d, e, toD_ok sm 64 a x d e1 ra, toD_ok sm 64 b y e e2 rb, z.1, z.2, wpR.fin (a := PyData.eqv d e) h sm rfl⟩
      · rw [Bool.not_eq_true _ |>.mp z] at h
        exact h.elim
theorem ob_eq : OpB g (rOr rEq (rEqD g.K)) cEq := fun Wx σ ρ S H a b x y Q sm ra rb h => by
  unfold cEq at h
  cases e1 : scE a b with
  | some t =>
    rw [e1] at h
    obtain ⟨q1, q2⟩ := scE_ok ra rb e1
    have hh : wpR g Wx σ relB ρ H (.ok t S) (fun b H' => Q (.bl b) H') := h
    exact .inl ⟨q1, by rw [q2]; exact hh.fin sm rfl⟩
  | none =>
    rw [e1] at h
    exact .inr (deepE_ok sm ra rb h)
theorem ob_ne : OpB g (rOr rNe (rNeD g.K)) cNe := fun Wx σ ρ S H a b x y Q sm ra rb h => by
  unfold cNe cEq at h
  cases e1 : scE a b with
  | some t =>
    rw [e1] at h
    obtain ⟨q1, q2⟩ := scE_ok ra rb e1
    have hh : wpR g Wx σ relB ρ H (.ok (!t) S) (fun b H' => Q (.bl b) H') := h
    exact .inl ⟨q1, by rw [q2]; exact hh.fin sm rfl⟩
  | none =>
    rw [e1] at h
    have h' : wpR g Wx σ relB ρ H (deepE a b S) fun t H' => Q (.bl (!t)) H' := by
      have h0 : wpR g Wx σ relB ρ H ((deepE a b S).bind fun b S1 => .ok (!b) S1) fun b H' => Q (.bl b) H' := h
      cases q : deepE a b S with
      | ok t S' => rw [q] at h0; exact fun ρ' H' t' e s r => by cases r; exact h0 ρ' H' (!t) e s rfl
      | ex c fs S' => rw [q] at h0; exact h0
      | bad => rw [q] at h0; exact h0
    exact .inr (deepE_ok sm ra rb h')
/-- is of bools and None -/
@[simp] def cIs (a b : Va) (S : Sto) : Rs Bool := match a, b with
  | .bl i, .bl j => .ok (decide (i = j)) S
  | _, _ => .bad
@[simp] def cIsn (a b : Va) (S : Sto) : Rs Bool := match a, b with
  | .bl i, .bl j => .ok (!decide (i = j)) S
  | _, _ => .bad
theorem ob_is : OpB g rIsB cIs := fun Wx σ ρ S H a b x y Q sm ra rb h => by
  cases ra with
  | bl i =>
    cases rb with
    | bl j => exact ⟨i, j, rfl, rfl, h.fin sm rfl⟩
    | _ => exact h.elim
  | _ => cases rb <;> exact h.elim
theorem ob_isn : OpB g rNotB cIsn := fun Wx σ ρ S H a b x y Q sm ra rb h => by
  cases ra with
  | bl i =>
    cases rb with
    | bl j => exact ⟨i, j, rfl, rfl, h.fin sm rfl⟩
    | _ => exact h.elim
  | _ => cases rb <;> exact h.elim
/-- x is None, x is not None, x anything but an object of one's own -/
@[simp] def xisN (x : XE) : XT := fun δ S => (x δ S).bind fun w S1 => match w with
  | .non => .ok true S1
  | _ => .ok false S1
theorem Rel.nonq {ρ : List Addr} {H : Hp} {w : Va} {v : V} (r : Rel g ρ H w v) : decide (v = .non) = (match w with | .non => true | _ => false) := by
  cases r <;> first | rfl | exact decide_eq_false (by intro z; cases z)
end
section
variable {X : Cx} {g : G} {Wx : WX} {k : Nat} {pos : Pos} {a b c : Expr} {es : List Expr} {x y z : XE} {r : XA}
theorem se_isN {j : Nat} {p' : Pos} (ha : SE X g Wx a x) : SE X g Wx (.Compare a [.Is] [.Constant .none j p'] pos) (xboo (xisN x)) :=
  pe_imp (pe_cmp (pc_isN ha)) fun σ H Q ⟨δ, S, ρ, sm, se, h⟩ => ⟨δ, S, ρ, sm, se, wpR.imp (wpR.bind (rel := Rel g) (wp_boo h)) fun v H1 ⟨ρ1, w, S1, e1, s1, r1, h1⟩ => by
    rw [r1.nonq]
    cases w <;> exact h1.fin s1 rfl⟩
theorem se_notN {j : Nat} {p' : Pos} (ha : SE X g Wx a x) : SE X g Wx (.Compare a [.IsNot] [.Constant .none j p'] pos) (xboo (xnot (xisN x))) :=
  pe_imp (pe_cmp (pc_notN ha)) fun σ H Q ⟨δ, S, ρ, sm, se, h⟩ => by
    have h0 : wpR g Wx σ relB ρ H ((xisN x δ S).bind fun b S1 => .ok (!b) S1) fun b H' => Q (.bl b) H' := wp_boo h
    have h1 := wpR.bind (rel := relB) h0
    refine ⟨δ, S, ρ, sm, se, wpR.imp (wpR.bind (rel := Rel g) h1) fun v H1 ⟨ρ1, w, S1, e1, s1, r1, h1⟩ => ?_⟩
    rw [r1.nonq]
    cases w <;> (obtain ⟨ρ2, a2, S2, e2, s2, r2, h2⟩ := h1.fin s1 rfl; cases r2; exact h2.fin s2 rfl)

/-! ### items, slices -/
@[simp] def oIx (a b : Va) (S : Sto) : Rs Va := match a, b with
  | .tup ws, .int i => match atI ws i with
    | some w => .ok w S
    | none => .bad
  | .loc l, .int i => match getL S l with
    | some ws => match atI ws i with
      | some w => .ok w S
      | none => .bad
    | none => .bad
  | _, _ => .bad
theorem atI_rel {ρ : List Addr} {H : Hp} {ws : List Va} {vs : List V} {i : Int} {w : Va} (r : RelL g ρ H ws vs) (h : atI ws i = some w) : ∃ v, atI vs i = some v ∧ Rel g ρ H w v := by
  unfold atI at h ⊢
  rw [r.length] at h
  cases q : ixN vs.length i with
  | none => rw [q] at h; cases h
  | some j =>
    rw [q] at h
    exact r.get h
abbrev rIxAll (K : PySem.W.Frag) : R2 := rOr (rIxL K) (rIxT K)
theorem os_ix : OpS g (rIxAll g.K) oIx := fun Wx σ ρ S H a b x y Q sm ra rb h => by
  cases ra with
  | @tup ws vs p s rl =>
    cases rb with
    | int i =>
      have h' : wpR g Wx σ (Rel g) ρ H (match atI ws i with | some w => .ok w S | none => .bad) Q := h
      cases q : atI ws i with
      | none => rw [q] at h'; exact h'.elim
      | some w =>
        rw [q] at h'
        obtain ⟨v, h1, h2⟩ := atI_rel rl q
        exact .inr ⟨p, vs, i, v, rfl, rfl, s, h1, h'.fin sm h2⟩
    | _ => exact h.elim
  | @loc l p hp =>
    cases rb with
    | int i =>
      have h' : wpR g Wx σ (Rel g) ρ H (match getL S l with | some ws => (match atI ws i with | some w => .ok w S | none => .bad) | none => .bad) Q := h
      cases q0 : getL S l with
      | none => rw [q0] at h'; exact h'.elim
      | some ws =>
        rw [q0] at h'
        dsimp only at h'
        obtain ⟨vs, s, rl⟩ := getL_at sm q0 hp
        cases q : atI ws i with
        | none => rw [q] at h'; exact h'.elim
        | some w =>
          rw [q] at h'
          obtain ⟨v, h1, h2⟩ := atI_rel rl q
          exact .inl ⟨p, vs, i, v, rfl, rfl, s, h1, h'.fin sm h2⟩
    | _ => exact h.elim
  | _ => cases rb <;> exact h.elim
theorem se_ix (o : XO X g Wx k) (ha : SE X g Wx a x) (hb : SE X g Wx b y) (hs : PlainIx b := by intro _ _; rfl) : SE X g Wx (.Subscript a b pos) (xbin oIx x y) :=
  pe_imp (pe_ix (IxR.or ix_list ix_tup) ha hb hs) (by have e := o.K; have q := two_in (Wx := Wx) (x := x) (y := y) (os_ix (g := g)); rw [e] at q; exact q)
end
end Rz
namespace Rz
open PySem PySem.Spec PyProof.Rows L2

/-! ### built-ins -/
def CalS (g : G) (r : List V → Hp → VK → Prop) (f : List Va → Sto → Rs Va) : Prop :=
  ∀ (Wx : WX) (σ : L2.St) (ρ : List Addr) (S : Sto) (H : Hp) (ws : List Va) (vs : List V) (Q : VK), Sim g ρ S H → RelL g ρ H ws vs → wpR g Wx σ (Rel g) ρ H (f ws S) Q → r vs H Q
section
variable {X : Cx} {g : G} {Wx : WX} {k : Nat} {pos : Pos} {a b c : Expr} {es : List Expr} {x y z : XE} {r : XA}
theorem se_callB {q : List V → Hp → VK → Prop} {f : List Va → Sto → Rs Va} {nm : Str} {id : String} {p : Pos} (hc : CallR X (.builtin id) q) (hf : CalS g q f) (hm : X.mg nm = none) (ha : SA X g Wx (a :: es) r) (hg : Gl X nm := by rfl) (hv : bootBuiltins nm = some (.builtin id) := by decide +kernel)
    (hn : nm ≠ "__name__" := by decide) (hdb : (nm == ("__debug__" : Str)) = false := by decide) (he : starEach (a :: es) X.env = (false, eval a X.env) :: starEach es X.env := by rfl) (hpl : (backTo pos (starEach es X.env)).any (·.1) = false := by rfl) :
    SE X g Wx (.Call (.Name nm p) (a :: es) [] pos) (xcall f r) :=
  pe_imp (pe_callB hc hg hm hv ha hn hdb he hpl) fun σ H Q ⟨δ, S, ρ, sm, se, h⟩ => ⟨δ, S, ρ, sm, se, wpR.imp (wpR.bind (rel := RelL g) h) fun vs H1 ⟨ρ1, ws, S1, e1, s1, r1, h1⟩ => hf Wx σ ρ1 S1 H1 ws vs Q s1 r1 h1⟩
theorem se_callT {q : List V → Hp → VK → Prop} {f : List Va → Sto → Rs Va} {nm : Str} {id : String} {p : Pos} (hc : CallR X (.type id) q) (hf : CalS g q f) (hm : X.mg nm = none) (ha : SA X g Wx (a :: es) r) (hg : Gl X nm := by rfl) (hv : bootBuiltins nm = some (.type id) := by decide +kernel)
    (hn : nm ≠ "__name__" := by decide) (hdb : (nm == ("__debug__" : Str)) = false := by decide) (he : starEach (a :: es) X.env = (false, eval a X.env) :: starEach es X.env := by rfl) (hpl : (backTo pos (starEach es X.env)).any (·.1) = false := by rfl) :
    SE X g Wx (.Call (.Name nm p) (a :: es) [] pos) (xcall f r) :=
  pe_imp (pe_callTy hc hg hm hv ha hn hdb he hpl) fun σ H Q ⟨δ, S, ρ, sm, se, h⟩ => ⟨δ, S, ρ, sm, se, wpR.imp (wpR.bind (rel := RelL g) h) fun vs H1 ⟨ρ1, ws, S1, e1, s1, r1, h1⟩ => hf Wx σ ρ1 S1 H1 ws vs Q s1 r1 h1⟩
/-! repr -/
def rRepr (K : PySem.W.Frag) : List V → Hp → VK → Prop := fun xs H Q => ∃ x d, xs = [x] ∧ Dp K H x d ∧ d.showable = true ∧ d.hasDict = false ∧ d.depth ≤ 100 ∧ d.shown.length ≤ sizeLine ∧ Q (.str d.shown) H
theorem call_repr (o : XO X g Wx k) : CallR X (.builtin "repr") (rRepr X.K) := by
  intro pins s σ H xs us Q I rv h
  obtain ⟨x, d, rfl, dp, h1, h2, h3, h4, q⟩ := h
  obtain ⟨u, rfl, ru⟩ := vals1 rv
  obtain ⟨as, rd⟩ := Dp.reads I d x u dp ru
  have hu := o.room.un
  have viaRef : ∀ a : Addr, u = .ref a → wpAny (model X.prog X.w) X.A (PySem.call (.builtin "repr") [u]) (EP X pins σ Q) X.xe s := fun a e => by
    subst e
    exact repr_of_reads' rd h1 (PyData.noDict_hsm h2) o.grd (by omega) (fun _ _ e => e) (fun h' v tk hk => ⟨.str d.shown, H, I.kept (t' := tk) hk, ⟨_, rfl⟩, q⟩) h4
  cases dp with
  | non => cases ru; exact PySem.P.repr_of_none ⟨.str _, H, I.tok _, ⟨_, rfl⟩, q⟩
  | bl b => cases ru; exact PySem.P.repr_of_bool ⟨.str _, H, I.tok _, ⟨_, rfl⟩, by cases b <;> exact q⟩
  | int i => obtain ⟨t, rfl⟩ := ru; exact PySem.P.repr_of_int (by simpa [PyData.showable] using h1) ⟨.str _, H, I.tok _, ⟨_, rfl⟩, q⟩
  | str y => obtain ⟨t, rfl⟩ := ru; exact PySem.P.repr_of_str ⟨.str _, H, I.tok _, ⟨_, rfl⟩, q⟩ h4
  | lst _ _ => exact viaRef _ ru
  | tup _ _ => exact viaRef _ ru
def fRepr (ws : List Va) (S : Sto) : Rs Va := match ws with
  | [w] => match toD S 64 w with
    | some d => bif d.showable && !d.hasDict && decide (d.depth ≤ 100) && decide (d.shown.length ≤ sizeLine) then .ok (.str d.shown) S else .bad
    | none => .bad
  | _ => .bad
theorem cs_repr : CalS g (rRepr g.K) fRepr := fun Wx σ ρ S H ws vs Q sm rl h => by
  unfold fRepr at h
  split at h
  · rename_i w
    cases rl with
    | cons ra rn =>
      cases rn
      cases e : toD S 64 w with
      | none => rw [e] at h; exact h.elim
      | some d =>
        rw [e] at h
        dsimp only at h
        by_cases z : (d.showable && !d.hasDict && decide (d.depth ≤ 100) && decide (d.shown.length ≤ sizeLine)) = true
        · rw [z] at h
          simp only [Bool.and_eq_true, decide_eq_true_eq, Bool.not_eq_true'] at z
          obtain ⟨⟨⟨z1, z2⟩, z3⟩, z4⟩ := z
          exact ⟨_, d, rfl, toD_ok sm 64 w _ d e ra, z1, z2, z3, z4, wpR.fin (a := Va.str d.shown) h sm (.str _)⟩
        · rw [Bool.not_eq_true _ |>.mp z] at h
          exact h.elim
  · exact h.elim
/-! int, len, list -/
@[simp] def fInt (ws : List Va) (S : Sto) : Rs Va := match ws with
  | [.int i] => .ok (.int i) S
  | [.bl b] => .ok (.int (if b then 1 else 0)) S
  | _ => .bad
theorem cs_int : CalS g (fun xs H Q => (∃ i, xs = [.int i] ∧ Q (.int i) H) ∨ ∃ k, xs = [.bl k] ∧ Q (.int (if k then 1 else 0)) H) fInt := fun Wx σ ρ S H ws vs Q sm rl h => by
  unfold fInt at h
  split at h
  · cases rl with
    | cons ra rn => cases rn; cases ra; exact .inl ⟨_, rfl, h.fin sm (.int _)⟩
  · cases rl with
    | cons ra rn => cases rn; cases ra; exact .inr ⟨_, rfl, h.fin sm (.int _)⟩
  · exact h.elim
/-- the items of a list or a tuple -/
@[simp] def itm (w : Va) (S : Sto) : Option (List Va) := match w with
  | .tup ws => some ws
  | .loc l => getL S l
  | _ => none
theorem itm_ok {ρ : List Addr} {S : Sto} {H : Hp} {w : Va} {v : V} {ws : List Va} (sm : Sim g ρ S H) (r : Rel g ρ H w v) (h : itm w S = some ws) : ∃ p vs, v = .ref p ∧ (SqL g.K H p vs ∨ SqT g.K H p vs) ∧ RelL g ρ H ws vs := by
  cases r with
  | @tup us vs p s rl => cases h; exact ⟨p, vs, rfl, .inr s, rl⟩
  | @loc l p hp =>
    obtain ⟨vs, s, rl⟩ := getL_at sm h hp
    exact ⟨p, vs, rfl, .inl s, rl⟩
  | _ => cases h
@[simp] def fLen (ws : List Va) (S : Sto) : Rs Va := match ws with
  | [w] => match itm w S with
    | some us => .ok (.int us.length) S
    | none => .bad
  | _ => .bad
theorem cs_len : CalS g (fun xs H Q => ∃ p ys, xs = [.ref p] ∧ (SqL g.K H p ys ∨ SqT g.K H p ys) ∧ Q (.int ys.length) H) fLen := fun Wx σ ρ S H ws vs Q sm rl h => by
  unfold fLen at h
  split at h
  · rename_i w
    cases rl with
    | cons ra rn =>
      cases rn
      cases e : itm w S with
      | none => rw [e] at h; exact h.elim
      | some us =>
        rw [e] at h
        obtain ⟨p, ts, rfl, s, rl⟩ := itm_ok sm ra e
        have h' : wpR g Wx σ (Rel g) ρ H (.ok (.int us.length) S) Q := h
        rw [rl.length] at h'
        exact ⟨p, ts, rfl, s, h'.fin sm (.int _)⟩
  · exact h.elim
@[simp] def fList (ws : List Va) (S : Sto) : Rs Va := match ws with
  | [w] => match itm w S with
    | some us => llst us S
    | none => .bad
  | _ => .bad
theorem cs_list : CalS g (fun xs H Q => ∃ p ys, xs = [.ref p] ∧ (SqL g.K H p ys ∨ SqT g.K H p ys) ∧ ∀ l, H l = none → Q (.ref l) (upd H l (.lst ys))) fList := fun Wx σ ρ S H ws vs Q sm rl h => by
  unfold fList at h
  split at h
  · rename_i w
    cases rl with
    | cons ra rn =>
      cases rn
      cases e : itm w S with
      | none => rw [e] at h; exact h.elim
      | some us =>
        rw [e] at h
        obtain ⟨p, ts, rfl, s, rl⟩ := itm_ok sm ra e
        exact ⟨p, ts, rfl, s, (new_lst sm rl h).2⟩
  · exact h.elim
/-! isinstance of built-in classes -/
@[simp] def kind (w : Va) (S : Sto) : Option Nat := match w with
  | .non => some 0
  | .bl _ => some 1
  | .int _ => some 2
  | .str _ => some 3
  | .tup _ => some 4
  | .loc l => match S[l]? with
    | some (.lst _) => some 5
    | some (.frl _) => some 5
    | _ => none
  | _ => none
theorem kind_ok {ρ : List Addr} {S : Sto} {H : Hp} {w : Va} {v : V} {n : Nat} (sm : Sim g ρ S H) (r : Rel g ρ H w v) (h : kind w S = some n) : TyX g.K H v (.type (tyName n)) := by
  cases r with
  | non => cases h; exact .base .non
  | bl b => cases h; exact .base (.bl b)
  | int i => cases h; exact .base (.int i)
  | str y => cases h; exact .base (.str y)
  | ty m => cases h
  | cl m => cases h
  | @tup us vs p s rl =>
    cases h
    rcases s with (s | ⟨o, s⟩) | ⟨o, its, n, e, c, _⟩
    · exact .base (.tup s)
    · exact .fTuple s
    · exact .kTuple e c
  | @loc l p hp =>
    have h' : (match S[l]? with | some (.lst _) => some 5 | some (.frl _) => some 5 | _ => none) = some n := h
    split at h'
    · rename_i ws e
      cases h'
      obtain ⟨vs, q, z⟩ := sm.ats l _ p e hp
      exact .base (.lst q)
    · rename_i ws e
      cases h'
      rcases sm.ats l _ p e hp with ⟨o, vs, q, z⟩ | ⟨vs, q, z⟩
      · exact .base (.frz q)
      · rcases q (fun _ => none) with (q | ⟨o, q⟩) | ⟨o, its, n, e, c, _⟩
        · cases q
        · cases q
        · exact .kList e c
    · cases h'
@[simp] def isK (a b : Nat) : Bool := a == b || (a == 1 && b == 2)
theorem kit_all : ∀ a, a < 7 → ∀ b, b < 7 → kitB (tyName a) (tyName b) = some (isK a b) := by decide +kernel
theorem kind_lt {w : Va} {S : Sto} {n : Nat} (h : kind w S = some n) : n < 7 := by
  unfold kind at h
  split at h
  · cases h; decide
  · cases h; decide
  · cases h; decide
  · cases h; decide
  · cases h; decide
  · split at h
    · cases h; decide
    · cases h; decide
    · cases h
  · cases h
@[simp] def fIsi (ws : List Va) (S : Sto) : Rs Va := match ws with
  | [w, .ty n] => match kind w S with
    | some m => if n < 7 then .ok (.bl (isK m n)) S else .bad
    | none => .bad
  | _ => .bad
theorem cs_isi : CalS g (rIsi g.K) fIsi := fun Wx σ ρ S H ws vs Q sm rl h => by
  unfold fIsi at h
  split at h
  · rename_i w n
    cases rl with
    | cons ra rn =>
      cases rn with
      | cons rb rn =>
        cases rn
        cases rb
        cases e : kind w S with
        | none => rw [e] at h; exact h.elim
        | some m =>
          rw [e] at h
          dsimp only at h
          by_cases hn : n < 7
          · rw [if_pos hn] at h
            exact ⟨_, _, _, _, isK m n, rfl, .ty _, kind_ok sm ra e, kit_ty (kit_all m (kind_lt e) n hn), h.fin sm (.bl _)⟩
          · rw [if_neg hn] at h
            exact h.elim
  · exact h.elim
theorem se_repr (o : XO X g Wx k) {p : Pos} (hm : X.mg "repr" = none) (ha : SA X g Wx [a] r) (hg : Gl X "repr" := by rfl) (he : starEach [a] X.env = (false, eval a X.env) :: starEach [] X.env := by rfl) : SE X g Wx (.Call (.Name "repr" p) [a] [] pos) (xcall fRepr r) :=
  se_callB (call_repr o) (o.K ▸ cs_repr) hm ha hg (he := he)
theorem se_int_ {p : Pos} (hm : X.mg "int" = none) (ha : SA X g Wx [a] r) (hg : Gl X "int" := by rfl) (he : starEach [a] X.env = (false, eval a X.env) :: starEach [] X.env := by rfl) : SE X g Wx (.Call (.Name "int" p) [a] [] pos) (xcall fInt r) :=
  se_callT call_int1 cs_int hm ha hg (he := he)
theorem se_len (o : XO X g Wx k) {p : Pos} (hm : X.mg "len" = none) (ha : SA X g Wx [a] r) (hg : Gl X "len" := by rfl) (he : starEach [a] X.env = (false, eval a X.env) :: starEach [] X.env := by rfl) : SE X g Wx (.Call (.Name "len" p) [a] [] pos) (xcall fLen r) :=
  se_callB call_len_seq (o.K ▸ cs_len) hm ha hg (he := he)
theorem se_list (o : XO X g Wx k) {p : Pos} (hm : X.mg "list" = none) (ha : SA X g Wx [a] r) (hg : Gl X "list" := by rfl) (he : starEach [a] X.env = (false, eval a X.env) :: starEach [] X.env := by rfl) : SE X g Wx (.Call (.Name "list" p) [a] [] pos) (xcall fList r) :=
  se_callT call_list_of (o.K ▸ cs_list) hm ha hg (he := he)
theorem se_isi (o : XO X g Wx k) {p : Pos} (hm : X.mg "isinstance" = none) (ha : SA X g Wx [a, b] r) (hg : Gl X "isinstance" := by rfl) (he : starEach [a, b] X.env = (false, eval a X.env) :: starEach [b] X.env := by rfl) (hpl : (backTo pos (starEach [b] X.env)).any (·.1) = false := by rfl) :
    SE X g Wx (.Call (.Name "isinstance" p) [a, b] [] pos) (xcall fIsi r) :=
  se_callB call_isi (o.K ▸ cs_isi) hm ha hg (he := he) (hpl := hpl)
/-! methods of lists -/
def MetS (g : G) (q : V → List V → Hp → VK → Prop) (f : Va → List Va → Sto → Rs Va) : Prop :=
  ∀ (Wx : WX) (σ : L2.St) (ρ : List Addr) (S : Sto) (H : Hp) (w : Va) (v : V) (ws : List Va) (vs : List V) (Q : VK), Sim g ρ S H → Rel g ρ H w v → RelL g ρ H ws vs → wpR g Wx σ (Rel g) ρ H (f w ws S) Q → q v vs H Q
@[simp] def isL (w : Va) (S : Sto) : Bool := match w with
  | .loc l => (getL S l).isSome
  | _ => false
theorem isL_ok {ρ : List Addr} {S : Sto} {H : Hp} {w : Va} {v : V} (sm : Sim g ρ S H) (r : Rel g ρ H w v) (h : isL w S = true) : tyV g.K "list" v H := by
  cases r with
  | @loc l p hp =>
    obtain ⟨ws, e⟩ := Option.isSome_iff_exists.mp (show (getL S l).isSome = true from h)
    obtain ⟨vs, s, rl⟩ := getL_at sm e hp
    exact .inl ⟨rfl, vs, s⟩
  | _ => cases h
@[simp] def xmetL (f : Va → List Va → Sto → Rs Va) (x : XE) (r : XA) : XE := fun δ S => (x δ S).bind fun w S1 => if isL w S1 then (r δ S1).bind fun ws S2 => f w ws S2 else .bad
theorem metL_in {q : V → List V → Hp → VK → Prop} {f : Va → List Va → Sto → Rs Va} (hf : MetS g q f) (σ : L2.St) (H : Hp) (Q : VK) (h0 : tE g Wx (xmetL f x r) σ H Q) : tE g Wx x σ H fun v H1 => tyV g.K "list" v H1 ∧ tA g Wx r σ H1 fun vs H2 => q v vs H2 Q := by
  obtain ⟨δ, S, ρ, sm, se, h⟩ := h0
  refine ⟨δ, S, ρ, sm, se, wpR.imp (wpR.bind (rel := Rel g) h) fun v H1 ⟨ρ1, w, S1, e1, s1, r1, h1⟩ => ?_⟩
  by_cases hl : isL w S1 = true
  · rw [if_pos hl] at h1
    refine ⟨isL_ok s1 r1 hl, δ, S1, ρ1, s1, se.mono e1, wpR.imp (wpR.bind (rel := RelL g) h1) fun vs H2 ⟨ρ2, ws, S2, e2, s2, r2, h2⟩ => ?_⟩
    exact hf Wx σ ρ2 S2 H2 w v ws vs Q s2 (r1.mono e2) r2 h2
  · rw [if_neg hl] at h1
    exact h1.elim
def oApp (w : Va) (ws : List Va) (S : Sto) : Rs Va := match w, ws with
  | .loc l, [y] => match S[l]? with
    | some (.lst xs) => bif fits (xs.length + 1) then .ok .non (S.set l (.lst (xs ++ [y]))) else .bad
    | _ => .bad
  | _, _ => .bad
theorem ms_app : MetS g rAppend oApp := fun Wx σ ρ S H w v ws vs Q sm r rl h => by
  unfold oApp at h
  split at h
  · rename_i l y
    split at h
    · rename_i xs e
      by_cases hz : fits (xs.length + 1) = true
      · rw [hz] at h
        cases r with
        | @loc i p hp =>
          cases rl with
          | @cons w1 ws1 v1 vs1 ra rn =>
            cases rn
            obtain ⟨ts, q, z⟩ := sm.ats l _ p e hp
            obtain ⟨s1, e1⟩ := sm.put (o' := .lst (xs ++ [y])) (u := .lst (ts ++ [v1])) e hp rfl rfl fun H' e' q' => ⟨_, q', (z.mono e').app (.cons (ra.mono e') .nil)⟩
            exact ⟨p, ts, v1, rfl, rfl, q, by rw [← z.length]; exact fits_iff.mp hz, wpR.fin_at (a := Va.non) h e1 s1 .non⟩
      · rw [Bool.not_eq_true _ |>.mp hz] at h
        exact h.elim
    · exact h.elim
  · exact h.elim
theorem se_append (o : XO X g Wx k) {ap : Pos} (ha : SE X g Wx a x) (hr : SA X g Wx [b] r) (hbase : attributeBase a "append" X.env (eval a X.env) = eval a X.env := by rfl)
    (hfew : ((backTo pos (starEach [b] X.env)).all (fun x => !x.1) && (backToKw pos (keywordEach [] X.env)).all (fun x => x.1.isSome) && decide ([b].length + ([] : List Keyword).length + (if ([] : List Keyword).isEmpty then 0 else 1) < 30)) = true := by rfl)
    (hline : (ap.endLine == pos.line) = true := by rfl) (hs : starEach [b] X.env = (false, eval b X.env) :: starEach [] X.env := by rfl) :
    SE X g Wx (.Call (.Attribute a "append" ap) [b] [] pos) (xmetL oApp x r) :=
  pe_imp (pe_bm PySem.F.plainAttrs_list PySem.F.slot_list_append PySem.F.type_list_append mt_append ha hr hbase hfew hline hs) (by have e := o.K; have q := metL_in (Wx := Wx) (x := x) (r := r) (ms_app (g := g)); rw [e] at q; exact q)
/-! xs[::-1] -/
@[simp] def oRev (w : Va) (S : Sto) : Rs Va := match w with
  | .loc l => match getL S l with
    | some ws => llst ws.reverse S
    | none => .bad
  | _ => .bad
theorem se_rev (o : XO X g Wx k) {j : Nat} {p1 p2 p3 : Pos} (ha : SE X g Wx a x) : SE X g Wx (.Subscript a (.Slice none none (some (.UnaryOp .USub (.Constant (.int 1) j p1) p2)) p3) pos) (xun oRev x) :=
  pe_imp (pe_revL ha) fun σ H Q ⟨δ, S, ρ, sm, se, h⟩ => ⟨δ, S, ρ, sm, se, wpR.imp (wpR.bind (rel := Rel g) h) fun v H1 ⟨ρ1, w, S1, e1, s1, r1, h1⟩ => by
    cases r1 with
    | @loc l p hp =>
      have h1' : wpR g Wx σ (Rel g) ρ1 H1 (match getL S1 l with | some ws => llst ws.reverse S1 | none => .bad) Q := h1
      cases q : getL S1 l with
      | none => rw [q] at h1'; exact h1'.elim
      | some ws =>
        rw [q] at h1'
        obtain ⟨vs, s, rl⟩ := getL_at s1 q hp
        exact ⟨p, vs, rfl, o.K ▸ s, (new_lst s1 rl.rev h1').2⟩
    | _ => exact h1.elim⟩
end
end Rz
namespace Rz
open PySem PySem.Spec PyProof.Rows L2

/-! ### comprehensions -/
abbrev WF : WX := fun _ _ _ _ => False
@[simp] def wipeE (δ : Env) : List Nat → Env
  | [] => δ
  | v :: vs => (wipeE δ vs).set v none
def compG (nth : Nth) (put : XP) (cond : XT) (elt : XE) (D : Nat) (δ : Env) : Nat → Nat → Sto → Rs Va
  | 0, _, _ => .bad
  | n + 1, i, S => match nth S i with
    | none => .bad
    | some none => .ok (.loc D) S
    | some (some w) => match put w δ with
      | none => .bad
      | some δ1 => match cond δ1 S with
        | .ok false S1 => compG nth put cond elt D δ n (i + 1) S1
        | .ok true S1 => match elt δ1 S1 with
          | .ok y S2 => match S2[D]? with
            | some (.lst acc) => bif fits (acc.length + 1) then compG nth put cond elt D δ n (i + 1) (S2.set D (.lst (acc ++ [y]))) else .bad
            | _ => .bad
          | _ => .bad
        | _ => .bad
@[simp] def xcomp (vs : List Nat) (x : XI) (put : XP) (cond : XT) (elt : XE) : XE := fun δ S => (x δ S).bind fun a S1 => compG a.2 put cond elt S1.length (wipeE δ vs) a.1 0 (S1 ++ [.lst []])
@[simp] def xyes : XT := fun _ S => .ok true S
theorem wipe_get (σ : L2.St) : ∀ (vs : List Nat) (j : Nat), (wipe σ vs)[j]? = if j ∈ vs ∧ j < σ.length then some none else σ[j]?
  | [], j => by simp [wipe]
  | v :: vs, j => by
    have ih := wipe_get σ vs j
    unfold wipe
    by_cases h : j = v
    · subst h
      by_cases hl : j < σ.length
      · rw [List.getElem?_set_self (by rw [wipe_length]; exact hl), if_pos ⟨List.mem_cons_self, hl⟩]
      · rw [if_neg fun z => hl z.2, List.getElem?_eq_none (by rw [List.length_set, wipe_length]; omega), List.getElem?_eq_none (by omega)]
    · rw [List.getElem?_set_ne (Ne.symm h), ih]
      by_cases h2 : j ∈ vs ∧ j < σ.length
      · rw [if_pos h2, if_pos ⟨List.mem_cons_of_mem _ h2.1, h2.2⟩]
      · rw [if_neg h2, if_neg fun z => h2 ⟨(List.mem_cons.mp z.1).resolve_left h, z.2⟩]
theorem wipe_same {σ τ : L2.St} {vs sl : List Nat} (hl : τ.length = σ.length) (h : ∀ j, j ∉ sl → τ[j]? = (wipe σ vs)[j]?) (hs : ∀ j ∈ sl, j ∈ vs) : wipe τ vs = wipe σ vs := by
  apply List.ext_getElem?
  intro j
  rw [wipe_get τ, wipe_get σ, hl]
  by_cases h1 : j ∈ vs ∧ j < σ.length
  · rw [if_pos h1, if_pos h1]
  · rw [if_neg h1, if_neg h1]
    by_cases h2 : j ∈ vs
    · have h3 : ¬ j < σ.length := fun z => h1 ⟨h2, z⟩
      rw [List.getElem?_eq_none (by omega), List.getElem?_eq_none (by omega)]
    · rw [h j fun z => h2 (hs j z), wipe_get σ, if_neg h1]
section
variable {g : G} {ρ : List Addr} {H : Hp}
theorem SimE.wipe {δ : Env} {σ : L2.St} (h : SimE g ρ H δ σ) : ∀ vs : List Nat, SimE g ρ H (wipeE δ vs) (L2.wipe σ vs)
  | [] => h
  | v :: vs => (SimE.wipe h vs).drop
end
section
variable {X : Cx} {g : G} {Wx : WX} {k : Nat} {pos : Pos} {a b c : Expr} {es : List Expr} {x y z : XE} {r : XA}
theorem comp_in {xi : XI} {put : XP} {sl : List Nat} {cond : XT} {elt : XE} {vs : List Nat} (hsl : ∀ j ∈ sl, j ∈ vs) (σ : L2.St) (H : Hp) (Q : VK) (h0 : tE g Wx (xcomp vs xi put cond elt) σ H Q) : tLc (tI g Wx xi) (tP g put sl) (tQ g WF cond) (tE g WF elt) vs σ H Q := by
  obtain ⟨δ, S, ρ, sm, se, h⟩ := h0
  refine ⟨δ, S, ρ, sm, se, ?_⟩
  unfold xcomp at h
  cases q : xi δ S with
  | bad => rw [q] at h; exact h
  | ex c fs S' => rw [q] at h; exact h
  | ok a0 S0 =>
    rw [q] at h
    have h' : wpR g Wx σ (Rel g) ρ H (compG a0.2 put cond elt S0.length (wipeE δ vs) a0.1 0 (S0 ++ [.lst []])) Q := h
    intro ρ0 H0 J e0 s0 ok D hD
    obtain ⟨s1, e1⟩ := s0.laid (o := .lst []) (u := .lst []) hD (fun ρ' H' e q => ⟨[], q, .nil⟩) rfl
    have hDl : (ρ0 ++ [D])[S0.length]? = some D := by rw [s0.len]; simp
    refine ⟨fun i m H2 => ∃ S ρ, Ext g (ρ0 ++ [D]) (upd H0 D (.lst [])) ρ H2 ∧ Sim g ρ S H2 ∧ wpR g Wx σ (Rel g) ρ H2 (compG a0.2 put cond elt S0.length (wipeE δ vs) m i S) Q, ⟨a0.1, _, _, .refl, s1, wpR.ext (e0.trans e1) h'⟩, ?_⟩
    rintro i m H2 ⟨S2, ρ2, e2, s2, hw⟩
    cases m with
    | zero => exact hw.elim
    | succ m =>
      obtain ⟨k3, k4⟩ := ok i S2 ρ2 H2 (e1.trans e2) s2
      unfold compG at hw
      cases hn : a0.2 S2 i with
      | none => rw [hn] at hw; exact hw.elim
      | some ow =>
        rw [hn] at hw
        cases ow with
        | none => exact .inl ⟨k3 hn, hw.fin s2 (.loc (e2.at hDl))⟩
        | some w =>
          obtain ⟨g1, g2⟩ := k4 w hn
          refine .inr ⟨g1, fun H' => ∃ S ρ, Ext g (ρ0 ++ [D]) (upd H0 D (.lst [])) ρ H' ∧ Sim g ρ S H' ∧ wpR g Wx σ (Rel g) ρ H' (compG a0.2 put cond elt S0.length (wipeE δ vs) m (i + 1) S) Q, fun H' hh => ⟨m, Nat.lt_succ_self m, hh⟩, fun x H' y => ?_⟩
          obtain ⟨rfl, rx⟩ := g2 x H' y
          dsimp only at hw
          cases hp : put w (wipeE δ vs) with
          | none => rw [hp] at hw; exact hw.elim
          | some δ3 =>
            rw [hp] at hw
            dsimp only at hw
            have ew : Ext g ρ H ρ2 H' := (e0.trans e1).trans e2
            refine ⟨wipeE δ vs, w, ρ2, δ3, rx, (se.mono ew).wipe vs, hp, fun σ3 se3 hl3 hs3 => ⟨wipe_same (by rw [hl3, wipe_length]) hs3 hsl, δ3, S2, ρ2, s2, se3, ?_⟩⟩
            · cases hc : cond δ3 S2 with
              | bad => rw [hc] at hw; exact hw.elim
              | ex c fs S' => rw [hc] at hw; exact hw.elim
              | ok t S3 =>
                rw [hc] at hw
                intro ρ3 H3 t' e3 s3 rt
                cases rt
                cases t with
                | false => exact ⟨S3, ρ3, e2.trans e3, s3, wpR.ext e3 hw⟩
                | true =>
                  dsimp only at hw
                  refine ⟨δ3, S3, ρ3, s3, se3.mono e3, ?_⟩
                  cases he : elt δ3 S3 with
                  | bad => rw [he] at hw; exact hw.elim
                  | ex c fs S' => rw [he] at hw; exact hw.elim
                  | ok y S4 =>
                    rw [he] at hw
                    dsimp only at hw
                    intro ρ4 H4 v e4 s4 rv
                    split at hw
                    · rename_i acc hacc
                      by_cases hz : fits (acc.length + 1) = true
                      · rw [hz] at hw
                        have hD4 := (e2.trans (e3.trans e4)).at hDl
                        obtain ⟨ts, q1, q2⟩ := s4.ats _ _ _ hacc hD4
                        obtain ⟨s5, e5⟩ := s4.put (o' := .lst (acc ++ [y])) (u := .lst (ts ++ [v])) hacc hD4 rfl rfl fun H' e' q' => ⟨_, q', (q2.mono e').app (.cons (rv.mono e') .nil)⟩
                        exact ⟨ts, q1, by rw [← q2.length]; exact fits_iff.mp hz, _, ρ4, e2.trans (e3.trans (e4.trans e5)), s5, wpR.ext (e3.trans (e4.trans e5)) hw⟩
                      · rw [Bool.not_eq_true _ |>.mp hz] at hw
                        exact hw.elim
                    · exact hw.elim

theorem XO.blk (o : XO X g Wx k) (s : Shared) (H : Hp) (scope : Scope) (cenv : PySem.Env) (fp : List Addr) : XO (X.blk s H scope cenv fp) g WF k := ⟨o.K, o.nd, o.calm, o.room, o.grd, takes0, PassesOwn.never⟩
/-- [elt for tg in it] -/
theorem se_comp (o : XO X g Wx k) (own : List (Str × Nat)) {tg it elt : Expr} {ifs : List Expr} {scope : Scope} {xi : XI} {put : XP} {sl : List Nat} {cond : XT} {xe : XE} (hi : SI X g Wx tg it xi) (ok : BlkOk X.N X.env.scope scope own)
    (hg : ∀ (s : Shared) (H : Hp) (C : Addr) (cl : List (Str × Addr)) (fp : List Addr), XO (X.blk s H scope (compEnvC scope cl C X.env) fp) g WF k → SG (X.blk s H scope (compEnvC scope cl C X.env) fp) g tg put sl)
    (ht : ∀ (s : Shared) (H : Hp) (C : Addr) (cl : List (Str × Addr)) (fp : List Addr), XO (X.blk s H scope (compEnvC scope cl C X.env) fp) g WF k → PTs (X.blk s H scope (compEnvC scope cl C X.env) fp) ifs (tQ g WF cond))
    (he : ∀ (s : Shared) (H : Hp) (C : Addr) (cl : List (Str × Addr)) (fp : List Addr), XO (X.blk s H scope (compEnvC scope cl C X.env) fp) g WF k → SE (X.blk s H scope (compEnvC scope cl C X.env) fp) g WF elt xe)
    (hsl : ∀ j ∈ sl, j ∈ own.map (·.2) := by decide) (hs : ∀ x, foldedSetIterable it X.env x = pure x := by intro _; rfl) : SE X g Wx (.ListComp elt [⟨tg, it, ifs, 0⟩] scope pos) (xcomp (own.map (·.2)) xi put cond xe) :=
  pe_imp (pe_lc o.calm o.nd hi ok (fun s H C cl fp => hg s H C cl fp (o.blk ..)) (fun s H C cl fp => ht s H C cl fp (o.blk ..)) (fun s H C cl fp => he s H C cl fp (o.blk ..)) hs) (comp_in hsl)
theorem ss_comp (o : XO X g Wx k) (i : Nat) (own : List (Str × Nat)) {n : Str} {py spos : Pos} {tg it elt : Expr} {ifs : List Expr} {scope : Scope} {xi : XI} {put : XP} {sl : List Nat} {cond : XT} {xe : XE} (hi : SI X g Wx tg it xi) (ok : BlkOk X.N X.env.scope scope own)
    (hg : ∀ (s : Shared) (H : Hp) (C : Addr) (cl : List (Str × Addr)) (fp : List Addr), XO (X.blk s H scope (compEnvC scope cl C X.env) fp) g WF k → SG (X.blk s H scope (compEnvC scope cl C X.env) fp) g tg put sl)
    (ht : ∀ (s : Shared) (H : Hp) (C : Addr) (cl : List (Str × Addr)) (fp : List Addr), XO (X.blk s H scope (compEnvC scope cl C X.env) fp) g WF k → PTs (X.blk s H scope (compEnvC scope cl C X.env) fp) ifs (tQ g WF cond))
    (he : ∀ (s : Shared) (H : Hp) (C : Addr) (cl : List (Str × Addr)) (fp : List Addr), XO (X.blk s H scope (compEnvC scope cl C X.env) fp) g WF k → SE (X.blk s H scope (compEnvC scope cl C X.env) fp) g WF elt xe)
    (hy : X.N[i]? = some n := by rfl) (hyl : X.env.scope.names.lookup n = some .local := by rfl) (hsw : swapsWith (.ListComp elt [⟨tg, it, ifs, 0⟩] scope pos) (some (.Name n py)) spos.line X.env = pure true := by exact sw_true rfl rfl rfl (by decide +kernel))
    (hsl : ∀ j ∈ sl, j ∈ own.map (·.2) := by decide) (hs : ∀ x, foldedSetIterable it X.env x = pure x := by intro _; rfl) : SS X g Wx (.Assign [.Name n py] (.ListComp elt [⟨tg, it, ifs, 0⟩] scope pos) spos) (sset i (xcomp (own.map (·.2)) xi put cond xe)) :=
  ps_imp (ps_setLc (i := i) o.calm o.nd hy hyl hsw hi ok (fun s H C cl fp => hg s H C cl fp (o.blk ..)) (fun s H C cl fp => ht s H C cl fp (o.blk ..)) (fun s H C cl fp => he s H C cl fp (o.blk ..)) hs) fun D σ H ⟨δ, S, ρ, sm, se, h⟩ =>
    comp_in hsl σ H _ ⟨δ, S, ρ, sm, se, wpR.imp (wpR.out (rel := Rel g) se h) fun v H1 ⟨ρ1, w, S1, e1, s1, r1, h1⟩ => h1 ρ1 H1 _ .refl s1 ((se.mono e1).put r1)⟩
theorem st_nil : PTs X [] (tQ g WF xyes) := ⟨fun pins s σ H Q I ⟨δ, S, ρ, sm, se, h⟩ => pts_nil.run pins s σ H Q I (h.fin sm rfl)⟩
theorem st_one {p : XT} (h : SQ X g WF c p) : PTs X [c] (tQ g WF p) := pts_one h

/-! ### list(range(a, b, c)) -/
def rgL (a c : Int) (n : Nat) : List Va := (List.range n).map fun i => Va.int (a + (i : Nat) * c)
def lrngOk (a b c : Int) : Bool := decide (c ≠ 0) && Builtin.Range.small a b c && decide (0 ≤ Builtin.Range.rangeSize a b c) && decide (Builtin.Range.rangeSize a b c ≤ 16777216) && decide (c.natAbs < 1073741824)
def lrng (a b c : Int) (S : Sto) : Rs Va := bif lrngOk a b c then llst (rgL a c (Builtin.Range.rangeSize a b c).toNat) S else .bad
@[simp] def fLR3 (ws : List Va) (S : Sto) : Rs Va := match ws with
  | [.int a, .int b, .int c] => lrng a b c S
  | _ => .bad
@[simp] def fLR2 (ws : List Va) (S : Sto) : Rs Va := match ws with
  | [.int a, .int b] => lrng a b 1 S
  | _ => .bad
@[simp] def fLR1 (ws : List Va) (S : Sto) : Rs Va := match ws with
  | [.int b] => lrng 0 b 1 S
  | _ => .bad
theorem rgL_rel {ρ : List Addr} {H : Hp} {a c : Int} {n : Nat} {acc : Array Value} (h : ItemsOf (fun i v => ∃ t, v = .int (a + i * c) t) acc n) : ∃ vs, RelL g ρ H (rgL a c n) vs ∧ Vals vs acc.toList := by
  refine ⟨(List.range n).map fun i => V.int (a + (i : Nat) * c), ?_, ?_⟩
  · unfold rgL
    generalize List.range n = l
    induction l with
    | nil => exact .nil
    | cons x l ih => exact .cons (.int _) ih
  · have e : acc.toList.length = n := by rw [Array.length_toList]; exact h.1
    rw [← e]
    refine vals_of_get acc.toList _ fun j u hj => ?_
    obtain ⟨t, rfl⟩ := h.2 j u (by rw [← hj, Array.getElem?_toList])
    exact ⟨t, rfl⟩
end
end Rz
namespace Rz
open PySem PySem.Spec PyProof.Rows L2
section
variable {X : Cx} {g : G} {Wx : WX} {k : Nat} {pos : Pos} {a b c : Expr} {es : List Expr} {x y z : XE} {r : XA}
theorem lrng_run (o : XO X g Wx k) {pins : List (Addr × Obj)} {σ : L2.St} {ρ : List Addr} {S : Sto} {H : Hp} {s : Shared} {Q : VK} {p : Addr} {lo hi st : Int} {t u v : Tok} (I : Inv X pins σ H s) (sm : Sim g ρ S H) (hr : IsRange s.heap p lo hi st t u v)
    (h : wpR g Wx σ (Rel g) ρ H (lrng lo hi st S) Q) : wpAny (model X.prog X.w) X.A (PySem.call (.type "list") [.ref p]) (EP X pins σ Q) X.xe s := by
  unfold lrng at h
  by_cases z : lrngOk lo hi st = true
  · rw [z] at h
    unfold lrngOk at z
    simp only [Bool.and_eq_true, decide_eq_true_eq] at z
    obtain ⟨⟨⟨⟨z1, z2⟩, z3⟩, z4⟩, z5⟩ := z
    have hn : Builtin.Range.rangeSize lo hi st = ((Builtin.Range.rangeSize lo hi st).toNat : Int) := (Int.toNat_of_nonneg z3).symm
    refine call_list_range (I.ok.hd o.calm) hr z2 hn (by omega) fun h' tk acc c' hk e' hi' => ?_
    obtain ⟨ts, r1, r2⟩ := rgL_rel (g := g) (ρ := ρ) (H := H) hi'
    obtain ⟨n1, n2⟩ := new_lst sm r1 h
    refine ⟨.ref s.heap.objs.size, upd H s.heap.objs.size (.lst ts), I.laid hk (Nat.le_refl _) (show ObjOk X.prog X.w _ _ _ (.lst ts) from ⟨n1, acc.toList, c', r2, ?_⟩), rfl, n2 _ (I.hok.fresh (Nat.le_refl _))⟩
    rw [Array.toArray_toList]
    exact e'
  · rw [Bool.not_eq_true _ |>.mp z] at h
    exact h.elim
theorem lrng_ok {lo hi st : Int} {σ : L2.St} {ρ : List Addr} {S : Sto} {H : Hp} {Q : VK} (h : wpR g Wx σ (Rel g) ρ H (lrng lo hi st S) Q) : st ≠ 0 ∧ st.natAbs < 1073741824 := by
  unfold lrng at h
  by_cases z : lrngOk lo hi st = true
  · rw [z] at h
    unfold lrngOk at z
    simp only [Bool.and_eq_true, decide_eq_true_eq] at z
    exact ⟨z.1.1.1.1, z.2⟩
  · rw [Bool.not_eq_true _ |>.mp z] at h
    exact h.elim
theorem se_lrng3 (o : XO X g Wx k) {p p2 pos2 : Pos} (hm : X.mg "list" = none) (hm2 : X.mg "range" = none) (ha : SA X g Wx [a, b, c] r) (hg : Gl X "list" := by rfl) (hg2 : Gl X "range" := by rfl)
    (na : starEach [Expr.Call (.Name "range" p2) [a, b, c] [] pos2] X.env = (false, eval (.Call (.Name "range" p2) [a, b, c] [] pos2) X.env) :: starEach [] X.env := by rfl)
    (na2 : starEach [a, b, c] X.env = (false, eval a X.env) :: starEach [b, c] X.env := by rfl) (np : (backTo pos2 (starEach [b, c] X.env)).any (·.1) = false := by rfl) :
    SE X g Wx (.Call (.Name "list" p) [.Call (.Name "range" p2) [a, b, c] [] pos2] [] pos) (xcall fLR3 r) := by
  refine ⟨fun pins s σ H Q I ⟨δ, S, ρ, sm, se, h⟩ => ?_⟩
  refine Call_ (ld_blt I hg hm boot_list (PyProof.Rows.callWith_type1 (args_cons (Call_ (ld_blt I hg2 hm2 boot_range (PyProof.Rows.callWith_type1 (thn (ha.run pos2 pins s σ H _ I ⟨δ, S, ρ, sm, se, wpR.bind (rel := RelL g) h⟩) fun us s1 hh => ?_) na2 np))) na) na))
  obtain ⟨vs, H1, I1, rv, ρ1, ws, S1, e1, s1', r1, h1⟩ := hh
  unfold fLR3 at h1
  split at h1
  · rename_i lo hi st
    cases r1 with
    | cons ra r1 => cases r1 with
      | cons rb r1 => cases r1 with
        | cons rc r1 =>
          cases r1; cases ra; cases rb; cases rc
          cases rv with
          | cons q1 rv => cases rv with
            | cons q2 rv => cases rv with
              | cons q3 rv =>
                cases rv
                obtain ⟨t1, rfl⟩ := q1
                obtain ⟨t2, rfl⟩ := q2
                obtain ⟨t3, rfl⟩ := q3
                obtain ⟨z1, z2⟩ := lrng_ok h1
                refine call_range_3 z1 (args_nil ?_) (.inl (PyProof.noPylong_small z2))
                exact lrng_run o (I1.kept fun b u e => Heap.get?_push_of_some _ e) s1' (IsRange.new _ _ _ _ _ _ _) h1
  · exact h1.elim
theorem se_lrng2 (o : XO X g Wx k) {p p2 pos2 : Pos} (hm : X.mg "list" = none) (hm2 : X.mg "range" = none) (ha : SA X g Wx [a, b] r) (hg : Gl X "list" := by rfl) (hg2 : Gl X "range" := by rfl)
    (na : starEach [Expr.Call (.Name "range" p2) [a, b] [] pos2] X.env = (false, eval (.Call (.Name "range" p2) [a, b] [] pos2) X.env) :: starEach [] X.env := by rfl)
    (na2 : starEach [a, b] X.env = (false, eval a X.env) :: starEach [b] X.env := by rfl) (np : (backTo pos2 (starEach [b] X.env)).any (·.1) = false := by rfl) :
    SE X g Wx (.Call (.Name "list" p) [.Call (.Name "range" p2) [a, b] [] pos2] [] pos) (xcall fLR2 r) := by
  refine ⟨fun pins s σ H Q I ⟨δ, S, ρ, sm, se, h⟩ => ?_⟩
  refine Call_ (ld_blt I hg hm boot_list (PyProof.Rows.callWith_type1 (args_cons (Call_ (ld_blt I hg2 hm2 boot_range (PyProof.Rows.callWith_type1 (thn (ha.run pos2 pins s σ H _ I ⟨δ, S, ρ, sm, se, wpR.bind (rel := RelL g) h⟩) fun us s1 hh => ?_) na2 np))) na) na))
  obtain ⟨vs, H1, I1, rv, ρ1, ws, S1, e1, s1', r1, h1⟩ := hh
  unfold fLR2 at h1
  split at h1
  · rename_i lo hi
    cases r1 with
    | cons ra r1 => cases r1 with
      | cons rb r1 =>
        cases r1; cases ra; cases rb
        cases rv with
        | cons q1 rv => cases rv with
          | cons q2 rv =>
            cases rv
            obtain ⟨t1, rfl⟩ := q1
            obtain ⟨t2, rfl⟩ := q2
            refine call_range_2 (args_nil ?_)
            exact lrng_run o (I1.kept fun b u e => Heap.get?_push_of_some _ e) s1' (IsRange.new _ _ _ _ _ _ _) h1
  · exact h1.elim
theorem se_lrng1 (o : XO X g Wx k) {p p2 pos2 : Pos} (hm : X.mg "list" = none) (hm2 : X.mg "range" = none) (ha : SA X g Wx [a] r) (hg : Gl X "list" := by rfl) (hg2 : Gl X "range" := by rfl)
    (na : starEach [Expr.Call (.Name "range" p2) [a] [] pos2] X.env = (false, eval (.Call (.Name "range" p2) [a] [] pos2) X.env) :: starEach [] X.env := by rfl)
    (na2 : starEach [a] X.env = (false, eval a X.env) :: starEach [] X.env := by rfl) :
    SE X g Wx (.Call (.Name "list" p) [.Call (.Name "range" p2) [a] [] pos2] [] pos) (xcall fLR1 r) := by
  refine ⟨fun pins s σ H Q I ⟨δ, S, ρ, sm, se, h⟩ => ?_⟩
  refine Call_ (ld_blt I hg hm boot_list (PyProof.Rows.callWith_type1 (args_cons (Call_ (ld_blt I hg2 hm2 boot_range (PyProof.Rows.callWith_type1 (thn (ha.run pos2 pins s σ H _ I ⟨δ, S, ρ, sm, se, wpR.bind (rel := RelL g) h⟩) fun us s1 hh => ?_) na2))) na) na))
  obtain ⟨vs, H1, I1, rv, ρ1, ws, S1, e1, s1', r1, h1⟩ := hh
  unfold fLR1 at h1
  split at h1
  · rename_i hi
    cases r1 with
    | cons ra r1 =>
      cases r1; cases ra
      cases rv with
      | cons q1 rv =>
        cases rv
        obtain ⟨t1, rfl⟩ := q1
        refine call_range_1 (args_nil ?_)
        exact lrng_run o (I1.kept fun b u e => Heap.get?_push_of_some _ e) s1' (IsRange.new _ _ _ _ _ _ _) h1
  · exact h1.elim
/-! ### two, three names at once -/
@[simp] def spar (is : List Nat) (r : XA) : XS := fun δ S => (r δ S).out δ fun ws S1 => if ws.length = is.length then .nx ((is.zip ws).foldl (fun d p => d.set p.1 (some p.2)) δ) S1 else .bad
theorem ss_par2 (o : XO X g Wx k) (i j : Nat) {n m : Str} {px py pt : Pos} {kt k2 pt2} (ha : SA X g Wx [a, b] r) (hij : i ≠ j := by decide) (hi : X.N[i]? = some n := by rfl) (hj : X.N[j]? = some m := by rfl)
    (hx : X.env.scope.names.lookup n = some .local := by rfl) (hy : X.env.scope.names.lookup m = some .local := by rfl)
    (hw : swappedStores [.Tuple [.Name n px, .Name m py] kt pt] (.Tuple [a, b] k2 pt2) X.env = pure (some [n, m]) := by rfl)
    (hs : swapsWithSole [.Tuple [.Name n px, .Name m py] kt pt] (.Tuple [a, b] k2 pt2) pos.line X.env = pure false := by rfl) :
    SS X g Wx (.Assign [.Tuple [.Name n px, .Name m py] kt pt] (.Tuple [a, b] k2 pt2) pos) (spar [i, j] r) :=
  ps_imp (ps_par o.calm o.nd hi hj hij hx hy ha hw hs) fun D σ H ⟨δ, S, ρ, sm, se, h⟩ => ⟨δ, S, ρ, sm, se, wpR.imp (wpR.out (rel := RelL g) se h) fun vs H1 ⟨ρ1, ws, S1, e1, s1, r1, h1⟩ => by
    by_cases hl : ws.length = [i, j].length
    · rw [if_pos hl] at h1
      cases r1 with
      | nil => cases hl
      | cons ra r1 => cases r1 with
        | nil => cases hl
        | cons rb r1 => cases r1 with
          | nil => exact ⟨_, _, rfl, h1 ρ1 H1 _ .refl s1 (((se.mono e1).put ra).put rb)⟩
          | cons rc r1 => cases hl
    · rw [if_neg hl] at h1
      exact h1.elim⟩
theorem ss_par3 (o : XO X g Wx k) (i j l : Nat) {n m q : Str} {px py pz pt : Pos} {kt k2 pt2} (ha : SA X g Wx [a, b, c] r) (hij : i ≠ j := by decide) (hil : i ≠ l := by decide) (hjl : j ≠ l := by decide) (hi : X.N[i]? = some n := by rfl) (hj : X.N[j]? = some m := by rfl) (hl : X.N[l]? = some q := by rfl)
    (hx : X.env.scope.names.lookup n = some .local := by rfl) (hy : X.env.scope.names.lookup m = some .local := by rfl) (hz : X.env.scope.names.lookup q = some .local := by rfl)
    (hw : swappedStores [.Tuple [.Name n px, .Name m py, .Name q pz] kt pt] (.Tuple [a, b, c] k2 pt2) X.env = pure (some [n, m, q]) := by rfl)
    (hs : swapsWithSole [.Tuple [.Name n px, .Name m py, .Name q pz] kt pt] (.Tuple [a, b, c] k2 pt2) pos.line X.env = pure false := by rfl) :
    SS X g Wx (.Assign [.Tuple [.Name n px, .Name m py, .Name q pz] kt pt] (.Tuple [a, b, c] k2 pt2) pos) (spar [i, j, l] r) :=
  ps_imp (ps_par3 o.calm o.nd hi hj hl hij hil hjl hx hy hz ha hw hs) fun D σ H ⟨δ, S, ρ, sm, se, h⟩ => ⟨δ, S, ρ, sm, se, wpR.imp (wpR.out (rel := RelL g) se h) fun vs H1 ⟨ρ1, ws, S1, e1, s1, r1, h1⟩ => by
    by_cases hl : ws.length = [i, j, l].length
    · rw [if_pos hl] at h1
      cases r1 with
      | nil => cases hl
      | cons ra r1 => cases r1 with
        | nil => cases hl
        | cons rb r1 => cases r1 with
          | nil => cases hl
          | cons rc r1 => cases r1 with
            | nil => exact ⟨_, _, _, rfl, h1 ρ1 H1 _ .refl s1 ((((se.mono e1).put ra).put rb).put rc)⟩
            | cons rd r1 => cases hl
    · rw [if_neg hl] at h1
      exact h1.elim⟩
end

/-! ### the end -/
/-- what a law's meaning must be: True at every script -/
def LawOk (m : List Va → Sto → Rs Va) : Prop := ∀ ns : List Int, ns.length ≤ 63 → ∃ S, m [.loc 0] [.frl (ns.map .int)] = .ok (.bl true) S
section
variable {P : Program} {w : World} {K : PySem.W.Frag} {mg mb : Str → Option Value} {k : Nat} {fa a : Addr} {fd : FuncData} {x : Str} {g : G} {m : List Va → Sto → Rs Va} {s₁ : Shared} {vs : List Value} {ns : List Int}
/-- the store with the script alone -/
theorem sim_script {H : Hp} (hg : g.K = K) (h : (∃ o, H a = some (.frz o (.lst (ns.map V.int)))) ∨ ∀ H', SqL K H' a (ns.map V.int)) : Sim g [a] [.frl (ns.map .int)] H := by
  refine ⟨rfl, fun i j b o u h1 h2 h3 h4 h5 h6 => ?_, fun i o b h1 h2 => ?_⟩
  · cases i with
    | zero => cases h3; cases h5
    | succ i => simp at h3
  · cases i with
    | zero =>
      cases h1
      cases h2
      rcases h with ⟨o, h⟩ | h
      · exact .inl ⟨o, _, h, RelL.ints ns⟩
      · exact .inr ⟨_, by rw [hg]; exact h, RelL.ints ns⟩
    | succ i => simp at h1
theorem law_core (hg : g.K = K) (hL : LawOk m) (hlen : ns.length ≤ 63) (hb0 : s₁.heap.Ns builtinsNs mb) (hbb : ∀ x : Str, x ≠ "__name__" → mb x = bootBuiltins x) (hlim : s₁.heap.NoLimit) (hgen : s₁.gens = #[]) (KX : K.In s₁.heap) (hns : s₁.heap.Ns mainGlobals mg)
    (ha : s₁.heap.get? a = some { cls := .type "list", data := .seq vs.toArray }) (hr : Room k callerA) (F : ∀ base : Heap, K.In base → base.Ns mainGlobals mg → FnG P w K mg base k fa fd [x] (spM g 1 m)) (hbind : ∀ (s : Shared) (u : Value), BindsTo s fd ⟨[u], []⟩ [(x, u)])
    (H : Hp) (hO : Only H) (hS : (∃ o, H a = some (.frz o (.lst (ns.map V.int)))) ∨ ∀ H', SqL K H' a (ns.map V.int)) (hok : HOk P w H s₁.heap) (hA : ∀ b, H b ≠ none → b = a) (hK : H a ≠ none → K.lookup a = none) :
    codeAny (model P w) callerA (.call (.ref fa) ⟨[.ref a], []⟩) (fun r s' => r = .ok (.ret (.bool true)) ∧ OldK s₁.heap s'.heap ∧ s'.os = s₁.os ∧ AllBare s'.gens) s₁ := by
  have free : ∀ {b : Addr} {o : Obj}, s₁.heap.get? b = some o → (b = a → False) → (hidT s₁.heap H).get? b = some o := fun {b o} e n => hidT_get e (by
    cases q : H b with
    | none => rfl
    | some u => exact (n (hA b (by rw [q]; simp))).elim)
  have dictA : ∀ {b : Addr} {q : Str → Option Value}, s₁.heap.Ns b q → (hidT s₁.heap H).Ns b q := fun {b q} z => by
    obtain ⟨o, es, ep, e, d, r⟩ := z
    refine ⟨o, es, ep, free e fun z => ?_, d, r⟩
    subst z
    rw [ha] at e
    cases e
    have d' : Data.seq vs.toArray _ = Data.dict es ep := d
    cases d'
  have kin : K.In (hidT s₁.heap H) := fun b o e => by
    refine hidT_get (KX b o e) ?_
    cases q : H b with
    | none => rfl
    | some u =>
      obtain rfl := hA b (by rw [q]; simp)
      rw [hK (by rw [q]; simp)] at e
      cases e
  obtain ⟨mc, l1, l2⟩ := hlim
  have env : Env0 P w K mg (hidT s₁.heap H) callerA [] s₁ H :=
    { frames := rfl, mod := ⟨kin, dictA hns, ⟨mb, dictA hb0, hbb⟩, ⟨mc, dictA l1, l2⟩⟩, bs := fun b o e => of_hidT e, bsz := Nat.le_of_eq (hidT_size _ _), funs := trivial, frf := fun b hb => absurd (show b ∈ ([] : List Addr) from hb) (by simp), hok := hok, bare := .of_eq hgen }
  obtain ⟨T, hT⟩ := hL ns hlen
  have prom : spM g 1 m [.ref a] H (fun v _ => v = .bl true) (fun _ _ _ => False) := by
    refine ⟨rfl, [.loc 0], _, [a], sim_script hg hS, .cons (.loc rfl) .nil, ?_⟩
    rw [hT]
    intro ρ' H' v e s r
    cases r
    rfl
  refine codeAny_mono ((F _ kin (dictA hns)).run callerA [] s₁ H ⟨[.ref a], []⟩ [.ref a] [.ref a] _ _ hr rfl env (hbind s₁ (.ref a)) (.cons rfl .nil) prom) fun r s' h => ?_
  cases r with
  | error e =>
    obtain ⟨_, _, _, _, _, _, _, _, _, _, _, _, z⟩ := h
    exact z.elim
  | ok fl =>
    cases fl with
    | ret u =>
      obtain ⟨v, H', os, bare, un, hok', r', q⟩ := h
      obtain rfl : v = .bl true := q
      obtain rfl : u = Value.bool true := r'
      refine ⟨rfl, OldK.of_keep fun b o e => ?_, os, bare⟩
      cases q : H b with
      | none => exact un.keep b o e q (fun z => absurd (show b ∈ ([] : List Addr) from z) (by simp)) (by simp)
      | some u =>
        rcases hO b with z | ⟨ob, xs, z⟩
        · rw [q] at z
          cases z
        · have e1 := (hok b _ z).1
          have e2 := (hok' b _ (un.frzs b ob _ z)).1
          rw [e] at e1
          cases e1
          exact e2
    | _ => exact h.elim
theorem law_g (hg : g.K = K) (hL : LawOk m) (hlen : ns.length ≤ 63) (hb0 : s₁.heap.Ns builtinsNs mb) (hbb : ∀ x : Str, x ≠ "__name__" → mb x = bootBuiltins x) (hlim : s₁.heap.NoLimit) (hgen : s₁.gens = #[]) (KX : K.In s₁.heap) (hns : s₁.heap.Ns mainGlobals mg)
    (ha : s₁.heap.get? a = some { cls := .type "list", data := .seq vs.toArray }) (hi : PyProof.Rows.IntsAre vs ns) (hr : Room k callerA) (F : ∀ base : Heap, K.In base → base.Ns mainGlobals mg → FnG P w K mg base k fa fd [x] (spM g 1 m)) (hbind : ∀ (s : Shared) (u : Value), BindsTo s fd ⟨[u], []⟩ [(x, u)]) :
    codeAny (model P w) callerA (.call (.ref fa) ⟨[.ref a], []⟩) (fun r s' => r = .ok (.ret (.bool true)) ∧ OldK s₁.heap s'.heap ∧ s'.os = s₁.os ∧ AllBare s'.gens) s₁ := by
  have rv := vals_ints hi
  have hz : ns.length ≤ sizeLine := Nat.le_trans hlen (by decide)
  cases hk : K.lookup a with
  | some o =>
    have e := KX a o hk
    rw [ha] at e
    cases e
    refine law_core hg hL hlen hb0 hbb hlim hgen KX hns ha hr F hbind (fun _ => none) (fun _ => .inl rfl) (.inr fun H' => .inr ⟨_, vs.toArray, _, hk, rfl, rfl, rfl, ?_, by simpa using rv⟩) (fun b u z => absurd (show (none : Option HO) = some u from z) (by simp)) (fun b z => absurd rfl z) (fun z => absurd rfl z)
    rw [List.size_toArray, hi.length]
    exact hz
  | none =>
    refine law_core hg hL hlen hb0 hbb hlim hgen KX hns ha hr F hbind (fun b => if b = a then some (.frz { cls := .type "list", data := .seq vs.toArray } (.lst (ns.map V.int))) else none) (fun b => ?_) (.inl ⟨_, if_pos rfl⟩) (fun b u z => ?_) (fun b z => ?_) (fun _ => hk)
    all_goals by_cases hb : b = a
    · exact .inr ⟨_, _, if_pos hb⟩
    · exact .inl (if_neg hb)
    · subst hb
      have q := (if_pos rfl).symm.trans z
      cases q
      exact ⟨ha, by rw [List.length_map]; exact hz, vs, _, rv, ha⟩
    · have q := (if_neg hb).symm.trans z
      cases q
    · exact hb
    · exact absurd (if_neg hb) z
end
/-- the goal that the head leaves -/
theorem walk_g {l : PySem.W.OpenLaw} {k : Nat} {q : Program} {loose : List Str} {XP : (Str → Option Value) → Heap → Prop} {YP : World → Heap → Prop} {d : DefRec} {K : Params → PySem.W.Frag} {x : Str} {m : List Va → Sto → Rs Va} (hL : LawOk m) (hn : l.most = some 63) (hdf : d.params.defaults = []) (hr : Room k callerA)
    (hY : ∀ (w : World) (h : Heap), YP w h → (K w.params).In h)
    (F : ∀ (w : World) (mg : Str → Option Value) (fa : Addr) (h : Heap), (K w.params).In h → h.Ns mainGlobals mg → mg d.name = some (.ref fa) → ∃ (g : G) (fd : FuncData), g.K = K w.params ∧ (∀ (s : Shared) (u : Value), BindsTo s fd ⟨[u], []⟩ [(x, u)]) ∧
        ∀ base : Heap, (K w.params).In base → base.Ns mainGlobals mg → FnG l.prog w (K w.params) mg base k fa fd [x] (spM g 1 m)) : PySem.W.WalkO q loose XP YP l.row.toRowW d [] (fun f vs => PySem.call f vs) :=
  Att.attach_call hn hdf fun w s₀ s₁ mg mb fa o pm cd doc a vs ns Gr Y ho hd hcd hmg hobj hints hlen hg => by
    have KX := hY w _ Y
    obtain ⟨g, fd, hgK, hb, hF⟩ := F w mg fa _ KX Gr.T.g hmg
    exact law_g hgK hL hlen Gr.T.b Gr.T.builtins Gr.T.nolimit hg KX Gr.T.g hobj hints hr hF hb
end Rz
namespace Rz
open PySem PySem.Spec PyProof.Rows L2
/-- a def of the text as the top has left it -/
structure FnT (K : PySem.W.Frag) (mg : Str → Option Value) (nm qual : Str) (st : Stmt) (ps : List Str) (f : Addr) (fd : FuncData) : Prop where
  F : Fun K nm qual st f fd
  m : mg nm = some (.ref f)
  b : Binds K fd ps []
/-- a def that may be called by its name: its meaning is m -/
structure Cal (P : Program) (w : World) (K : PySem.W.Frag) (mg : Str → Option Value) (base : Heap) (g : G) (nm : Str) (k n : Nat) (m : List Va → Sto → Rs Va) : Prop where
  ex : ∃ f fd ps, FnG P w K mg base k f fd ps (spM g n m) ∧ mg nm = some (.ref f) ∧ PySem.W.keepIn K (.ref f) = true ∧ Binds K fd ps []
theorem FnT.cal {P : Program} {w : World} {K : PySem.W.Frag} {mg : Str → Option Value} {base : Heap} {g : G} {nm qual : Str} {st : Stmt} {ps : List Str} {f : Addr} {fd : FuncData} {k n : Nat} {m : List Va → Sto → Rs Va} (T : FnT K mg nm qual st ps f fd)
    (F : FnG P w K mg base k f fd ps (spM g n m)) : Cal P w K mg base g nm k n m := ⟨f, fd, ps, F, T.m, T.F.kp, T.b⟩
/-- an exception class of the text, without an __init__ of its own -/
structure ExT (K : PySem.W.Frag) (mg : Str → Option Value) (nm : Str) (C : Addr) : Prop where
  m : mg nm = some (.ref C)
  x : PySem.W.excIn K C [.type "ValueError", .type "Exception", .type "BaseException", .type "object"] "ValueError.__new__" = true
  kp : PySem.W.keepIn K (.ref C) = true
  b : PySem.W.subIn K (.ref C) (.type "BaseException") = some true
  t : PySem.W.typeIn K (.ref C) = some (.type "type")
section
variable {X : Cx} {g : G} {Wx : WX} {k : Nat} {pos : Pos} {a b c : Expr} {es : List Expr} {x y z : XE} {r : XA}
theorem se_calld (o : XO X g Wx k) {j n : Nat} {nm : Str} {p : Pos} {m : List Va → Sto → Rs Va} (C : Cal X.prog X.w X.K X.mg X.base g nm j n m) (hj : j ≤ k) (ha : SA X g Wx (a :: es) r) (hg : Gl X nm := by rfl) (hdb : (nm == ("__debug__" : Str)) = false := by decide)
    (he : starEach (a :: es) X.env = (false, eval a X.env) :: starEach es X.env := by rfl) (hpl : (backTo pos (starEach es X.env)).any (·.1) = false := by rfl) : SE X g Wx (.Call (.Name nm p) (a :: es) [] pos) (ycall n m r) := by
  obtain ⟨f, fd, ps, F, hm, hk, hb⟩ := C.ex
  exact se_call o F hj hm hk hb ha hg hdb he hpl
theorem se_calld0 (o : XO X g Wx k) {j n : Nat} {nm : Str} {p : Pos} {m : List Va → Sto → Rs Va} (C : Cal X.prog X.w X.K X.mg X.base g nm j n m) (hj : j ≤ k) (hg : Gl X nm := by rfl) (hdb : (nm == ("__debug__" : Str)) = false := by decide) :
    SE X g Wx (.Call (.Name nm p) [] [] pos) (ycall n m anil) := by
  obtain ⟨f, fd, ps, F, hm, hk, hb⟩ := C.ex
  exact se_call0 o F hj hm hk hb hg hdb
theorem ss_raised (o : XO X g Wx k) (c : Nat) {n m : Str} {j : Nat} {p2 pos' pos2 : Pos} (E : ExT X.K X.mg n (g.cls c)) (hg : Gl X n := by rfl) (hdb : (n == ("__debug__" : Str)) = false := by decide) :
    SS X g Wx (.Raise (some (.Call (.Name n p2) [.Constant (.str m) j pos2] [] pos')) none pos) (sraise c) := ss_raise o PySem.F.excBase_ValueError E.x E.m E.kp (raises_own E.b E.t) hg hdb
theorem se_add (o : XO X g Wx k) (ha : SE X g Wx a x) (hb : SE X g Wx b y) : SE X g Wx (.BinOp a .Add b pos) (xbin oAdd x y) := se_bin or_add (o.K ▸ os_add) ha hb
theorem se_sub (ha : SE X g Wx a x) (hb : SE X g Wx b y) : SE X g Wx (.BinOp a .Sub b pos) (xbin oSub x y) := se_bin op_sub os_sub ha hb
theorem se_mul (ha : SE X g Wx a x) (hb : SE X g Wx b y) : SE X g Wx (.BinOp a .Mult b pos) (xbin oMul x y) := se_bin or_mul os_mul ha hb
theorem se_div (ha : SE X g Wx a x) (hb : SE X g Wx b y) : SE X g Wx (.BinOp a .FloorDiv b pos) (xbin oDiv x y) := se_bin op_fdiv os_div ha hb
theorem se_mod (ha : SE X g Wx a x) (hb : SE X g Wx b y) : SE X g Wx (.BinOp a .Mod b pos) (xbin oMod x y) := se_bin op_mod os_mod ha hb
theorem se_pow (ha : SE X g Wx a x) (hb : SE X g Wx b y) : SE X g Wx (.BinOp a .Pow b pos) (xbin oPow x y) := se_bin op_pow os_pow ha hb
theorem se_shl (ha : SE X g Wx a x) (hb : SE X g Wx b y) : SE X g Wx (.BinOp a .LShift b pos) (xbin oShl x y) := se_bin op_shl os_shl ha hb
theorem hu64 (o : XO X g Wx k) : X.A.units + 64 < cLine := o.room.units
theorem or_eq (o : XO X g Wx k) : OpR X (compareOp .Eq) (rOr rEq (rEqD g.K)) := o.K ▸ OpR.or op_eq (op_eqD (hu64 o))
theorem or_ne (o : XO X g Wx k) : OpR X (compareOp .NotEq) (rOr rNe (rNeD g.K)) := o.K ▸ OpR.or op_ne (op_neD (hu64 o))
theorem sq_isN {j : Nat} {p' : Pos} (ha : SE X g Wx a x) : SQ X g Wx (.Compare a [.Is] [.Constant .none j p'] pos) (xisN x) :=
  pt_imp (pt_cmp (pc_isN ha)) fun σ H Q ⟨δ, S, ρ, sm, se, h⟩ => ⟨δ, S, ρ, sm, se, wpR.imp (wpR.bind (rel := Rel g) h) fun v H1 ⟨ρ1, w, S1, e1, s1, r1, h1⟩ => by
    rw [r1.nonq]
    cases w <;> exact ⟨_, rfl, h1.fin s1 rfl⟩⟩
theorem sq_notN {j : Nat} {p' : Pos} (ha : SE X g Wx a x) : SQ X g Wx (.Compare a [.IsNot] [.Constant .none j p'] pos) (xnot (xisN x)) :=
  pt_imp (pt_cmp (pc_notN ha)) fun σ H Q ⟨δ, S, ρ, sm, se, h⟩ => ⟨δ, S, ρ, sm, se, wpR.imp (wpR.bind (rel := Rel g) (wpR.bind (rel := relB) h)) fun v H1 ⟨ρ1, w, S1, e1, s1, r1, h1⟩ => by
    rw [r1.nonq]
    cases w <;> (obtain ⟨ρ2, a2, S2, e2, s2, r2, h2⟩ := h1.fin s1 rfl; cases r2; exact ⟨_, rfl, h2.fin s2 rfl⟩)⟩
/-- a, b = e -/
@[simp] def sasg (p : XP) (x : XE) : XS := fun δ S => (x δ S).out δ fun w S1 => match p w δ with
  | some δ' => .nx δ' S1
  | none => .bad
theorem ss_asg (o : XO X g Wx k) {tg e : Expr} {p : XP} {sl : List Nat} (he : SE X g Wx e x) (hp : SG X g tg p sl) (hs : swapsWithSole [tg] e pos.line X.env = pure false := by rfl) (hw : swappedStores [tg] e X.env = pure none := by rfl)
    (h1 : (assignEach [tg] X.env).map (·.2) = [assign tg X.env] := by rfl) : SS X g Wx (.Assign [tg] e pos) (sasg p x) :=
  ps_imp (ps_asg he hp hs hw h1) fun D σ H ⟨δ, S, ρ, sm, se, h⟩ => ⟨δ, S, ρ, sm, se, wpR.imp (wpR.out (rel := Rel g) se h) fun v H1 ⟨ρ1, w, S1, e1, s1, r1, h1⟩ => by
    cases hp : p w δ with
    | none => rw [hp] at h1; exact h1.elim
    | some δ' =>
      rw [hp] at h1
      exact ⟨δ, w, ρ1, δ', r1, se.mono e1, hp, fun σ' se' _ _ => h1 ρ1 H1 σ' .refl s1 se'⟩⟩
/-- -x -/
@[simp] def oNeg (a : Va) (S : Sto) : Rs Va := match a with
  | .int i => .ok (.int (-i)) S
  | _ => .bad
theorem se_neg (ha : SE X g Wx a x) : SE X g Wx (.UnaryOp .USub a pos) (xun oNeg x) :=
  pe_imp (pe_un un_neg ha) fun σ H Q ⟨δ, S, ρ, sm, se, h⟩ => ⟨δ, S, ρ, sm, se, wpR.imp (wpR.bind (rel := Rel g) h) fun v H1 ⟨ρ1, w, S1, e1, s1, r1, h1⟩ => by
    cases r1 with
    | int i => exact ⟨i, rfl, h1.fin s1 (.int _)⟩
    | _ => exact h1.elim⟩
end
end Rz
namespace Rz
open PySem L2
/-! ### reckoning with meanings -/
@[simp] theorem bind_ok {α β : Type} (a : α) (S : Sto) (f : α → Sto → Rs β) : (Rs.ok a S).bind f = f a S := rfl
@[simp] theorem bind_ex {α β : Type} (c : Nat) (fs : List Va) (S : Sto) (f : α → Sto → Rs β) : (Rs.ex c fs S : Rs α).bind f = .ex c fs S := rfl
@[simp] theorem out_ok {α : Type} (a : α) (S : Sto) (δ : Env) (f : α → Sto → Out) : (Rs.ok a S).out δ f = f a S := rfl
@[simp] theorem out_ex {α : Type} (c : Nat) (fs : List Va) (S : Sto) (δ : Env) (f : α → Sto → Out) : (Rs.ex c fs S : Rs α).out δ f = .ex c fs δ S := rfl
@[simp] theorem bad_bind {α β : Type} (f : α → Sto → Rs β) : (Rs.bad : Rs α).bind f = .bad := rfl
@[simp] theorem bad_out {α : Type} (δ : Env) (f : α → Sto → Out) : (Rs.bad : Rs α).out δ f = .bad := rfl
@[simp] theorem bad_next (f : XS) : Out.bad.next f = .bad := rfl
@[simp] theorem bad_fin : Out.bad.fin = .bad := rfl
@[simp] theorem next_nx (δ : Env) (S : Sto) (f : XS) : (Out.nx δ S).next f = f δ S := rfl
@[simp] theorem next_rt (w : Va) (S : Sto) (f : XS) : (Out.rt w S).next f = .rt w S := rfl
@[simp] theorem next_ex (c : Nat) (fs : List Va) (δ : Env) (S : Sto) (f : XS) : (Out.ex c fs δ S).next f = .ex c fs δ S := rfl
@[simp] theorem fin_rt (w : Va) (S : Sto) : (Out.rt w S).fin = .ok w S := rfl
@[simp] theorem fin_nx (δ : Env) (S : Sto) : (Out.nx δ S).fin = .ok .non S := rfl
@[simp] theorem fin_ex (c : Nat) (fs : List Va) (δ : Env) (S : Sto) : (Out.ex c fs δ S).fin = .ex c fs S := rfl
section
variable {α β : Type} {p : Prop} [Decidable p]
@[simp] theorem ite_bind (a b : Rs α) (f : α → Sto → Rs β) : (if p then a else b).bind f = if p then a.bind f else b.bind f := by split <;> rfl
@[simp] theorem ite_out (a b : Rs α) (δ : Env) (f : α → Sto → Out) : (if p then a else b).out δ f = if p then a.out δ f else b.out δ f := by split <;> rfl
@[simp] theorem ite_next (a b : Out) (f : XS) : (if p then a else b).next f = if p then a.next f else b.next f := by split <;> rfl
@[simp] theorem ite_fin (a b : Out) : (if p then a else b).fin = if p then a.fin else b.fin := by split <;> rfl
@[simp] theorem ite_ok (a b : α) (S : Sto) : (if p then Rs.ok a S else Rs.ok b S) = Rs.ok (if p then a else b) S := by split <;> rfl
@[simp] theorem ite_rt (a b : Va) (S : Sto) : (if p then Out.rt a S else Out.rt b S) = Out.rt (if p then a else b) S := by split <;> rfl
end
/-- what stood in the store stands -/
def Keep (S S' : Sto) : Prop := ∀ (j : Nat) (o : Ob), S[j]? = some o → S'[j]? = some o
theorem Keep.refl (S : Sto) : Keep S S := fun _ _ h => h
theorem Keep.trans {S S1 S2 : Sto} (a : Keep S S1) (b : Keep S1 S2) : Keep S S2 := fun j o h => b j o (a j o h)
theorem Keep.app (S r : Sto) : Keep S (S ++ r) := fun j o h => by
  have := (List.getElem?_eq_some_iff.mp h).1
  rw [List.getElem?_append_left this]
  exact h
theorem Keep.len {S S' : Sto} (k : Keep S S') : S.length ≤ S'.length := by
  rcases Nat.lt_or_ge S'.length S.length with h | h
  · have e : S[S'.length]? = some S[S'.length] := List.getElem?_eq_getElem h
    have := (List.getElem?_eq_some_iff.mp (k _ _ e)).1
    omega
  · exact h
theorem Keep.set {S S' : Sto} {D : Nat} {o : Ob} (k : Keep S S') (h : S.length ≤ D) : Keep S (S'.set D o) := fun j u e => by
  have := (List.getElem?_eq_some_iff.mp e).1
  rw [List.getElem?_set_ne (by omega)]
  exact k j u e
theorem Keep.getL {S S' : Sto} (k : Keep S S') {l : Nat} {ws : List Va} (h : getL S l = some ws) : Rz.getL S' l = some ws := by
  unfold Rz.getL at h ⊢
  cases e : S[l]? with
  | none => rw [e] at h; cases h
  | some o => rw [k l o e]; rw [e] at h; exact h
theorem get_new (S : Sto) (o : Ob) (r : Sto) : (S ++ o :: r)[S.length]? = some o := by simp
theorem getL_new (S : Sto) (ws : List Va) : getL (S ++ [.lst ws]) S.length = some ws := by
  unfold getL
  rw [get_new]
/-- a for: P holds between the turns -/
theorem forG_inv {nth : Nth} {put : XP} {body : XS} {n : Nat} (P : Nat → Env → Sto → Prop) : ∀ (m i : Nat) (δ : Env) (S : Sto), i + m = n → P i δ S → (∀ i δ S, i < n → P i δ S → ∃ w δ1, nth S i = some (some w) ∧ put w δ = some δ1 ∧ ∃ δ2 S2, (body δ1 S = .nx δ2 S2 ∨ body δ1 S = .ct δ2 S2) ∧ P (i + 1) δ2 S2) → (∀ δ S, P n δ S → nth S n = some none) →
    ∃ δ' S', forG nth put body (m + 1) i δ S = .nx δ' S' ∧ P n δ' S'
  | 0, i, δ, S, e, p, hs, hd => by
    have e' : i = n := by omega
    subst e'
    refine ⟨δ, S, ?_, p⟩
    unfold forG
    rw [hd δ S p]
  | m + 1, i, δ, S, e, p, hs, hd => by
    obtain ⟨w, δ1, h1, h2, δ2, S2, h3, h4⟩ := hs i δ S (by omega) p
    obtain ⟨δ', S', h5, h6⟩ := forG_inv (nth := nth) (put := put) (body := body) P m (i + 1) δ2 S2 (by omega) h4 hs hd
    refine ⟨δ', S', ?_, h6⟩
    unfold forG
    rw [h1]
    dsimp only
    rw [h2]
    dsimp only
    rcases h3 with h3 | h3
    · rw [h3]
      exact h5
    · rw [h3]
      exact h5
theorem for_rng {put : XP} {body : XS} {lo : Int} {n : Nat} {δ : Env} {S : Sto} (P : Nat → Env → Sto → Prop) (h0 : P 0 δ S) (hs : ∀ i δ S, i < n → P i δ S → ∃ δ1, put (.int (lo + (i : Nat))) δ = some δ1 ∧ ∃ δ2 S2, (body δ1 S = .nx δ2 S2 ∨ body δ1 S = .ct δ2 S2) ∧ P (i + 1) δ2 S2) :
    ∃ δ' S', forG (nrng lo n) put body (n + 1) 0 δ S = .nx δ' S' ∧ P n δ' S' := by
  refine forG_inv P n 0 δ S (by omega) h0 (fun i δ S hi p => ?_) fun δ S p => ?_
  · obtain ⟨δ1, h1, h2⟩ := hs i δ S hi p
    exact ⟨_, δ1, by unfold nrng; rw [if_pos hi], h1, h2⟩
  · unfold nrng
    rw [if_neg (by omega)]
theorem for_seq {put : XP} {body : XS} {ws : List Va} {δ : Env} {S : Sto} (P : Nat → Env → Sto → Prop) (h0 : P 0 δ S) (hs : ∀ i w δ S, ws[i]? = some w → P i δ S → ∃ δ1, put w δ = some δ1 ∧ ∃ δ2 S2, (body δ1 S = .nx δ2 S2 ∨ body δ1 S = .ct δ2 S2) ∧ P (i + 1) δ2 S2) :
    ∃ δ' S', forG (nseq ws) put body (ws.length + 1) 0 δ S = .nx δ' S' ∧ P ws.length δ' S' := by
  refine forG_inv P ws.length 0 δ S (by omega) h0 (fun i δ S hi p => ?_) fun δ S p => ?_
  · obtain ⟨δ1, h1, h2⟩ := hs i ws[i] δ S (List.getElem?_eq_getElem hi) p
    exact ⟨_, δ1, by unfold nseq; rw [List.getElem?_eq_getElem hi], h1, h2⟩
  · unfold nseq
    rw [List.getElem?_eq_none (Nat.le_refl _)]
theorem for_loc {put : XP} {body : XS} {l : Nat} {ws : List Va} {δ : Env} {S : Sto} (P : Nat → Env → Sto → Prop) (h0 : P 0 δ S) (hl : ∀ i δ S, P i δ S → getL S l = some ws) (hs : ∀ i w δ S, ws[i]? = some w → P i δ S → ∃ δ1, put w δ = some δ1 ∧ ∃ δ2 S2, (body δ1 S = .nx δ2 S2 ∨ body δ1 S = .ct δ2 S2) ∧ P (i + 1) δ2 S2) :
    ∃ δ' S', forG (nloc l) put body (ws.length + 1) 0 δ S = .nx δ' S' ∧ P ws.length δ' S' := by
  refine forG_inv P ws.length 0 δ S (by omega) h0 (fun i δ S hi p => ?_) fun δ S p => ?_
  · obtain ⟨δ1, h1, h2⟩ := hs i ws[i] δ S (List.getElem?_eq_getElem hi) p
    exact ⟨_, δ1, by unfold nloc; rw [hl i δ S p, Option.map_some, List.getElem?_eq_getElem hi], h1, h2⟩
  · unfold nloc
    rw [hl _ δ S p, Option.map_some, List.getElem?_eq_none (Nat.le_refl _)]
/-- a comprehension: P of what is made so far -/
theorem compG_inv {nth : Nth} {put : XP} {cond : XT} {elt : XE} {D : Nat} {δ : Env} {n : Nat} (P : Nat → List Va → Sto → Prop) : ∀ (m i : Nat) (acc : List Va) (S : Sto), i + m = n → S[D]? = some (.lst acc) → P i acc S →
    (∀ i acc S, i < n → S[D]? = some (.lst acc) → P i acc S → ∃ w δ1 b S1, nth S i = some (some w) ∧ put w δ = some δ1 ∧ cond δ1 S = .ok b S1 ∧ if b = true then ∃ y S2, elt δ1 S1 = .ok y S2 ∧ S2[D]? = some (.lst acc) ∧ acc.length < sizeLine ∧ P (i + 1) (acc ++ [y]) (S2.set D (.lst (acc ++ [y]))) else S1[D]? = some (.lst acc) ∧ P (i + 1) acc S1) →
    (∀ acc S, P n acc S → nth S n = some none) → ∃ acc' S', compG nth put cond elt D δ (m + 1) i S = .ok (.loc D) S' ∧ S'[D]? = some (.lst acc') ∧ P n acc' S'
  | 0, i, acc, S, e, hD, p, hs, hd => by
    have e' : i = n := by omega
    subst e'
    refine ⟨acc, S, ?_, hD, p⟩
    unfold compG
    rw [hd acc S p]
  | m + 1, i, acc, S, e, hD, p, hs, hd => by
    obtain ⟨w, δ1, b, S1, h1, h2, h3, h4⟩ := hs i acc S (by omega) hD p
    cases b with
    | false =>
      have h4' : S1[D]? = some (.lst acc) ∧ P (i + 1) acc S1 := by simpa using h4
      obtain ⟨acc', S', h5, h6, h7⟩ := compG_inv (nth := nth) (put := put) (cond := cond) (elt := elt) (D := D) (δ := δ) P m (i + 1) acc S1 (by omega) h4'.1 h4'.2 hs hd
      refine ⟨acc', S', ?_, h6, h7⟩
      unfold compG
      rw [h1]
      dsimp only
      rw [h2]
      dsimp only
      rw [h3]
      exact h5
    | true =>
      have h4' : ∃ y S2, elt δ1 S1 = .ok y S2 ∧ S2[D]? = some (.lst acc) ∧ acc.length < sizeLine ∧ P (i + 1) (acc ++ [y]) (S2.set D (.lst (acc ++ [y]))) := by simpa using h4
      obtain ⟨y, S2, k1, k2, k3, k4⟩ := h4'
      have hlt := (List.getElem?_eq_some_iff.mp k2).1
      obtain ⟨acc', S', h5, h6, h7⟩ := compG_inv (nth := nth) (put := put) (cond := cond) (elt := elt) (D := D) (δ := δ) P m (i + 1) (acc ++ [y]) (S2.set D (.lst (acc ++ [y]))) (by omega) (List.getElem?_set_self hlt) k4 hs hd
      refine ⟨acc', S', ?_, h6, h7⟩
      unfold compG
      rw [h1]
      dsimp only
      rw [h2]
      dsimp only
      rw [h3]
      dsimp only
      rw [k1]
      dsimp only
      rw [k2]
      dsimp only
      rw [fits_iff.mpr k3]
      exact h5
/-- a pure comprehension: nothing but the new list changes -/
theorem compG_pure {nth : Nth} {put : XP} {cond : XT} {elt : XE} {δ : Env} {ws : List Va} (f : Va → Option Va) (S : Sto) (hz : ws.length ≤ 16777216) (hn : ∀ S' i, Keep S S' → nth S' i = some ws[i]?)
    (hs : ∀ w, w ∈ ws → ∃ δ1, put w δ = some δ1 ∧ ∀ S', Keep S S' → (∃ y, f w = some y ∧ cond δ1 S' = .ok true S' ∧ elt δ1 S' = .ok y S') ∨ (f w = none ∧ cond δ1 S' = .ok false S')) :
    compG nth put cond elt S.length δ (ws.length + 1) 0 (S ++ [.lst []]) = .ok (.loc S.length) (S ++ [.lst (ws.filterMap f)]) := by
  obtain ⟨acc, S', h1, h2, h3, h4⟩ := compG_inv (nth := nth) (put := put) (cond := cond) (elt := elt) (D := S.length) (δ := δ) (n := ws.length) (fun i acc S' => acc = (ws.take i).filterMap f ∧ S' = S ++ [.lst acc]) ws.length 0 [] (S ++ [.lst []]) (by omega) (get_new _ _ _) ⟨rfl, rfl⟩ (fun i acc S1 hi hD ⟨ea, eS⟩ => by
    subst eS
    have kp : Keep S (S ++ [.lst acc]) := Keep.app _ _
    obtain ⟨δ1, k1, k2⟩ := hs ws[i] (List.getElem_mem hi)
    have hw : ws[i]? = some ws[i] := List.getElem?_eq_getElem hi
    have tk : ws.take (i + 1) = ws.take i ++ [ws[i]] := by rw [List.take_succ, hw]; rfl
    rcases k2 _ kp with ⟨y, q1, q2, q3⟩ | ⟨q1, q2⟩
    · refine ⟨ws[i], δ1, true, _, by rw [hn _ _ kp, hw], k1, q2, ?_⟩
      rw [if_pos rfl]
      refine ⟨y, _, q3, hD, ?_, ?_, ?_⟩
      · have : acc.length ≤ (ws.take i).length := by rw [ea]; exact List.length_filterMap_le _ _
        rw [List.length_take] at this
        have hs' : sizeLine = 16777216 := sizeLine_eq
        omega
      · rw [tk, List.filterMap_append, ← ea, List.filterMap_cons, q1]
        rfl
      · simp
    · refine ⟨ws[i], δ1, false, _, by rw [hn _ _ kp, hw], k1, q2, ?_⟩
      rw [if_neg (by decide)]
      refine ⟨hD, ?_, rfl⟩
      rw [tk, List.filterMap_append, ← ea, List.filterMap_cons, q1]
      simp) (fun acc S' ⟨_, e⟩ => by rw [hn _ _ (by rw [e]; exact Keep.app _ _), List.getElem?_eq_none (Nat.le_refl _)])
  rw [h1, h4, h3, List.take_length]
theorem xcomp_at {vs : List Nat} {xi : XI} {put : XP} {cond : XT} {elt : XE} {δ : Env} {S S1 : Sto} {n : Nat} {nth : Nth} (h : xi δ S = .ok (n, nth) S1) : xcomp vs xi put cond elt δ S = compG nth put cond elt S1.length (wipeE δ vs) n 0 (S1 ++ [.lst []]) := by
  unfold xcomp
  rw [h]
  rfl
theorem irg1_at {x : XE} {δ : Env} {S S1 : Sto} {j : Int} {n : Nat} (h : x δ S = .ok (.int j) S1) (hb : big j = true) (hn : j.toNat = n) : irg1 x δ S = .ok (n + 1, nrng 0 n) S1 := by
  unfold irg1
  rw [h, bind_ok]
  dsimp only
  rw [hb, hn]
  rfl
theorem irg2_at {x y : XE} {δ : Env} {S S1 S2 : Sto} {i j : Int} {n : Nat} (h : x δ S = .ok (.int i) S1) (h2 : y δ S1 = .ok (.int j) S2) (hb : (big i && big j) = true) (hn : (j - i).toNat = n) : irg2 x y δ S = .ok (n + 1, nrng i n) S2 := by
  unfold irg2
  rw [h, bind_ok, h2, bind_ok]
  dsimp only
  rw [hb, hn]
  rfl
theorem sfor_at {x : XI} {put : XP} {body : XS} {δ : Env} {S S1 : Sto} {n : Nat} {nth : Nth} (h : x δ S = .ok (n, nth) S1) : sfor x put body δ S = forG nth put body n 0 δ S1 := by
  unfold sfor
  rw [h]
  rfl
theorem llst_eq {ws : List Va} (S : Sto) (h : ws.length ≤ 16777216) : llst ws S = .ok (.loc S.length) (S ++ [.lst ws]) := by
  unfold llst
  rw [fits_of h]
  rfl
theorem ltup_eq {ws : List Va} (S : Sto) (h : ws.length ≤ 16777216) : ltup ws S = .ok (.tup ws) S := by
  unfold ltup
  rw [fits_of h]
  rfl
theorem oApp_eq {S : Sto} {l : Nat} {xs : List Va} {y : Va} (h : S[l]? = some (.lst xs)) (hz : xs.length < 16777216) : oApp (.loc l) [y] S = .ok .non (S.set l (.lst (xs ++ [y]))) := by
  unfold oApp
  dsimp only
  rw [h]
  dsimp only
  rw [fits_of (Nat.succ_le_of_lt hz)]
  rfl
theorem isL_of {S : Sto} {l : Nat} {xs : List Va} (h : S[l]? = some (.lst xs)) : isL (.loc l) S = true := by
  unfold isL getL
  dsimp only
  rw [h]
  rfl
theorem oMul_r {i j : Int} (S : Sto) (h1 : -(2 ^ 64) < j) (h2 : j < 2 ^ 64) : oMul (.int i) (.int j) S = .ok (.int (i * j)) S := by
  have e : mulOk i j = true := by
    unfold mulOk
    rw [Bool.or_eq_true, Bool.and_eq_true, Bool.and_eq_true]
    exact .inr ⟨decide_eq_true h1, decide_eq_true h2⟩
  show cond (mulOk i j) _ _ = _
  rw [e]
  rfl
theorem oMul_l {i j : Int} (S : Sto) (h1 : -(2 ^ 64) < i) (h2 : i < 2 ^ 64) : oMul (.int i) (.int j) S = .ok (.int (i * j)) S := by
  have e : mulOk i j = true := by
    unfold mulOk
    rw [Bool.or_eq_true, Bool.and_eq_true, Bool.and_eq_true]
    exact .inl ⟨decide_eq_true h1, decide_eq_true h2⟩
  show cond (mulOk i j) _ _ = _
  rw [e]
  rfl
end Rz
namespace Rz
open PySem L2
/-! ### how long a repr is -/
mutual
def szD : PyData → Nat
  | .none => 4
  | .bool _ => 5
  | .int _ => 250
  | .str x => 10 * x.length + 2
  | .list xs => szL xs + 3
  | .tuple xs => szL xs + 3
  | .dict _ => 0
def szL : List PyData → Nat
  | [] => 0
  | x :: xs => szD x + 2 + szL xs
end
mutual
def okD : PyData → Bool
  | .none => true
  | .bool _ => true
  | .int i => decide (i.natAbs.log2 < 200)
  | .str x => x.cps.toList.all fun c => decide (c < 16 ^ 8)
  | .list xs => okL xs
  | .tuple xs => okL xs
  | .dict _ => false
def okL : List PyData → Bool
  | [] => true
  | x :: xs => okD x && okL xs
end
theorem textFrom_le : ∀ (ts : List Str) (k : Nat) (acc : Str), (textFrom k acc ts).length ≤ acc.length + piled ts
  | [], k, acc => by show acc.length ≤ acc.length + 0; omega
  | t :: r, k, acc => by
    have ih := textFrom_le r (k + 1) (acc ++ (if k > 0 then ", " else "" : String) ++ t)
    have e : (acc ++ (if k > 0 then ", " else "" : String) ++ t).length ≤ acc.length + 2 + t.length := by
      rw [Str.length_append, Str.length_append]
      have : (Str.ofString (if k > 0 then ", " else "")).length ≤ 2 := by split <;> decide
      have h2 : ((if k > 0 then ", " else "" : String) : Str).length ≤ 2 := this
      omega
    have p : piled (t :: r) = t.length + 2 + piled r := by simp [piled]
    show (textFrom (k + 1) (acc ++ (if k > 0 then ", " else "" : String) ++ t) r).length ≤ _
    omega
theorem listText_le (ts : List Str) : (listText ts).length ≤ piled ts + 2 := by
  unfold listText
  rw [Str.length_append]
  have h := textFrom_le ts 0 "["
  have e1 : (Str.ofString "[").length = 1 := by decide
  have e2 : (Str.ofString "]").length = 1 := by decide
  have e1' : ("[" : Str).length = 1 := e1
  have e2' : ("]" : Str).length = 1 := e2
  omega
theorem tupleText_le (ts : List Str) : (tupleText ts).length ≤ piled ts + 3 := by
  unfold tupleText
  rw [Str.length_append, Str.length_append]
  have e1 : ("(" : Str).length = 1 := by decide
  have e2 : ((if ts.length == 1 then ",)" else ")" : String) : Str).length ≤ 2 := by split <;> decide
  by_cases h : ts = []
  · subst h
    have e3 : (Str.join ", " ([] : List Str)).length = 0 := by decide
    simp only [piled] at *
    omega
  · have := join_length_add ts h
    omega
mutual
theorem shown_le : ∀ d : PyData, okD d = true → d.shown.length ≤ szD d ∧ d.showable = true ∧ d.hasDict = false
  | .none, _ => ⟨by decide, by simp [PyData.showable], by simp [PyData.hasDict]⟩
  | .bool b, _ => ⟨by cases b <;> decide, by simp [PyData.showable], by simp [PyData.hasDict]⟩
  | .int i, h => by
    have h' : i.natAbs.log2 < 200 := by simpa [okD] using h
    refine ⟨?_, by simp [PyData.showable]; omega, by simp [PyData.hasDict]⟩
    have := PySem.int_text_length_le (a := i) (by decide : 0 < 200) h'
    simp only [PyData.shown, szD]
    have e : (Str.ofString (toString i)).length ≤ 201 := by rw [PySem.ofString_length]; exact this
    show (Str.ofString (toString i)).length ≤ 250
    omega
  | .str x, h => by
    have h' : ∀ c ∈ x.cps.toList, c < 16 ^ 8 := fun c hc => by
      have q : (x.cps.toList.all fun c => decide (c < 16 ^ 8)) = true := by simpa only [okD] using h
      exact of_decide_eq_true (List.all_eq_true.mp q c hc)
    refine ⟨?_, by simp [PyData.showable], by simp [PyData.hasDict]⟩
    have := StrLaws.reprText_len x h'
    simp only [PyData.shown, szD]
    omega
  | .list xs, h => by
    have h' : okL xs = true := by simpa [okD] using h
    obtain ⟨h1, h2, h3⟩ := shownL_le xs h'
    refine ⟨?_, by simpa [PyData.showable] using h2, by simpa [PyData.hasDict] using h3⟩
    have := listText_le (PyData.shownAll xs)
    simp only [PyData.shown, szD]
    omega
  | .tuple xs, h => by
    have h' : okL xs = true := by simpa [okD] using h
    obtain ⟨h1, h2, h3⟩ := shownL_le xs h'
    refine ⟨?_, by simpa [PyData.showable] using h2, by simpa [PyData.hasDict] using h3⟩
    have := tupleText_le (PyData.shownAll xs)
    simp only [PyData.shown, szD]
    omega
  | .dict _, h => by simp [okD] at h
theorem shownL_le : ∀ ds : List PyData, okL ds = true → piled (PyData.shownAll ds) ≤ szL ds ∧ PyData.showableAll ds = true ∧ PyData.hasDictAll ds = false
  | [], _ => ⟨by simp [PyData.shownAll, piled, szL], by simp [PyData.showableAll], by simp [PyData.hasDictAll]⟩
  | d :: ds, h => by
    have h' : okD d = true ∧ okL ds = true := by simpa [okL] using h
    obtain ⟨a1, a2, a3⟩ := shown_le d h'.1
    obtain ⟨b1, b2, b3⟩ := shownL_le ds h'.2
    refine ⟨?_, by simp [PyData.showableAll, a2, b2], by simp [PyData.hasDictAll, a3, b3]⟩
    have p : piled (PyData.shownAll (d :: ds)) = d.shown.length + 2 + piled (PyData.shownAll ds) := by simp [PyData.shownAll, piled]
    simp only [szL]
    omega
end
/-- repr of plain data -/
theorem fRepr_eq {w : Va} {S : Sto} {d : PyData} (h : toD S 64 w = some d) (h1 : okD d = true) (h2 : szD d ≤ 16777216) (h3 : d.depth ≤ 100) : fRepr [w] S = .ok (.str d.shown) S := by
  obtain ⟨a1, a2, a3⟩ := shown_le d h1
  have hz : sizeLine = 16777216 := sizeLine_eq
  unfold fRepr
  dsimp only
  rw [h]
  dsimp only
  rw [a2, a3]
  have e : (true && !false && decide (d.depth ≤ 100) && decide (d.shown.length ≤ sizeLine)) = true := by simp; omega
  rw [e]
  rfl
/-- the ints of a list -/
theorem allD_ints (S : Sto) (n : Nat) : ∀ ns : List Int, allD (toD S (n + 1)) (ns.map .int) = some (ns.map .int)
  | [] => rfl
  | i :: r => by
    have ih := allD_ints S n r
    show (match toD S (n + 1) (.int i), allD (toD S (n + 1)) (r.map .int) with | some d, some ds => some (d :: ds) | _, _ => none) = _
    rw [ih]
    rfl
theorem toD_list {S : Sto} {l : Nat} {ws : List Va} {ds : List PyData} {n : Nat} (h : getL S l = some ws) (h2 : allD (toD S n) ws = some ds) : toD S (n + 1) (.loc l) = some (.list ds) := by
  show (match getL S l with | some ws => (allD (toD S n) ws).map PyData.list | none => none) = _
  rw [h]
  dsimp only
  rw [h2]
  rfl
theorem okL_ints : ∀ ns : List Int, (∀ i ∈ ns, i.natAbs.log2 < 200) → okL (ns.map .int) = true
  | [], _ => by simp [okL]
  | i :: r, h => by
    have := okL_ints r fun j hj => h j (List.mem_cons_of_mem _ hj)
    simp [okL, okD, this, h i List.mem_cons_self]
theorem szL_ints : ∀ ns : List Int, szL (ns.map .int) = 252 * ns.length
  | [] => rfl
  | i :: r => by
    have := szL_ints r
    simp only [List.map_cons, szL, szD, this, List.length_cons]
    omega
theorem depth_ints : ∀ ns : List Int, PyData.depthAll (ns.map .int) = 0
  | [] => rfl
  | i :: r => by
    have := depth_ints r
    simp [PyData.depthAll, PyData.depth, this]
theorem lay_ints : ∀ ns : List Int, PyData.canLayAll0 (ns.map .int) = true
  | [] => by simp [PyData.canLayAll0]
  | i :: r => by
    have := lay_ints r
    simp [PyData.canLayAll0, PyData.canLay0, this]
theorem log2_small {i : Int} (h : i.natAbs < 2 ^ 64) : i.natAbs.log2 < 200 := by
  by_cases e : i.natAbs = 0
  · rw [e]; decide
  · have := (Nat.log2_lt e (k := 64)).mpr h
    omega
theorem fRepr_ints {S : Sto} {l : Nat} {ns : List Int} (h : getL S l = some (ns.map .int)) (h1 : ∀ i ∈ ns, i.natAbs < 2 ^ 64) (h2 : ns.length ≤ 60000) : fRepr [.loc l] S = .ok (.str (PyData.shown (.list (ns.map .int)))) S :=
  fRepr_eq (toD_list h (allD_ints S 62 ns)) (by simp only [okD]; exact okL_ints ns fun i hi => log2_small (h1 i hi)) (by simp only [szD]; rw [szL_ints]; omega) (by simp only [PyData.depth]; rw [depth_ints]; omega)
theorem fRepr_int {S : Sto} {i : Int} (h : i.natAbs < 2 ^ 64) : fRepr [.int i] S = .ok (.str (toString i)) S :=
  fRepr_eq (d := .int i) rfl (by simp only [okD]; exact decide_eq_true (log2_small h)) (by simp only [szD]; omega) (by simp only [PyData.depth]; omega)
theorem cEq_str (x y : Str) (S : Sto) : cEq (.str x) (.str y) S = .ok (decide (x = y)) S := rfl
theorem cEq_int (x y : Int) (S : Sto) : cEq (.int x) (.int y) S = .ok (decide (x = y)) S := rfl
/-- two lists of the same ints -/
theorem cEq_ints {S : Sto} {l m : Nat} {ns : List Int} (h : getL S l = some (ns.map .int)) (h' : getL S m = some (ns.map .int)) : cEq (.loc l) (.loc m) S = .ok true S := by
  unfold cEq
  show deepE (.loc l) (.loc m) S = _
  unfold deepE
  rw [toD_list h (allD_ints S 62 ns), toD_list h' (allD_ints S 62 ns)]
  dsimp only
  have e : SeqAt.shaped (.list (ns.map .int)) = true := by
    unfold SeqAt.shaped
    rw [Bool.and_eq_true]
    refine ⟨by simp only [PyData.canLay0]; exact lay_ints ns, decide_eq_true ?_⟩
    simp only [PyData.depth]
    rw [depth_ints]
    omega
  rw [e]
  show (bif true && true then Rs.ok (PyData.eqv _ _) S else .bad) = _
  show Rs.ok (PyData.eqv _ _) S = _
  have q : ∀ ms : List Int, PyData.eqvAll (ms.map .int) (ms.map .int) = true := by
    intro ms
    induction ms with
    | nil => simp [PyData.eqvAll]
    | cons a r ih => simp [PyData.eqvAll, PyData.eqv, ih]
  simp only [PyData.eqv]
  rw [q]
end Rz
namespace Law
open PySem PySem.Spec PyProof.Rows L2 Rz
set_option maxRecDepth 100000
set_option maxHeartbeats 4000000
def top (i : Nat) : Stmt := PySem.Challenge.pw_loosecursors_k02_bits.main.body.getD i (.Pass ⟨0, 0, 0, 0⟩)
abbrev s__law_turned : Stmt := top 20
def l__law_turned_0 : XS := (sseq (sset 6 (xbin oAdd (xvar 6) (xbin oMul (xvar 5) (xvar 4))))
  (sset 5 (xbin oMul (xvar 5) (xlit (.int 2)))))
def l__law_turned_1 : XS := (sseq (sexp (xmetL oApp (xvar 2) (acons (xbin oMod (xcall fInt (acons (xvar 0) anil)) (xlit (.int 2))) anil)))
  (sset 0 (xbin oDiv (xvar 0) (xlit (.int 2)))))
def b__law_turned : XS := (sseq (sset 2 (xlst anil))
  (sseq (sfor (irg1 (xvar 1)) (pname 3) l__law_turned_1)
  (sseq (sasg (ptup 2 (pcons (pname 5) (pcons (pname 6) pnil))) (xtup (acons (xlit (.int 1)) (acons (xlit (.int 0)) anil))))
  (sseq (sfor (isq (xun oRev (xvar 2))) (pname 4) l__law_turned_0)
  (sret (xvar 6))))))
def m__law_turned : List Va → Sto → Rs Va := mkFn 7 b__law_turned
abbrev s_is_integer : Stmt := top 8
def b_is_integer : XS := (sret (xandV (xcall fIsi (acons (xvar 0) (acons (xlit (.ty 2)) anil))) (xnotV (xcall fIsi (acons (xvar 0) (acons (xlit (.ty 1)) anil))))))
def m_is_integer : List Va → Sto → Rs Va := mkFn 1 b_is_integer
abbrev s_is_between : Stmt := top 9
def b_is_between : XS := (sret (xandV (ycall 1 m_is_integer (acons (xvar 0) anil)) (xboo (xchain cLe cLe (xvar 1) (xvar 0) (xvar 2)))))
def m_is_between : List Va → Sto → Rs Va := mkFn 3 b_is_between
abbrev s_is_width : Stmt := top 10
def b_is_width : XS := (sret (ycall 3 m_is_between (acons (xvar 0) (acons (xlit (.int 0)) (acons (xlit (.int 5)) anil)))))
def m_is_width : List Va → Sto → Rs Va := mkFn 1 b_is_width
abbrev s__check_width : Stmt := top 17
def b__check_width : XS := (sif (xnot (xtru (ycall 1 m_is_width (acons (xvar 0) anil)))) (sraise 1) snext)
def m__check_width : List Va → Sto → Rs Va := mkFn 1 b__check_width
abbrev s_buckets_of : Stmt := top 13
def b_buckets_of : XS := (sret (xbin oShl (xlit (.int 1)) (xvar 0)))
def m_buckets_of : List Va → Sto → Rs Va := mkFn 1 b_buckets_of
abbrev s_is_hash : Stmt := top 11
def b_is_hash : XS := (sret (ycall 3 m_is_between (acons (xvar 0) (acons (xlit (.int 0)) (acons (xlit (.int 31)) anil)))))
def m_is_hash : List Va → Sto → Rs Va := mkFn 1 b_is_hash
abbrev s_check_hash : Stmt := top 12
def b_check_hash : XS := (sif (xnot (xtru (ycall 1 m_is_hash (acons (xvar 0) anil)))) (sraise 2) snext)
def m_check_hash : List Va → Sto → Rs Va := mkFn 1 b_check_hash
abbrev s_bucket : Stmt := top 14
def b_bucket : XS := (sseq (sexp (ycall 1 m__check_width (acons (xvar 1) anil)))
  (sseq (sexp (ycall 1 m_check_hash (acons (xvar 0) anil)))
  (sret (xbin oMod (xvar 0) (ycall 1 m_buckets_of (acons (xvar 1) anil))))))
def m_bucket : List Va → Sto → Rs Va := mkFn 2 b_bucket
abbrev s__check_number : Stmt := top 18
def b__check_number : XS := (sif (xnot (xtru (ycall 3 m_is_between (acons (xvar 0) (acons (xlit (.int 0)) (acons (xbin oSub (ycall 1 m_buckets_of (acons (xvar 1) anil)) (xlit (.int 1))) anil)))))) (sraise 3) snext)
def m__check_number : List Va → Sto → Rs Va := mkFn 2 b__check_number
abbrev s_turned : Stmt := top 15
def l_turned_0 : XS := (sseq (sset 3 (xbin oAdd (xbin oMul (xvar 3) (xlit (.int 2))) (xbin oMod (xvar 2) (xlit (.int 2)))))
  (sset 2 (xbin oDiv (xvar 2) (xlit (.int 2)))))
def b_turned : XS := (sseq (sexp (ycall 1 m__check_width (acons (xvar 1) anil)))
  (sseq (sexp (ycall 2 m__check_number (acons (xvar 0) (acons (xvar 1) anil))))
  (sseq (sset 2 (xvar 0))
  (sseq (sset 3 (xlit (.int 0)))
  (sseq (sfor (irg1 (xvar 1)) (pname 4) l_turned_0)
  (sret (xvar 3)))))))
def m_turned : List Va → Sto → Rs Va := mkFn 5 b_turned
abbrev s_within : Stmt := top 16
def b_within : XS := (sseq (sexp (ycall 1 m__check_width (acons (xvar 1) anil)))
  (sseq (sexp (ycall 1 m__check_width (acons (xvar 2) anil)))
  (sseq (sexp (ycall 2 m__check_number (acons (xvar 0) (acons (xvar 1) anil))))
  (sseq (sif (xbinB cGt (xvar 1) (xvar 2)) (sraise 3) snext)
  (sret (xcall fLR3 (acons (xvar 0) (acons (ycall 1 m_buckets_of (acons (xvar 2) anil)) (acons (ycall 1 m_buckets_of (acons (xvar 1) anil)) anil)))))))))
def m_within : List Va → Sto → Rs Va := mkFn 3 b_within
abbrev s_law : Stmt := top 21
def l_law_3 : XS := (sseq (sset 8 (ycall 3 m_within (acons (xvar 6) (acons (xvar 2) (acons (xvar 5) anil)))))
  (sseq (sif (xbinB cNe (xcall fRepr (acons (xvar 8) anil)) (xcall fRepr (acons (xcomp [9] (irg1 (xvar 4)) (pname 9) (xbinB cEq (xbin oMod (xcall fInt (acons (xvar 9) anil)) (xvar 1)) (xvar 6)) (xvar 9)) anil))) (sret (xlit (.bl false))) snext)
  (sexp (xmetL oApp (xvar 8) (acons (xun oNeg (xlit (.int 1))) anil)))))
def l_law_2 : XS := (sfor (irg1 (xlit (.int 2))) (pname 7) l_law_3)
def l_law_1 : XS := (sseq (sfor (irg1 (xvar 1)) (pname 6) l_law_2)
  (sset 4 (xbin oMul (xvar 4) (xlit (.int 2)))))
def l_law_4 : XS := (sif (xor (xbinB cIsn (ycall 1 m_is_hash (acons (xvar 3) anil)) (xlit (.bl true))) (xbinB cNe (xcall fRepr (acons (ycall 2 m_bucket (acons (xvar 3) (acons (xvar 2) anil))) anil)) (xcall fRepr (acons (xbin oMod (xcall fInt (acons (xvar 3) anil)) (xvar 1)) anil)))) (sret (xlit (.bl false))) snext)
def l_law_0 : XS := (sseq (sif (xbinB cIsn (ycall 1 m_is_width (acons (xvar 2) anil)) (xlit (.bl true))) (sret (xlit (.bl false))) snext)
  (sseq (sfor (irg1 (xlit (.int 32))) (pname 3) l_law_4)
  (sseq (sif (xbinB cNe (xcomp [6] (irg1 (xvar 1)) (pname 6) xyes (ycall 2 m_turned (acons (xvar 6) (acons (xvar 2) anil)))) (xcomp [6] (irg1 (xvar 1)) (pname 6) xyes (ycall 2 m__law_turned (acons (xvar 6) (acons (xvar 2) anil))))) (sret (xlit (.bl false))) snext)
  (sseq (sset 4 (xvar 1))
  (sseq (sfor (irg2 (xvar 2) (xlit (.int 6))) (pname 5) l_law_1)
  (sset 1 (xbin oMul (xvar 1) (xlit (.int 2)))))))))
def b_law : XS := (sseq (sset 1 (xlit (.int 1)))
  (sseq (sfor (irg1 (xlit (.int 6))) (pname 2) l_law_0)
  (sret (xboo (xbinB cEq (ycall 2 m_turned (acons (ycall 2 m_turned (acons (xlit (.int 13)) (acons (xlit (.int 5)) anil))) (acons (xlit (.int 5)) anil))) (xlit (.int 13)))))))
def m_law : List Va → Sto → Rs Va := mkFn 10 b_law
structure Tx (K : PySem.W.Frag) (mg : Str → Option Value) (cls : Nat → Addr) : Prop where
  z_bool : mg "bool" = none
  z_int : mg "int" = none
  z_isinstance : mg "isinstance" = none
  z_list : mg "list" = none
  z_range : mg "range" = none
  z_repr : mg "repr" = none
  c_GREATEST_HASH : ∃ t, mg "GREATEST_HASH" = some (.int 31 t)
  c_GREATEST_WIDTH : ∃ t, mg "GREATEST_WIDTH" = some (.int 5 t)
  e_InvalidHash : ExT K mg "InvalidHash" (cls 2)
  e_InvalidNumber : ExT K mg "InvalidNumber" (cls 3)
  e_InvalidWidth : ExT K mg "InvalidWidth" (cls 1)
abbrev gg (K : PySem.W.Frag) (cls : Nat → Addr) : G := ⟨K, cls, fun _ => []⟩
section
variable {P : Program} {w : World} {K : PySem.W.Frag} {mg : Str → Option Value} {base : Heap} {cls : Nat → Addr}
theorem sc__law_turned : FnScope ["some", "width", "digits", "turn", "one", "worth", "found"] ["some", "width"] (defScope s__law_turned) := ⟨rfl, rfl, rfl, by decide +kernel, rfl, by decide +kernel, by decide +kernel⟩
theorem ok__law_turned {f : Addr} {fd : FuncData} (T : Tx K mg cls) (F : FnT K mg "_law_turned" "_law_turned" s__law_turned ["some", "width"] f fd) : FnG P w K mg base 1 f fd ["some", "width"] (spM (gg K cls) 2 m__law_turned) :=
  fng_of (k := 0) F.F sc__law_turned rfl rfl fun cdv A outer s H E o => by
    show SB _ _ _ (defBody s__law_turned) b__law_turned
    exact (sb_cons (ss_set o 2 (se_lst sa_nil))
    (sb_cons (ss_for (body := l__law_turned_1) o (si_rg1 T.z_range (se_var 1)) (sg_name o 3) (sb_cons (ss_exp (se_append o (se_var 2) (sa_cons (se_mod (se_int_ T.z_int (sa_cons (se_var 0) sa_nil)) se_int) sa_nil)))
    (sb_one (ss_set o 0 (se_div (se_var 0) se_int)))))
    (sb_cons (ss_asg o (se_tup (n := 0) (sa_cons se_int (sa_cons se_int sa_nil))) (sg_tup o 2 (sgs_cons (sg_name o 5) (sgs_cons (sg_name o 6) sgs_nil))))
    (sb_cons (ss_for (body := l__law_turned_0) o (si_seq o (se_rev o (se_var 2))) (sg_name o 4) (sb_cons (ss_set o 6 (se_add o (se_var 6) (se_mul (se_var 5) (se_var 4))))
    (sb_one (ss_set o 5 (se_mul (se_var 5) se_int)))))
    (sb_one (ss_ret (se_var 6)))))))
theorem sc_is_integer : FnScope ["thing"] ["thing"] (defScope s_is_integer) := ⟨rfl, rfl, rfl, by decide +kernel, rfl, by decide +kernel, by decide +kernel⟩
theorem ok_is_integer {f : Addr} {fd : FuncData} (T : Tx K mg cls) (F : FnT K mg "is_integer" "is_integer" s_is_integer ["thing"] f fd) : FnG P w K mg base 1 f fd ["thing"] (spM (gg K cls) 1 m_is_integer) :=
  fng_of (k := 0) F.F sc_is_integer rfl rfl fun cdv A outer s H E o => by
    show SB _ _ _ (defBody s_is_integer) b_is_integer
    exact (sb_one (ss_ret (se_and (se_isi o T.z_isinstance (sa_cons (se_var 0) (sa_cons (se_ty 2 T.z_int) sa_nil))) (se_one (se_not (se_isi o T.z_isinstance (sa_cons (se_var 0) (sa_cons (se_ty 1 T.z_bool) sa_nil))))))))
theorem sc_is_between : FnScope ["thing", "low", "high"] ["thing", "low", "high"] (defScope s_is_between) := ⟨rfl, rfl, rfl, by decide +kernel, rfl, by decide +kernel, by decide +kernel⟩
theorem ok_is_between {f : Addr} {fd : FuncData} (T : Tx K mg cls) (F : FnT K mg "is_between" "is_between" s_is_between ["thing", "low", "high"] f fd) (C_is_integer : Cal P w K mg base (gg K cls) "is_integer" 1 1 m_is_integer) : FnG P w K mg base 2 f fd ["thing", "low", "high"] (spM (gg K cls) 3 m_is_between) :=
  fng_of (k := 1) F.F sc_is_between rfl rfl fun cdv A outer s H E o => by
    show SB _ _ _ (defBody s_is_between) b_is_between
    exact (sb_one (ss_ret (se_and (se_calld o C_is_integer (by decide) (sa_cons (se_var 0) sa_nil)) (se_one (se_chain op_le op_le ob_le ob_le (se_var 1) (se_var 0) (se_var 2))))))
theorem sc_is_width : FnScope ["thing"] ["thing"] (defScope s_is_width) := ⟨rfl, rfl, rfl, by decide +kernel, rfl, by decide +kernel, by decide +kernel⟩
theorem ok_is_width {f : Addr} {fd : FuncData} (T : Tx K mg cls) (F : FnT K mg "is_width" "is_width" s_is_width ["thing"] f fd) (C_is_between : Cal P w K mg base (gg K cls) "is_between" 2 3 m_is_between) : FnG P w K mg base 3 f fd ["thing"] (spM (gg K cls) 1 m_is_width) :=
  fng_of (k := 2) F.F sc_is_width rfl rfl fun cdv A outer s H E o => by
    show SB _ _ _ (defBody s_is_width) b_is_width
    exact (sb_one (ss_ret (se_calld o C_is_between (by decide) (sa_cons (se_var 0) (sa_cons se_int (sa_cons (se_gint T.c_GREATEST_WIDTH.choose_spec) sa_nil))))))
theorem sc__check_width : FnScope ["width"] ["width"] (defScope s__check_width) := ⟨rfl, rfl, rfl, by decide +kernel, rfl, by decide +kernel, by decide +kernel⟩
theorem ok__check_width {f : Addr} {fd : FuncData} (T : Tx K mg cls) (F : FnT K mg "_check_width" "_check_width" s__check_width ["width"] f fd) (C_is_width : Cal P w K mg base (gg K cls) "is_width" 3 1 m_is_width) : FnG P w K mg base 4 f fd ["width"] (spM (gg K cls) 1 m__check_width) :=
  fng_of (k := 3) F.F sc__check_width rfl rfl fun cdv A outer s H E o => by
    show SB _ _ _ (defBody s__check_width) b__check_width
    exact (sb_one (ss_if (sq_not (sq_tru o (se_calld o C_is_width (by decide) (sa_cons (se_var 0) sa_nil)))) (sb_one (ss_raised o 1 T.e_InvalidWidth)) sb_nil))
theorem sc_buckets_of : FnScope ["width"] ["width"] (defScope s_buckets_of) := ⟨rfl, rfl, rfl, by decide +kernel, rfl, by decide +kernel, by decide +kernel⟩
theorem ok_buckets_of {f : Addr} {fd : FuncData} (T : Tx K mg cls) (F : FnT K mg "buckets_of" "buckets_of" s_buckets_of ["width"] f fd) : FnG P w K mg base 1 f fd ["width"] (spM (gg K cls) 1 m_buckets_of) :=
  fng_of (k := 0) F.F sc_buckets_of rfl rfl fun cdv A outer s H E o => by
    show SB _ _ _ (defBody s_buckets_of) b_buckets_of
    exact (sb_one (ss_ret (se_shl se_int (se_var 0))))
theorem sc_is_hash : FnScope ["thing"] ["thing"] (defScope s_is_hash) := ⟨rfl, rfl, rfl, by decide +kernel, rfl, by decide +kernel, by decide +kernel⟩
theorem ok_is_hash {f : Addr} {fd : FuncData} (T : Tx K mg cls) (F : FnT K mg "is_hash" "is_hash" s_is_hash ["thing"] f fd) (C_is_between : Cal P w K mg base (gg K cls) "is_between" 2 3 m_is_between) : FnG P w K mg base 3 f fd ["thing"] (spM (gg K cls) 1 m_is_hash) :=
  fng_of (k := 2) F.F sc_is_hash rfl rfl fun cdv A outer s H E o => by
    show SB _ _ _ (defBody s_is_hash) b_is_hash
    exact (sb_one (ss_ret (se_calld o C_is_between (by decide) (sa_cons (se_var 0) (sa_cons se_int (sa_cons (se_gint T.c_GREATEST_HASH.choose_spec) sa_nil))))))
theorem sc_check_hash : FnScope ["code"] ["code"] (defScope s_check_hash) := ⟨rfl, rfl, rfl, by decide +kernel, rfl, by decide +kernel, by decide +kernel⟩
theorem ok_check_hash {f : Addr} {fd : FuncData} (T : Tx K mg cls) (F : FnT K mg "check_hash" "check_hash" s_check_hash ["code"] f fd) (C_is_hash : Cal P w K mg base (gg K cls) "is_hash" 3 1 m_is_hash) : FnG P w K mg base 4 f fd ["code"] (spM (gg K cls) 1 m_check_hash) :=
  fng_of (k := 3) F.F sc_check_hash rfl rfl fun cdv A outer s H E o => by
    show SB _ _ _ (defBody s_check_hash) b_check_hash
    exact (sb_one (ss_if (sq_not (sq_tru o (se_calld o C_is_hash (by decide) (sa_cons (se_var 0) sa_nil)))) (sb_one (ss_raised o 2 T.e_InvalidHash)) sb_nil))
theorem sc_bucket : FnScope ["code", "width"] ["code", "width"] (defScope s_bucket) := ⟨rfl, rfl, rfl, by decide +kernel, rfl, by decide +kernel, by decide +kernel⟩
theorem ok_bucket {f : Addr} {fd : FuncData} (T : Tx K mg cls) (F : FnT K mg "bucket" "bucket" s_bucket ["code", "width"] f fd) (C__check_width : Cal P w K mg base (gg K cls) "_check_width" 4 1 m__check_width) (C_buckets_of : Cal P w K mg base (gg K cls) "buckets_of" 1 1 m_buckets_of) (C_check_hash : Cal P w K mg base (gg K cls) "check_hash" 4 1 m_check_hash) : FnG P w K mg base 5 f fd ["code", "width"] (spM (gg K cls) 2 m_bucket) :=
  fng_of (k := 4) F.F sc_bucket rfl rfl fun cdv A outer s H E o => by
    show SB _ _ _ (defBody s_bucket) b_bucket
    exact (sb_cons (ss_exp (se_calld o C__check_width (by decide) (sa_cons (se_var 1) sa_nil)))
    (sb_cons (ss_exp (se_calld o C_check_hash (by decide) (sa_cons (se_var 0) sa_nil)))
    (sb_one (ss_ret (se_mod (se_var 0) (se_calld o C_buckets_of (by decide) (sa_cons (se_var 1) sa_nil)))))))
theorem sc__check_number : FnScope ["number", "width"] ["number", "width"] (defScope s__check_number) := ⟨rfl, rfl, rfl, by decide +kernel, rfl, by decide +kernel, by decide +kernel⟩
theorem ok__check_number {f : Addr} {fd : FuncData} (T : Tx K mg cls) (F : FnT K mg "_check_number" "_check_number" s__check_number ["number", "width"] f fd) (C_buckets_of : Cal P w K mg base (gg K cls) "buckets_of" 1 1 m_buckets_of) (C_is_between : Cal P w K mg base (gg K cls) "is_between" 2 3 m_is_between) : FnG P w K mg base 3 f fd ["number", "width"] (spM (gg K cls) 2 m__check_number) :=
  fng_of (k := 2) F.F sc__check_number rfl rfl fun cdv A outer s H E o => by
    show SB _ _ _ (defBody s__check_number) b__check_number
    exact (sb_one (ss_if (sq_not (sq_tru o (se_calld o C_is_between (by decide) (sa_cons (se_var 0) (sa_cons se_int (sa_cons (se_sub (se_calld o C_buckets_of (by decide) (sa_cons (se_var 1) sa_nil)) se_int) sa_nil)))))) (sb_one (ss_raised o 3 T.e_InvalidNumber)) sb_nil))
theorem sc_turned : FnScope ["number", "width", "rest", "result", "_"] ["number", "width"] (defScope s_turned) := ⟨rfl, rfl, rfl, by decide +kernel, rfl, by decide +kernel, by decide +kernel⟩
theorem ok_turned {f : Addr} {fd : FuncData} (T : Tx K mg cls) (F : FnT K mg "turned" "turned" s_turned ["number", "width"] f fd) (C__check_number : Cal P w K mg base (gg K cls) "_check_number" 3 2 m__check_number) (C__check_width : Cal P w K mg base (gg K cls) "_check_width" 4 1 m__check_width) : FnG P w K mg base 5 f fd ["number", "width"] (spM (gg K cls) 2 m_turned) :=
  fng_of (k := 4) F.F sc_turned rfl rfl fun cdv A outer s H E o => by
    show SB _ _ _ (defBody s_turned) b_turned
    exact (sb_cons (ss_exp (se_calld o C__check_width (by decide) (sa_cons (se_var 1) sa_nil)))
    (sb_cons (ss_exp (se_calld o C__check_number (by decide) (sa_cons (se_var 0) (sa_cons (se_var 1) sa_nil))))
    (sb_cons (ss_set o 2 (se_var 0))
    (sb_cons (ss_set o 3 se_int)
    (sb_cons (ss_for (body := l_turned_0) o (si_rg1 T.z_range (se_var 1)) (sg_name o 4) (sb_cons (ss_set o 3 (se_add o (se_mul (se_var 3) se_int) (se_mod (se_var 2) se_int)))
    (sb_one (ss_set o 2 (se_div (se_var 2) se_int)))))
    (sb_one (ss_ret (se_var 3))))))))
theorem sc_within : FnScope ["number", "small", "large"] ["number", "small", "large"] (defScope s_within) := ⟨rfl, rfl, rfl, by decide +kernel, rfl, by decide +kernel, by decide +kernel⟩
theorem ok_within {f : Addr} {fd : FuncData} (T : Tx K mg cls) (F : FnT K mg "within" "within" s_within ["number", "small", "large"] f fd) (C__check_number : Cal P w K mg base (gg K cls) "_check_number" 3 2 m__check_number) (C__check_width : Cal P w K mg base (gg K cls) "_check_width" 4 1 m__check_width) (C_buckets_of : Cal P w K mg base (gg K cls) "buckets_of" 1 1 m_buckets_of) : FnG P w K mg base 5 f fd ["number", "small", "large"] (spM (gg K cls) 3 m_within) :=
  fng_of (k := 4) F.F sc_within rfl rfl fun cdv A outer s H E o => by
    show SB _ _ _ (defBody s_within) b_within
    exact (sb_cons (ss_exp (se_calld o C__check_width (by decide) (sa_cons (se_var 1) sa_nil)))
    (sb_cons (ss_exp (se_calld o C__check_width (by decide) (sa_cons (se_var 2) sa_nil)))
    (sb_cons (ss_exp (se_calld o C__check_number (by decide) (sa_cons (se_var 0) (sa_cons (se_var 1) sa_nil))))
    (sb_cons (ss_if (sq_cmp op_gt ob_gt (se_var 1) (se_var 2)) (sb_one (ss_raised o 3 T.e_InvalidNumber)) sb_nil)
    (sb_one (ss_ret (se_lrng3 o T.z_list T.z_range (sa_cons (se_var 0) (sa_cons (se_calld o C_buckets_of (by decide) (sa_cons (se_var 2) sa_nil)) (sa_cons (se_calld o C_buckets_of (by decide) (sa_cons (se_var 1) sa_nil)) sa_nil))))))))))
theorem sc_law : FnScope ["script", "many", "width", "code", "size", "large", "some", "again", "found", "one"] ["script"] (defScope s_law) := ⟨rfl, rfl, rfl, by decide +kernel, rfl, by decide +kernel, by decide +kernel⟩
theorem ok_law {f : Addr} {fd : FuncData} (T : Tx K mg cls) (F : FnT K mg "law" "law" s_law ["script"] f fd) (C__law_turned : Cal P w K mg base (gg K cls) "_law_turned" 1 2 m__law_turned) (C_bucket : Cal P w K mg base (gg K cls) "bucket" 5 2 m_bucket) (C_is_hash : Cal P w K mg base (gg K cls) "is_hash" 3 1 m_is_hash) (C_is_width : Cal P w K mg base (gg K cls) "is_width" 3 1 m_is_width) (C_turned : Cal P w K mg base (gg K cls) "turned" 5 2 m_turned) (C_within : Cal P w K mg base (gg K cls) "within" 5 3 m_within) : FnG P w K mg base 6 f fd ["script"] (spM (gg K cls) 1 m_law) :=
  fng_of (k := 5) F.F sc_law rfl rfl fun cdv A outer s H E o => by
    show SB _ _ _ (defBody s_law) b_law
    exact (sb_cons (ss_set o 1 se_int)
    (sb_cons (ss_for (body := l_law_0) o (si_rg1 T.z_range se_int) (sg_name o 2) (sb_cons (ss_if (sq_cmp op_notBl ob_isn (se_calld o C_is_width (by decide) (sa_cons (se_var 2) sa_nil)) se_bl) (sb_one (ss_ret se_bl)) sb_nil)
    (sb_cons (ss_for (body := l_law_4) o (si_rg1 T.z_range se_int) (sg_name o 3) (sb_one (ss_if (sq_boo (sw_or (sq_cmp op_notBl ob_isn (se_calld o C_is_hash (by decide) (sa_cons (se_var 3) sa_nil)) se_bl) (sw_or1 (sq_cmp (or_ne o) ob_ne (se_repr o T.z_repr (sa_cons (se_calld o C_bucket (by decide) (sa_cons (se_var 3) (sa_cons (se_var 2) sa_nil))) sa_nil)) (se_repr o T.z_repr (sa_cons (se_mod (se_int_ T.z_int (sa_cons (se_var 3) sa_nil)) (se_var 1)) sa_nil)))))) (sb_one (ss_ret se_bl)) sb_nil)))
    (sb_cons (ss_if (sq_cmp (or_ne o) ob_ne (se_comp o [("some", 6)] (si_rg1 T.z_range (se_var 1)) (blkOk_by (N := ["script", "many", "width", "code", "size", "large", "some", "again", "found", "one"]) (sc := defScope s_law) (by decide +kernel)) (fun s H C cl fp o => (sg_name o 6)) (fun s H C cl fp o => st_nil) (fun s H C cl fp o => (se_calld o C_turned (by decide) (sa_cons (se_var 6) (sa_cons (se_var 2) sa_nil))))) (se_comp o [("some", 6)] (si_rg1 T.z_range (se_var 1)) (blkOk_by (N := ["script", "many", "width", "code", "size", "large", "some", "again", "found", "one"]) (sc := defScope s_law) (by decide +kernel)) (fun s H C cl fp o => (sg_name o 6)) (fun s H C cl fp o => st_nil) (fun s H C cl fp o => (se_calld o C__law_turned (by decide) (sa_cons (se_var 6) (sa_cons (se_var 2) sa_nil)))))) (sb_one (ss_ret se_bl)) sb_nil)
    (sb_cons (ss_set o 4 (se_var 1))
    (sb_cons (ss_for (body := l_law_1) o (si_rg2 T.z_range (se_var 2) se_int) (sg_name o 5) (sb_cons (ss_for (body := l_law_2) o (si_rg1 T.z_range (se_var 1)) (sg_name o 6) (sb_one (ss_for (body := l_law_3) o (si_rg1 T.z_range se_int) (sg_name o 7) (sb_cons (ss_set o 8 (se_calld o C_within (by decide) (sa_cons (se_var 6) (sa_cons (se_var 2) (sa_cons (se_var 5) sa_nil)))))
    (sb_cons (ss_if (sq_cmp (or_ne o) ob_ne (se_repr o T.z_repr (sa_cons (se_var 8) sa_nil)) (se_repr o T.z_repr (sa_cons (se_comp o [("one", 9)] (si_rg1 T.z_range (se_var 4)) (blkOk_by (N := ["script", "many", "width", "code", "size", "large", "some", "again", "found", "one"]) (sc := defScope s_law) (by decide +kernel)) (fun s H C cl fp o => (sg_name o 9)) (fun s H C cl fp o => (st_one (sq_cmp (or_eq o) ob_eq (se_mod (se_int_ T.z_int (sa_cons (se_var 9) sa_nil)) (se_var 1)) (se_var 6)))) (fun s H C cl fp o => (se_var 9))) sa_nil))) (sb_one (ss_ret se_bl)) sb_nil)
    (sb_one (ss_exp (se_append o (se_var 8) (sa_cons (se_neg se_int) sa_nil)))))))))
    (sb_one (ss_set o 4 (se_mul (se_var 4) se_int)))))
    (sb_one (ss_set o 1 (se_mul (se_var 1) se_int)))))))))
    (sb_one (ss_ret (se_cmp (or_eq o) ob_eq (se_calld o C_turned (by decide) (sa_cons (se_calld o C_turned (by decide) (sa_cons se_int (sa_cons se_int sa_nil))) (sa_cons se_int sa_nil))) se_int)))))
end
theorem all_mk {l : PySem.W.OpenLaw} {w : World} {K : PySem.W.Frag} {h : Heap} {mg : Str → Option Value} {fa : Addr} (X : K.In h) (G0 : h.Ns mainGlobals mg) (hfa : mg "law" = some (.ref fa))
    {C_InvalidHash : Addr} (a_InvalidHash : PySem.W.nsIn K mainGlobals "InvalidHash" = some (some (.ref C_InvalidHash))) (x_InvalidHash : PySem.W.excIn K C_InvalidHash [.type "ValueError", .type "Exception", .type "BaseException", .type "object"] "ValueError.__new__" = true) (k_InvalidHash : PySem.W.keepIn K (.ref C_InvalidHash) = true) (b_InvalidHash : PySem.W.subIn K (.ref C_InvalidHash) (.type "BaseException") = some true) (t_InvalidHash : PySem.W.typeIn K (.ref C_InvalidHash) = some (.type "type"))
    {C_InvalidNumber : Addr} (a_InvalidNumber : PySem.W.nsIn K mainGlobals "InvalidNumber" = some (some (.ref C_InvalidNumber))) (x_InvalidNumber : PySem.W.excIn K C_InvalidNumber [.type "ValueError", .type "Exception", .type "BaseException", .type "object"] "ValueError.__new__" = true) (k_InvalidNumber : PySem.W.keepIn K (.ref C_InvalidNumber) = true) (b_InvalidNumber : PySem.W.subIn K (.ref C_InvalidNumber) (.type "BaseException") = some true) (t_InvalidNumber : PySem.W.typeIn K (.ref C_InvalidNumber) = some (.type "type"))
    {C_InvalidWidth : Addr} (a_InvalidWidth : PySem.W.nsIn K mainGlobals "InvalidWidth" = some (some (.ref C_InvalidWidth))) (x_InvalidWidth : PySem.W.excIn K C_InvalidWidth [.type "ValueError", .type "Exception", .type "BaseException", .type "object"] "ValueError.__new__" = true) (k_InvalidWidth : PySem.W.keepIn K (.ref C_InvalidWidth) = true) (b_InvalidWidth : PySem.W.subIn K (.ref C_InvalidWidth) (.type "BaseException") = some true) (t_InvalidWidth : PySem.W.typeIn K (.ref C_InvalidWidth) = some (.type "type"))
    (z_bool : PySem.W.nsIn K mainGlobals "bool" = some none)
    (z_int : PySem.W.nsIn K mainGlobals "int" = some none)
    (z_isinstance : PySem.W.nsIn K mainGlobals "isinstance" = some none)
    (z_list : PySem.W.nsIn K mainGlobals "list" = some none)
    (z_range : PySem.W.nsIn K mainGlobals "range" = some none)
    (z_repr : PySem.W.nsIn K mainGlobals "repr" = some none)
    {t_GREATEST_HASH : Tok} (c_GREATEST_HASH : PySem.W.nsIn K mainGlobals "GREATEST_HASH" = some (some (.int 31 t_GREATEST_HASH)))
    {t_GREATEST_WIDTH : Tok} (c_GREATEST_WIDTH : PySem.W.nsIn K mainGlobals "GREATEST_WIDTH" = some (some (.int 5 t_GREATEST_WIDTH)))
    {f__law_turned : Addr} {od__law_turned an__law_turned : Option Addr} {sl__law_turned : Array (Option Value)} {oc__law_turned kv__law_turned dc__law_turned pm__law_turned cd__law_turned ct__law_turned : Value} (fa__law_turned : PySem.W.nsIn K mainGlobals "_law_turned" = some (some (.ref f__law_turned)))
    (fl__law_turned : K.lookup f__law_turned = some ⟨oc__law_turned, od__law_turned, .func (PySem.W.fnOf "_law_turned" "_law_turned" (defArgs s__law_turned) (defBody s__law_turned) (defScope s__law_turned) .none kv__law_turned dc__law_turned pm__law_turned an__law_turned cd__law_turned ct__law_turned), sl__law_turned⟩)
    (fc__law_turned : PySem.W.codeIn K cd__law_turned "_law_turned" = true) (fk__law_turned : PySem.W.keepIn K (.ref f__law_turned) = true)
    {f_is_integer : Addr} {od_is_integer an_is_integer : Option Addr} {sl_is_integer : Array (Option Value)} {oc_is_integer kv_is_integer dc_is_integer pm_is_integer cd_is_integer ct_is_integer : Value} (fa_is_integer : PySem.W.nsIn K mainGlobals "is_integer" = some (some (.ref f_is_integer)))
    (fl_is_integer : K.lookup f_is_integer = some ⟨oc_is_integer, od_is_integer, .func (PySem.W.fnOf "is_integer" "is_integer" (defArgs s_is_integer) (defBody s_is_integer) (defScope s_is_integer) .none kv_is_integer dc_is_integer pm_is_integer an_is_integer cd_is_integer ct_is_integer), sl_is_integer⟩)
    (fc_is_integer : PySem.W.codeIn K cd_is_integer "is_integer" = true) (fk_is_integer : PySem.W.keepIn K (.ref f_is_integer) = true)
    {f_is_between : Addr} {od_is_between an_is_between : Option Addr} {sl_is_between : Array (Option Value)} {oc_is_between kv_is_between dc_is_between pm_is_between cd_is_between ct_is_between : Value} (fa_is_between : PySem.W.nsIn K mainGlobals "is_between" = some (some (.ref f_is_between)))
    (fl_is_between : K.lookup f_is_between = some ⟨oc_is_between, od_is_between, .func (PySem.W.fnOf "is_between" "is_between" (defArgs s_is_between) (defBody s_is_between) (defScope s_is_between) .none kv_is_between dc_is_between pm_is_between an_is_between cd_is_between ct_is_between), sl_is_between⟩)
    (fc_is_between : PySem.W.codeIn K cd_is_between "is_between" = true) (fk_is_between : PySem.W.keepIn K (.ref f_is_between) = true)
    {f_is_width : Addr} {od_is_width an_is_width : Option Addr} {sl_is_width : Array (Option Value)} {oc_is_width kv_is_width dc_is_width pm_is_width cd_is_width ct_is_width : Value} (fa_is_width : PySem.W.nsIn K mainGlobals "is_width" = some (some (.ref f_is_width)))
    (fl_is_width : K.lookup f_is_width = some ⟨oc_is_width, od_is_width, .func (PySem.W.fnOf "is_width" "is_width" (defArgs s_is_width) (defBody s_is_width) (defScope s_is_width) .none kv_is_width dc_is_width pm_is_width an_is_width cd_is_width ct_is_width), sl_is_width⟩)
    (fc_is_width : PySem.W.codeIn K cd_is_width "is_width" = true) (fk_is_width : PySem.W.keepIn K (.ref f_is_width) = true)
    {f__check_width : Addr} {od__check_width an__check_width : Option Addr} {sl__check_width : Array (Option Value)} {oc__check_width kv__check_width dc__check_width pm__check_width cd__check_width ct__check_width : Value} (fa__check_width : PySem.W.nsIn K mainGlobals "_check_width" = some (some (.ref f__check_width)))
    (fl__check_width : K.lookup f__check_width = some ⟨oc__check_width, od__check_width, .func (PySem.W.fnOf "_check_width" "_check_width" (defArgs s__check_width) (defBody s__check_width) (defScope s__check_width) .none kv__check_width dc__check_width pm__check_width an__check_width cd__check_width ct__check_width), sl__check_width⟩)
    (fc__check_width : PySem.W.codeIn K cd__check_width "_check_width" = true) (fk__check_width : PySem.W.keepIn K (.ref f__check_width) = true)
    {f_buckets_of : Addr} {od_buckets_of an_buckets_of : Option Addr} {sl_buckets_of : Array (Option Value)} {oc_buckets_of kv_buckets_of dc_buckets_of pm_buckets_of cd_buckets_of ct_buckets_of : Value} (fa_buckets_of : PySem.W.nsIn K mainGlobals "buckets_of" = some (some (.ref f_buckets_of)))
    (fl_buckets_of : K.lookup f_buckets_of = some ⟨oc_buckets_of, od_buckets_of, .func (PySem.W.fnOf "buckets_of" "buckets_of" (defArgs s_buckets_of) (defBody s_buckets_of) (defScope s_buckets_of) .none kv_buckets_of dc_buckets_of pm_buckets_of an_buckets_of cd_buckets_of ct_buckets_of), sl_buckets_of⟩)
    (fc_buckets_of : PySem.W.codeIn K cd_buckets_of "buckets_of" = true) (fk_buckets_of : PySem.W.keepIn K (.ref f_buckets_of) = true)
    {f_is_hash : Addr} {od_is_hash an_is_hash : Option Addr} {sl_is_hash : Array (Option Value)} {oc_is_hash kv_is_hash dc_is_hash pm_is_hash cd_is_hash ct_is_hash : Value} (fa_is_hash : PySem.W.nsIn K mainGlobals "is_hash" = some (some (.ref f_is_hash)))
    (fl_is_hash : K.lookup f_is_hash = some ⟨oc_is_hash, od_is_hash, .func (PySem.W.fnOf "is_hash" "is_hash" (defArgs s_is_hash) (defBody s_is_hash) (defScope s_is_hash) .none kv_is_hash dc_is_hash pm_is_hash an_is_hash cd_is_hash ct_is_hash), sl_is_hash⟩)
    (fc_is_hash : PySem.W.codeIn K cd_is_hash "is_hash" = true) (fk_is_hash : PySem.W.keepIn K (.ref f_is_hash) = true)
    {f_check_hash : Addr} {od_check_hash an_check_hash : Option Addr} {sl_check_hash : Array (Option Value)} {oc_check_hash kv_check_hash dc_check_hash pm_check_hash cd_check_hash ct_check_hash : Value} (fa_check_hash : PySem.W.nsIn K mainGlobals "check_hash" = some (some (.ref f_check_hash)))
    (fl_check_hash : K.lookup f_check_hash = some ⟨oc_check_hash, od_check_hash, .func (PySem.W.fnOf "check_hash" "check_hash" (defArgs s_check_hash) (defBody s_check_hash) (defScope s_check_hash) .none kv_check_hash dc_check_hash pm_check_hash an_check_hash cd_check_hash ct_check_hash), sl_check_hash⟩)
    (fc_check_hash : PySem.W.codeIn K cd_check_hash "check_hash" = true) (fk_check_hash : PySem.W.keepIn K (.ref f_check_hash) = true)
    {f_bucket : Addr} {od_bucket an_bucket : Option Addr} {sl_bucket : Array (Option Value)} {oc_bucket kv_bucket dc_bucket pm_bucket cd_bucket ct_bucket : Value} (fa_bucket : PySem.W.nsIn K mainGlobals "bucket" = some (some (.ref f_bucket)))
    (fl_bucket : K.lookup f_bucket = some ⟨oc_bucket, od_bucket, .func (PySem.W.fnOf "bucket" "bucket" (defArgs s_bucket) (defBody s_bucket) (defScope s_bucket) .none kv_bucket dc_bucket pm_bucket an_bucket cd_bucket ct_bucket), sl_bucket⟩)
    (fc_bucket : PySem.W.codeIn K cd_bucket "bucket" = true) (fk_bucket : PySem.W.keepIn K (.ref f_bucket) = true)
    {f__check_number : Addr} {od__check_number an__check_number : Option Addr} {sl__check_number : Array (Option Value)} {oc__check_number kv__check_number dc__check_number pm__check_number cd__check_number ct__check_number : Value} (fa__check_number : PySem.W.nsIn K mainGlobals "_check_number" = some (some (.ref f__check_number)))
    (fl__check_number : K.lookup f__check_number = some ⟨oc__check_number, od__check_number, .func (PySem.W.fnOf "_check_number" "_check_number" (defArgs s__check_number) (defBody s__check_number) (defScope s__check_number) .none kv__check_number dc__check_number pm__check_number an__check_number cd__check_number ct__check_number), sl__check_number⟩)
    (fc__check_number : PySem.W.codeIn K cd__check_number "_check_number" = true) (fk__check_number : PySem.W.keepIn K (.ref f__check_number) = true)
    {f_turned : Addr} {od_turned an_turned : Option Addr} {sl_turned : Array (Option Value)} {oc_turned kv_turned dc_turned pm_turned cd_turned ct_turned : Value} (fa_turned : PySem.W.nsIn K mainGlobals "turned" = some (some (.ref f_turned)))
    (fl_turned : K.lookup f_turned = some ⟨oc_turned, od_turned, .func (PySem.W.fnOf "turned" "turned" (defArgs s_turned) (defBody s_turned) (defScope s_turned) .none kv_turned dc_turned pm_turned an_turned cd_turned ct_turned), sl_turned⟩)
    (fc_turned : PySem.W.codeIn K cd_turned "turned" = true) (fk_turned : PySem.W.keepIn K (.ref f_turned) = true)
    {f_within : Addr} {od_within an_within : Option Addr} {sl_within : Array (Option Value)} {oc_within kv_within dc_within pm_within cd_within ct_within : Value} (fa_within : PySem.W.nsIn K mainGlobals "within" = some (some (.ref f_within)))
    (fl_within : K.lookup f_within = some ⟨oc_within, od_within, .func (PySem.W.fnOf "within" "within" (defArgs s_within) (defBody s_within) (defScope s_within) .none kv_within dc_within pm_within an_within cd_within ct_within), sl_within⟩)
    (fc_within : PySem.W.codeIn K cd_within "within" = true) (fk_within : PySem.W.keepIn K (.ref f_within) = true)
    {f_law : Addr} {od_law an_law : Option Addr} {sl_law : Array (Option Value)} {oc_law kv_law dc_law pm_law cd_law ct_law : Value} (fa_law : PySem.W.nsIn K mainGlobals "law" = some (some (.ref f_law)))
    (fl_law : K.lookup f_law = some ⟨oc_law, od_law, .func (PySem.W.fnOf "law" "law" (defArgs s_law) (defBody s_law) (defScope s_law) .none kv_law dc_law pm_law an_law cd_law ct_law), sl_law⟩)
    (fc_law : PySem.W.codeIn K cd_law "law" = true) (fk_law : PySem.W.keepIn K (.ref f_law) = true)
    : ∃ (g : G) (fd : FuncData), g.K = K ∧ (∀ (s : Shared) (u : Value), BindsTo s fd ⟨[u], []⟩ [("script", u)]) ∧ ∀ base : Heap, K.In base → base.Ns mainGlobals mg → FnG l.prog w K mg base 6 fa fd ["script"] (spM g 1 m_law) := by
  have e0 := hfa.symm.trans (PySem.W.mg_of X G0 fa_law)
  cases e0
  have T : Tx K mg (fun n => if n = 2 then C_InvalidHash else if n = 3 then C_InvalidNumber else if n = 1 then C_InvalidWidth else 0) := {
    z_bool := PySem.W.mg_none_of X G0 z_bool,
    z_int := PySem.W.mg_none_of X G0 z_int,
    z_isinstance := PySem.W.mg_none_of X G0 z_isinstance,
    z_list := PySem.W.mg_none_of X G0 z_list,
    z_range := PySem.W.mg_none_of X G0 z_range,
    z_repr := PySem.W.mg_none_of X G0 z_repr,
    c_GREATEST_HASH := ⟨_, PySem.W.mg_of X G0 c_GREATEST_HASH⟩,
    c_GREATEST_WIDTH := ⟨_, PySem.W.mg_of X G0 c_GREATEST_WIDTH⟩,
    e_InvalidHash := ⟨PySem.W.mg_of X G0 a_InvalidHash, x_InvalidHash, k_InvalidHash, b_InvalidHash, t_InvalidHash⟩,
    e_InvalidNumber := ⟨PySem.W.mg_of X G0 a_InvalidNumber, x_InvalidNumber, k_InvalidNumber, b_InvalidNumber, t_InvalidNumber⟩,
    e_InvalidWidth := ⟨PySem.W.mg_of X G0 a_InvalidWidth, x_InvalidWidth, k_InvalidWidth, b_InvalidWidth, t_InvalidWidth⟩ }
  have F__law_turned : FnT K mg "_law_turned" "_law_turned" s__law_turned ["some", "width"] _ _ := ⟨fun_mk (st := s__law_turned) fl__law_turned fc__law_turned fk__law_turned, PySem.W.mg_of X G0 fa__law_turned, (fun_mk (st := s__law_turned) fl__law_turned fc__law_turned fk__law_turned).binds (ps := ["some", "width"]) fun _ _ _ _ _ _ us hl => match us, hl with | [_, _], _ => rfl⟩
  have F_is_integer : FnT K mg "is_integer" "is_integer" s_is_integer ["thing"] _ _ := ⟨fun_mk (st := s_is_integer) fl_is_integer fc_is_integer fk_is_integer, PySem.W.mg_of X G0 fa_is_integer, (fun_mk (st := s_is_integer) fl_is_integer fc_is_integer fk_is_integer).binds (ps := ["thing"]) fun _ _ _ _ _ _ us hl => match us, hl with | [_], _ => rfl⟩
  have F_is_between : FnT K mg "is_between" "is_between" s_is_between ["thing", "low", "high"] _ _ := ⟨fun_mk (st := s_is_between) fl_is_between fc_is_between fk_is_between, PySem.W.mg_of X G0 fa_is_between, (fun_mk (st := s_is_between) fl_is_between fc_is_between fk_is_between).binds (ps := ["thing", "low", "high"]) fun _ _ _ _ _ _ us hl => match us, hl with | [_, _, _], _ => rfl⟩
  have F_is_width : FnT K mg "is_width" "is_width" s_is_width ["thing"] _ _ := ⟨fun_mk (st := s_is_width) fl_is_width fc_is_width fk_is_width, PySem.W.mg_of X G0 fa_is_width, (fun_mk (st := s_is_width) fl_is_width fc_is_width fk_is_width).binds (ps := ["thing"]) fun _ _ _ _ _ _ us hl => match us, hl with | [_], _ => rfl⟩
  have F__check_width : FnT K mg "_check_width" "_check_width" s__check_width ["width"] _ _ := ⟨fun_mk (st := s__check_width) fl__check_width fc__check_width fk__check_width, PySem.W.mg_of X G0 fa__check_width, (fun_mk (st := s__check_width) fl__check_width fc__check_width fk__check_width).binds (ps := ["width"]) fun _ _ _ _ _ _ us hl => match us, hl with | [_], _ => rfl⟩
  have F_buckets_of : FnT K mg "buckets_of" "buckets_of" s_buckets_of ["width"] _ _ := ⟨fun_mk (st := s_buckets_of) fl_buckets_of fc_buckets_of fk_buckets_of, PySem.W.mg_of X G0 fa_buckets_of, (fun_mk (st := s_buckets_of) fl_buckets_of fc_buckets_of fk_buckets_of).binds (ps := ["width"]) fun _ _ _ _ _ _ us hl => match us, hl with | [_], _ => rfl⟩
  have F_is_hash : FnT K mg "is_hash" "is_hash" s_is_hash ["thing"] _ _ := ⟨fun_mk (st := s_is_hash) fl_is_hash fc_is_hash fk_is_hash, PySem.W.mg_of X G0 fa_is_hash, (fun_mk (st := s_is_hash) fl_is_hash fc_is_hash fk_is_hash).binds (ps := ["thing"]) fun _ _ _ _ _ _ us hl => match us, hl with | [_], _ => rfl⟩
  have F_check_hash : FnT K mg "check_hash" "check_hash" s_check_hash ["code"] _ _ := ⟨fun_mk (st := s_check_hash) fl_check_hash fc_check_hash fk_check_hash, PySem.W.mg_of X G0 fa_check_hash, (fun_mk (st := s_check_hash) fl_check_hash fc_check_hash fk_check_hash).binds (ps := ["code"]) fun _ _ _ _ _ _ us hl => match us, hl with | [_], _ => rfl⟩
  have F_bucket : FnT K mg "bucket" "bucket" s_bucket ["code", "width"] _ _ := ⟨fun_mk (st := s_bucket) fl_bucket fc_bucket fk_bucket, PySem.W.mg_of X G0 fa_bucket, (fun_mk (st := s_bucket) fl_bucket fc_bucket fk_bucket).binds (ps := ["code", "width"]) fun _ _ _ _ _ _ us hl => match us, hl with | [_, _], _ => rfl⟩
  have F__check_number : FnT K mg "_check_number" "_check_number" s__check_number ["number", "width"] _ _ := ⟨fun_mk (st := s__check_number) fl__check_number fc__check_number fk__check_number, PySem.W.mg_of X G0 fa__check_number, (fun_mk (st := s__check_number) fl__check_number fc__check_number fk__check_number).binds (ps := ["number", "width"]) fun _ _ _ _ _ _ us hl => match us, hl with | [_, _], _ => rfl⟩
  have F_turned : FnT K mg "turned" "turned" s_turned ["number", "width"] _ _ := ⟨fun_mk (st := s_turned) fl_turned fc_turned fk_turned, PySem.W.mg_of X G0 fa_turned, (fun_mk (st := s_turned) fl_turned fc_turned fk_turned).binds (ps := ["number", "width"]) fun _ _ _ _ _ _ us hl => match us, hl with | [_, _], _ => rfl⟩
  have F_within : FnT K mg "within" "within" s_within ["number", "small", "large"] _ _ := ⟨fun_mk (st := s_within) fl_within fc_within fk_within, PySem.W.mg_of X G0 fa_within, (fun_mk (st := s_within) fl_within fc_within fk_within).binds (ps := ["number", "small", "large"]) fun _ _ _ _ _ _ us hl => match us, hl with | [_, _, _], _ => rfl⟩
  have F_law : FnT K mg "law" "law" s_law ["script"] _ _ := ⟨fun_mk (st := s_law) fl_law fc_law fk_law, PySem.W.mg_of X G0 fa_law, (fun_mk (st := s_law) fl_law fc_law fk_law).binds (ps := ["script"]) fun _ _ _ _ _ _ us hl => match us, hl with | [_], _ => rfl⟩
  refine ⟨gg K (fun n => if n = 2 then C_InvalidHash else if n = 3 then C_InvalidNumber else if n = 1 then C_InvalidWidth else 0), PySem.W.fnOf "law" "law" (defArgs s_law) (defBody s_law) (defScope s_law) .none kv_law dc_law pm_law an_law cd_law ct_law, rfl, fun s v => .of_eq rfl, fun base _ _ => ?_⟩
  have C__law_turned := F__law_turned.cal (P := l.prog) (w := w) (base := base) (ok__law_turned T F__law_turned )
  have C_is_integer := F_is_integer.cal (P := l.prog) (w := w) (base := base) (ok_is_integer T F_is_integer )
  have C_is_between := F_is_between.cal (P := l.prog) (w := w) (base := base) (ok_is_between T F_is_between C_is_integer)
  have C_is_width := F_is_width.cal (P := l.prog) (w := w) (base := base) (ok_is_width T F_is_width C_is_between)
  have C__check_width := F__check_width.cal (P := l.prog) (w := w) (base := base) (ok__check_width T F__check_width C_is_width)
  have C_buckets_of := F_buckets_of.cal (P := l.prog) (w := w) (base := base) (ok_buckets_of T F_buckets_of )
  have C_is_hash := F_is_hash.cal (P := l.prog) (w := w) (base := base) (ok_is_hash T F_is_hash C_is_between)
  have C_check_hash := F_check_hash.cal (P := l.prog) (w := w) (base := base) (ok_check_hash T F_check_hash C_is_hash)
  have C_bucket := F_bucket.cal (P := l.prog) (w := w) (base := base) (ok_bucket T F_bucket C__check_width C_buckets_of C_check_hash)
  have C__check_number := F__check_number.cal (P := l.prog) (w := w) (base := base) (ok__check_number T F__check_number C_buckets_of C_is_between)
  have C_turned := F_turned.cal (P := l.prog) (w := w) (base := base) (ok_turned T F_turned C__check_number C__check_width)
  have C_within := F_within.cal (P := l.prog) (w := w) (base := base) (ok_within T F_within C__check_number C__check_width C_buckets_of)
  exact ok_law T F_law C__law_turned C_bucket C_is_hash C_is_width C_turned C_within
end Law
namespace Law
open PySem L2 Rz
theorem isi (i : Int) (S : Sto) : m_is_integer [.int i] S = .ok (.bl true) S := by
  simp [m_is_integer, b_is_integer]
theorem isb (i lo hi : Int) (S : Sto) : m_is_between [.int i, .int lo, .int hi] S = .ok (.bl (decide (lo ≤ i) && decide (i ≤ hi))) S := by
  simp [m_is_between, b_is_between, isi, Bool.if_false_right]
theorem isw (i : Int) (S : Sto) : m_is_width [.int i] S = .ok (.bl (decide (0 ≤ i) && decide (i ≤ 5))) S := by
  simp [m_is_width, b_is_width, isb]
theorem ish (i : Int) (S : Sto) : m_is_hash [.int i] S = .ok (.bl (decide (0 ≤ i) && decide (i ≤ 31))) S := by
  simp [m_is_hash, b_is_hash, isb]
theorem chw (i : Int) (S : Sto) (h : 0 ≤ i ∧ i ≤ 5) : m__check_width [.int i] S = .ok .non S := by
  simp [m__check_width, b__check_width, isw, h]
theorem bko (i : Int) (S : Sto) (h : 0 ≤ i ∧ i ≤ 5) : m_buckets_of [.int i] S = .ok (.int (2 ^ i.toNat)) S := by
  have h1 : powOk 1 i = true := by unfold powOk; simp; omega
  simp [m_buckets_of, b_buckets_of, h1]
theorem chh (i : Int) (S : Sto) (h : 0 ≤ i ∧ i ≤ 31) : m_check_hash [.int i] S = .ok .non S := by
  simp [m_check_hash, b_check_hash, ish, h]
theorem bkt (c i : Int) (S : Sto) (h : 0 ≤ i ∧ i ≤ 5) (hc : 0 ≤ c ∧ c ≤ 31) : m_bucket [.int c, .int i] S = .ok (.int (c % 2 ^ i.toNat)) S := by
  have h1 : (0 : Int) < 2 ^ i.toNat := Int.pow_pos (by decide)
  simp [m_bucket, b_bucket, chw, chh, bko, h, hc, h1]
theorem chn (c i : Int) (S : Sto) (h : 0 ≤ i ∧ i ≤ 5) (hc : 0 ≤ c ∧ c < 2 ^ i.toNat) : m__check_number [.int c, .int i] S = .ok .non S := by
  simp [m__check_number, b__check_number, isb, bko, h, hc.1]
  omega
end Law
namespace Law
open PySem L2 Rz
def T : Nat → Int → Int
  | 0, _ => 0
  | k + 1, c => (c % 2) * 2 ^ k + T k (c / 2)
theorem tl (c : Int) (w : Nat) (h : w ≤ 5) (hc : 0 ≤ c ∧ c < 2 ^ w) (S : Sto) : (0 ≤ T w c ∧ T w c < 32) ∧ m_turned [.int c, .int w] S = .ok (.int (T w c)) S ∧ ∃ r, m__law_turned [.int c, .int w] S = .ok (.int (T w c)) (S ++ r) := by
  have hw : w = 0 ∨ w = 1 ∨ w = 2 ∨ w = 3 ∨ w = 4 ∨ w = 5 := by omega
  have hch := chn c w S (by omega) (by simpa using hc)
  rcases hw with rfl | rfl | rfl | rfl | rfl | rfl
  all_goals refine ⟨by simp only [T]; omega, ?_, ?_⟩
  all_goals (try simp [m_turned, b_turned, l_turned_0, chw, hch, big, forG, nrng, mulOk, oMul, T] at *)
  all_goals (try simp [m__law_turned, b__law_turned, l__law_turned_0, l__law_turned_1, big, forG, nrng, nloc, llst, ltup, getL, T, sizeLine_eq, fits, oApp, oMul, atI, ixN, mulOk])
  all_goals (try omega)
end Law
namespace Law
open PySem L2 Rz
def wi (s w L : Nat) : List Int := ((List.range (2 ^ L)).filter fun i => i % 2 ^ w == s).map fun (i : Nat) => (i : Int)
def rgI (a c : Int) (n : Nat) : List Int := (List.range n).map fun i => a + (i : Nat) * c
theorem rgL_I (a c : Int) (n : Nat) : rgL a c n = (rgI a c n).map .int := by
  unfold rgL rgI
  rw [List.map_map]
  rfl
theorem fw : ∀ L, L < 6 → ∀ w, w < L + 1 → ∀ s : Nat, s < 2 ^ w → lrngOk s (2 ^ L) (2 ^ w) = true ∧ rgI s (2 ^ w) (Builtin.Range.rangeSize s (2 ^ L) (2 ^ w)).toNat = wi s w L := by decide +kernel
theorem wi_len (s w L : Nat) (hL : L ≤ 5) : (wi s w L).length ≤ 32 := by
  unfold wi
  rw [List.length_map]
  refine Nat.le_trans (List.length_filter_le _ _) ?_
  rw [List.length_range]
  exact Nat.le_trans (Nat.pow_le_pow_right (by decide) hL) (by decide)
theorem wi_small (s w L : Nat) (hL : L ≤ 5) : ∀ i ∈ wi s w L, i.natAbs < 2 ^ 64 := fun i hi => by
  unfold wi at hi
  obtain ⟨j, hj, rfl⟩ := List.mem_map.mp hi
  have h1 := List.mem_range.mp (List.mem_filter.mp hj).1
  have h2 : 2 ^ L ≤ 2 ^ 5 := Nat.pow_le_pow_right (by decide) hL
  omega
end Law
namespace Law
open PySem L2 Rz
theorem wit (s w L : Nat) (hL : L ≤ 5) (hw : w ≤ L) (hs : s < 2 ^ w) (S : Sto) : m_within [.int s, .int w, .int L] S = .ok (.loc S.length) (S ++ [.lst ((wi s w L).map .int)]) := by
  obtain ⟨h1, h2⟩ := fw L (by omega) w (by omega) s hs
  have h3 : (0 : Int) ≤ s ∧ (s : Int) < 2 ^ w := ⟨by omega, by exact_mod_cast hs⟩
  have h4 := wi_len s w L hL
  simp [m_within, b_within, chw, bko, chn s w S (by omega) (by simpa using h3), show (0:Int) ≤ (w:Int) ∧ (w:Int) ≤ 5 by omega, show (0:Int) ≤ (L:Int) ∧ (L:Int) ≤ 5 by omega, show ¬ (L:Int) < (w:Int) by omega]
  unfold lrng
  rw [h1, cond_true, rgL_I, h2, llst_eq _ (by rw [List.length_map]; omega)]
  rfl
theorem nrng_list (n : Nat) (S : Sto) (i : Nat) : nrng 0 n S i = some ((List.range n).map fun j => Va.int ((j : Nat) : Int))[i]? := by
  unfold nrng
  by_cases h : i < n
  · rw [if_pos h]
    simp [h]
  · rw [if_neg h]
    simp [h]
abbrev cd9 : XT := xbinB cEq (xbin oMod (xcall fInt (acons (xvar 9) anil)) (xvar 1)) (xvar 6)
abbrev pick (w s : Nat) : Va → Option Va := fun v => match v with
  | .int i => if i % 2 ^ w = s then some (Va.int i) else none
  | _ => none
theorem cd9_ok (w s j : Nat) (S : Sto) (d0 d2 d3 d4 d5 d7 d8 : Option Va) : cd9 [d0, some (.int (2 ^ w)), d2, d3, d4, d5, some (.int s), d7, d8, some (.int j)] S = .ok (decide ((j : Int) % 2 ^ w = s)) S := by
  have h0 : (0 : Int) < 2 ^ w := Int.pow_pos (by decide)
  simp [cEq, scE, h0]
theorem key9 (s w n : Nat) (hn : n ≤ 16777216) (S : Sto) (d0 d2 d3 d4 d5 d7 d8 : Option Va) :
    compG (nrng 0 n) (pname 9) cd9 (xvar 9) S.length [d0, some (.int (2 ^ w)), d2, d3, d4, d5, some (.int s), d7, d8, none] (n + 1) 0 (S ++ [.lst []]) = .ok (.loc S.length) (S ++ [.lst (((List.range n).map fun j => Va.int ((j : Nat) : Int)).filterMap (pick w s))]) := by
  have e : ((List.range n).map fun j => Va.int ((j : Nat) : Int)).length = n := by simp
  have key := compG_pure (nth := nrng 0 n) (put := pname 9) (cond := cd9) (elt := xvar 9) (δ := [d0, some (.int (2 ^ w)), d2, d3, d4, d5, some (.int s), d7, d8, none]) (ws := (List.range n).map fun j => Va.int ((j : Nat) : Int)) (pick w s) S (by rw [e]; exact hn) (fun S' i _ => nrng_list _ S' i) (fun v hv => by
    obtain ⟨j, hj, rfl⟩ := List.mem_map.mp hv
    refine ⟨[d0, some (.int (2 ^ w)), d2, d3, d4, d5, some (.int s), d7, d8, some (.int j)], rfl, fun S' _ => ?_⟩
    by_cases hc : (j : Int) % 2 ^ w = s
    · exact .inl ⟨.int j, by simp [pick, hc], by rw [cd9_ok]; simp [hc], rfl⟩
    · exact .inr ⟨by simp [pick, hc], by rw [cd9_ok]; simp [hc]⟩)
  rw [e] at key
  exact key
theorem pick_eq (w s : Nat) : ∀ l : List Nat, (l.map fun j => Va.int ((j : Nat) : Int)).filterMap (pick w s) = ((l.filter fun i => i % 2 ^ w == s).map fun (i : Nat) => (i : Int)).map Va.int
  | [] => rfl
  | j :: l => by
    have ih := pick_eq w s l
    have hj : ((j : Int) % 2 ^ w = (s : Int)) ↔ (j % 2 ^ w = s) := by
      have : ((j % 2 ^ w : Nat) : Int) = (j : Int) % 2 ^ w := by simp
      omega
    rw [List.map_cons, List.filterMap_cons, List.filter_cons]
    by_cases hc : j % 2 ^ w = s
    · simp only [pick, hj.mpr hc, if_true, hc, beq_self_eq_true, List.map_cons, ih]
    · have : ¬ (j : Int) % 2 ^ w = s := fun z => hc (hj.mp z)
      have hb' : (j % 2 ^ w == s) = false := by simpa using hc
      simp only [pick, this, if_false, hb', ih]
      rfl
theorem pw6 : ∀ L : Nat, L < 6 → big (2 ^ L) = true ∧ ((2 : Int) ^ L).toNat = 2 ^ L ∧ 2 ^ L ≤ 16777216 := by decide +kernel
theorem cmp_ok (s w L : Nat) (hL : L ≤ 5) (S : Sto) (d0 d2 d3 d5 d7 d8 d9 : Option Va) : xcomp [9] (irg1 (xvar 4)) (pname 9) cd9 (xvar 9) [d0, some (.int (2 ^ w)), d2, d3, some (.int (2 ^ L)), d5, some (.int s), d7, d8, d9] S = .ok (.loc S.length) (S ++ [.lst ((wi s w L).map .int)]) := by
  obtain ⟨hb, hn, h1'⟩ := pw6 L (by omega)
  rw [xcomp_at (irg1_at (n := 2 ^ L) rfl hb hn)]
  show compG (nrng 0 (2 ^ L)) (pname 9) cd9 (xvar 9) S.length [d0, some (.int (2 ^ w)), d2, d3, some (.int (2 ^ L)), d5, some (.int s), d7, d8, none] (2 ^ L + 1) 0 (S ++ [.lst []]) = _
  rw [key9 s w _ h1', pick_eq]
  rfl
end Law
namespace Law
open PySem L2 Rz
theorem seq2 {s t : XS} {δ δ1 : Rz.Env} {S S1 : Sto} {o : Out} (h : s δ S = .nx δ1 S1) (h2 : t δ1 S1 = o) : sseq s t δ S = o := by
  unfold sseq
  rw [h]
  exact h2
theorem p1 {w s L : Int} {S S1 : Sto} {l : Nat} {d0 d1 d3 d4 d7 d8 d9 : Option Va} (k : m_within [.int s, .int w, .int L] S = .ok (.loc l) S1) :
    sset 8 (ycall 3 m_within (acons (xvar 6) (acons (xvar 2) (acons (xvar 5) anil)))) [d0, d1, some (.int w), d3, d4, some (.int L), some (.int s), d7, d8, d9] S = .nx [d0, d1, some (.int w), d3, d4, some (.int L), some (.int s), d7, some (.loc l), d9] S1 := by
  have e : ycall 3 m_within (acons (xvar 6) (acons (xvar 2) (acons (xvar 5) anil))) [d0, d1, some (.int w), d3, d4, some (.int L), some (.int s), d7, d8, d9] S = m_within [.int s, .int w, .int L] S := rfl
  unfold sset
  rw [e, k]
  rfl
theorem p2 {x : XE} {δ : Rz.Env} {S S1 : Sto} {t : Str} {l m : Nat} (e8 : δ[8]? = some (some (.loc l))) (r1 : fRepr [.loc l] S = .ok (.str t) S) (k : x δ S = .ok (.loc m) S1) (r2 : fRepr [.loc m] S1 = .ok (.str t) S1) :
    sif (xbinB cNe (xcall fRepr (acons (xvar 8) anil)) (xcall fRepr (acons x anil))) (sret (xlit (.bl false))) snext δ S = .nx δ S1 := by
  have a1 : xcall fRepr (acons (xvar 8) anil) δ S = .ok (.str t) S := by
    have : acons (xvar 8) anil δ S = .ok [.loc l] S := by unfold acons xvar; rw [e8]; rfl
    unfold xcall
    rw [this]
    exact r1
  have a2 : xcall fRepr (acons x anil) δ S = .ok (.str t) S1 := by
    have : acons x anil δ S = .ok [.loc m] S1 := by unfold acons; rw [k]; rfl
    unfold xcall
    rw [this]
    exact r2
  have a3 : cNe (.str t) (.str t) S1 = .ok false S1 := by
    unfold cNe
    rw [cEq_str, decide_eq_true rfl]
    rfl
  have a4 : xbinB cNe (xcall fRepr (acons (xvar 8) anil)) (xcall fRepr (acons x anil)) δ S = .ok false S1 := by
    unfold xbinB
    rw [a1, bind_ok, a2, bind_ok, a3]
  unfold sif
  rw [a4]
  rfl
theorem p3 {δ : Rz.Env} {S : Sto} {l : Nat} {xs : List Va} (e8 : δ[8]? = some (some (.loc l))) (h : S[l]? = some (.lst xs)) (hz : xs.length < 16777216) : sexp (xmetL oApp (xvar 8) (acons (xun oNeg (xlit (.int 1))) anil)) δ S = .nx δ (S.set l (.lst (xs ++ [.int (-1)]))) := by
  have a : xmetL oApp (xvar 8) (acons (xun oNeg (xlit (.int 1))) anil) δ S = oApp (.loc l) [.int (-1)] S := by
    have x8 : xvar 8 δ S = .ok (.loc l) S := by unfold xvar; rw [e8]
    unfold xmetL
    rw [x8, bind_ok, isL_of h]
    rfl
  unfold sexp
  rw [a, oApp_eq h hz]
  rfl
theorem lang3 (w s L : Nat) (hL : L ≤ 5) (hw : w ≤ L) (hs : s < 2 ^ w) (S : Sto) (d0 d3 d7 d8 d9 : Option Va) :
    ∃ S', l_law_3 [d0, some (.int (2 ^ w)), some (.int w), d3, some (.int (2 ^ L)), some (.int L), some (.int s), d7, d8, d9] S = .nx [d0, some (.int (2 ^ w)), some (.int w), d3, some (.int (2 ^ L)), some (.int L), some (.int s), d7, some (.loc S.length), d9] S' ∧ Keep S S' := by
  have z := wi_len s w L hL
  have k1 := wit s w L hL hw hs S
  have g1 : getL (S ++ [Ob.lst ((wi s w L).map .int)]) S.length = some ((wi s w L).map .int) := getL_new _ _
  have r1 := fRepr_ints g1 (wi_small s w L hL) (by omega)
  have k2 := cmp_ok s w L hL (S ++ [Ob.lst ((wi s w L).map .int)]) d0 (some (.int w)) d3 (some (.int L)) d7 (some (.loc S.length)) d9
  have g2 : getL ((S ++ [Ob.lst ((wi s w L).map .int)]) ++ [Ob.lst ((wi s w L).map .int)]) (S ++ [Ob.lst ((wi s w L).map .int)]).length = some ((wi s w L).map .int) := getL_new _ _
  have r2 := fRepr_ints g2 (wi_small s w L hL) (by omega)
  have g3 := (Keep.app (S ++ [Ob.lst ((wi s w L).map .int)]) [Ob.lst ((wi s w L).map .int)]) S.length _ (get_new S (Ob.lst ((wi s w L).map .int)) [])
  exact ⟨_, seq2 (p1 k1) (seq2 (p2 rfl r1 k2 r2) (p3 rfl g3 (by rw [List.length_map]; omega))), Keep.set ((Keep.app _ _).trans (Keep.app _ _)) (Nat.le_refl _)⟩
abbrev E (w L : Nat) (d0 d3 d5 d6 d7 d8 d9 : Option Va) : Rz.Env := [d0, some (.int (2 ^ w)), some (.int w), d3, some (.int (2 ^ L)), d5, d6, d7, d8, d9]
theorem mulOk2 (i : Int) : mulOk i 2 = true := by
  unfold mulOk
  rw [Bool.or_eq_true]
  exact .inr rfl
theorem mul4 (i : Int) (S : Sto) (d0 d1 d2 d3 d5 d6 d7 d8 d9 : Option Va) : sset 4 (xbin oMul (xvar 4) (xlit (.int 2))) [d0, d1, d2, d3, some (.int i), d5, d6, d7, d8, d9] S = .nx [d0, d1, d2, d3, some (.int (i * 2)), d5, d6, d7, d8, d9] S := by
  have aa : oMul (.int i) (.int 2) S = .ok (.int (i * 2)) S := oMul_r S (by decide) (by decide)
  simp only [sset, xbin, xlit, xvar, List.getElem?_cons_succ, List.getElem?_cons_zero, bind_ok, aa, out_ok, List.set_cons_succ, List.set_cons_zero]
theorem lang2 (w s L : Nat) (hL : L ≤ 5) (hw : w ≤ L) (hs : s < 2 ^ w) (S : Sto) (d0 d3 d7 d8 d9 : Option Va) :
    ∃ d7' d8' S', l_law_2 (E w L d0 d3 (some (.int L)) (some (.int s)) d7 d8 d9) S = .nx (E w L d0 d3 (some (.int L)) (some (.int s)) d7' d8' d9) S' ∧ Keep S S' := by
  unfold l_law_2
  rw [sfor_at (irg1_at (n := 2) rfl (by decide) rfl)]
  obtain ⟨δ', S', h1, d7', d8', h2, h3⟩ := for_rng (put := pname 7) (body := l_law_3) (lo := 0) (n := 2) (δ := E w L d0 d3 (some (.int L)) (some (.int s)) d7 d8 d9) (S := S) (fun _ δ S' => ∃ d7 d8, δ = E w L d0 d3 (some (.int L)) (some (.int s)) d7 d8 d9 ∧ Keep S S') ⟨d7, d8, rfl, Keep.refl S⟩ (by
    rintro i δ S1 hi ⟨e7, e8, rfl, kp⟩
    refine ⟨_, rfl, ?_⟩
    obtain ⟨S2, k1, k2⟩ := lang3 w s L hL hw hs S1 d0 d3 (some (.int (0 + (i : Nat)))) e8 d9
    exact ⟨_, S2, .inl k1, _, _, rfl, kp.trans k2⟩)
  rw [h1, h2]
  exact ⟨d7', d8', S', rfl, h3⟩
theorem lang1 (w L : Nat) (hL : L ≤ 5) (hw : w ≤ L) (S : Sto) (d0 d3 d6 d7 d8 d9 : Option Va) :
    ∃ d6' d7' d8' S', l_law_1 (E w L d0 d3 (some (.int L)) d6 d7 d8 d9) S = .nx (E w (L + 1) d0 d3 (some (.int L)) d6' d7' d8' d9) S' ∧ Keep S S' := by
  obtain ⟨hb, hn, _⟩ := pw6 w (by omega)
  unfold l_law_1
  unfold sseq
  rw [sfor_at (irg1_at (n := 2 ^ w) rfl hb hn)]
  obtain ⟨δ', S', h1, d6', d7', d8', h2, h3⟩ := for_rng (put := pname 6) (body := l_law_2) (lo := 0) (n := 2 ^ w) (δ := E w L d0 d3 (some (.int L)) d6 d7 d8 d9) (S := S) (fun _ δ S' => ∃ d6 d7 d8, δ = E w L d0 d3 (some (.int L)) d6 d7 d8 d9 ∧ Keep S S') ⟨d6, d7, d8, rfl, Keep.refl S⟩ (by
    rintro i δ S1 hi ⟨e6, e7, e8, rfl, kp⟩
    refine ⟨E w L d0 d3 (some (.int L)) (some (.int i)) e7 e8 d9, by simp, ?_⟩
    obtain ⟨f7, f8, S2, k1, k2⟩ := lang2 w i L hL hw hi S1 d0 d3 e7 e8 d9
    exact ⟨_, S2, .inl k1, _, _, _, rfl, kp.trans k2⟩)
  rw [h1, h2, next_nx]
  refine ⟨d6', d7', d8', S', ?_, h3⟩
  rw [mul4]
  show _ = Out.nx [d0, some (.int (2 ^ w)), some (.int w), d3, some (.int (2 ^ (L + 1))), some (.int L), d6', d7', d8', d9] S'
  rw [Int.pow_succ]
theorem large_ok (w : Nat) (hw : w ≤ 5) (S : Sto) (d0 d3 d5 d6 d7 d8 d9 : Option Va) : ∃ d5' d6' d7' d8' S', sfor (irg2 (xvar 2) (xlit (.int 6))) (pname 5) l_law_1 (E w w d0 d3 d5 d6 d7 d8 d9) S = .nx (E w 6 d0 d3 d5' d6' d7' d8' d9) S' ∧ Keep S S' := by
  have hb : (big w && big 6) = true := by
    unfold big
    simp only [Bool.and_eq_true, decide_eq_true_eq]
    omega
  rw [sfor_at (irg2_at (i := w) (j := 6) (n := 6 - w) rfl rfl hb (by omega))]
  obtain ⟨δ', S', h1, d5', d6', d7', d8', h2, h3⟩ := for_rng (put := pname 5) (body := l_law_1) (lo := w) (n := 6 - w) (δ := E w w d0 d3 d5 d6 d7 d8 d9) (S := S) (fun i δ S' => ∃ d5 d6 d7 d8, δ = E w (w + i) d0 d3 d5 d6 d7 d8 d9 ∧ Keep S S') ⟨d5, d6, d7, d8, rfl, Keep.refl S⟩ (by
    rintro i δ S1 hi ⟨e5, e6, e7, e8, rfl, kp⟩
    refine ⟨E w (w + i) d0 d3 (some (.int (w + i : Nat))) e6 e7 e8 d9, by simp, ?_⟩
    obtain ⟨f6, f7, f8, S2, k1, k2⟩ := lang1 w (w + i) (by omega) (by omega) S1 d0 d3 e6 e7 e8 d9
    exact ⟨_, S2, .inl k1, _, _, _, _, rfl, kp.trans k2⟩)
  rw [h1, h2, show w + (6 - w) = 6 by omega]
  exact ⟨d5', d6', d7', d8', S', rfl, h3⟩
theorem code_ok (w c : Nat) (hw : w ≤ 5) (hc : c < 32) (S : Sto) (d0 d4 d5 d6 d7 d8 d9 : Option Va) : l_law_4 [d0, some (.int (2 ^ w)), some (.int w), some (.int c), d4, d5, d6, d7, d8, d9] S = .nx [d0, some (.int (2 ^ w)), some (.int w), some (.int c), d4, d5, d6, d7, d8, d9] S := by
  have h0 : (0 : Int) < 2 ^ w := Int.pow_pos (by decide)
  have h1 : (0 : Int) ≤ (c : Int) % 2 ^ w := Int.emod_nonneg _ (by omega)
  have h2 : (c : Int) % 2 ^ w ≤ c := by
    rcases Int.lt_or_le (c : Int) (2 ^ w) with q | q
    · rw [Int.emod_eq_of_lt (by omega) q]
      exact Int.le_refl _
    · exact Int.le_trans (Int.le_of_lt (Int.emod_lt_of_pos _ h0)) q
  have r := fRepr_int (S := S) (i := (c : Int) % 2 ^ w) (by omega)
  have k := bkt c w S (by omega) (by omega)
  have k' : m_bucket [.int c, .int w] S = .ok (.int ((c : Int) % 2 ^ w)) S := by simpa using k
  generalize (2 : Int) ^ w = m at *
  have e1 : (decide ((0 : Int) ≤ (c : Int)) && decide ((c : Int) ≤ 31)) = true := by simp; omega
  unfold l_law_4
  simp only [sif, Rz.xor, xbinB, ycall, acons, anil, xvar, xlit, xcall, xbin, cNe, List.getElem?_cons_succ, List.getElem?_cons_zero, bind_ok, List.length_cons, List.length_nil, if_true, ish, e1, cIsn, decide_true, Bool.not_true, Bool.false_eq_true, if_false]
  rw [k']
  simp only [bind_ok, fInt, oMod, if_pos h0, r, cEq_str, decide_true, Bool.not_true, out_ok, Bool.false_eq_true, if_false, snext]
end Law
namespace Law
open PySem L2 Rz
def tv (w n : Nat) : List Int := (List.range n).map fun j => T w ((j : Nat) : Int)
theorem cmpT (elt : XE) (w : Nat) (hw : w ≤ 5) (S : Sto) (d0 d3 d4 d5 d6 d7 d8 d9 : Option Va)
    (he : ∀ (j : Nat) (S : Sto), j < 2 ^ w → ∃ r, elt [d0, some (.int (2 ^ w)), some (.int w), d3, d4, d5, some (.int j), d7, d8, d9] S = .ok (.int (T w j)) (S ++ r)) :
    ∃ S', xcomp [6] (irg1 (xvar 1)) (pname 6) xyes elt [d0, some (.int (2 ^ w)), some (.int w), d3, d4, d5, d6, d7, d8, d9] S = .ok (.loc S.length) S' ∧ getL S' S.length = some ((tv w (2 ^ w)).map .int) ∧ Keep S S' := by
  obtain ⟨hb, hn, hx⟩ := pw6 w (by omega)
  rw [xcomp_at (irg1_at (n := 2 ^ w) rfl hb hn)]
  obtain ⟨acc, S', h1, h2, h3, h4⟩ := compG_inv (nth := nrng 0 (2 ^ w)) (put := pname 6) (cond := xyes) (elt := elt) (D := S.length) (δ := [d0, some (.int (2 ^ w)), some (.int w), d3, d4, d5, none, d7, d8, d9]) (n := 2 ^ w) (fun i acc S' => acc = (tv w i).map Va.int ∧ Keep S S') (2 ^ w) 0 [] (S ++ [.lst []]) (by omega) (get_new _ _ _) ⟨rfl, Keep.app _ _⟩ (fun i acc S1 hi hD ⟨ea, kp⟩ => by
    obtain ⟨r, hr⟩ := he i S1 hi
    refine ⟨.int (0 + (i : Nat)), [d0, some (.int (2 ^ w)), some (.int w), d3, d4, d5, some (.int i), d7, d8, d9], true, S1, by unfold nrng; rw [if_pos hi], by simp, rfl, ?_⟩
    rw [if_pos rfl]
    refine ⟨.int (T w i), S1 ++ r, hr, Keep.app S1 r _ _ hD, ?_, ?_, Keep.set (kp.trans (Keep.app _ _)) (Nat.le_refl _)⟩
    · have hs : sizeLine = 16777216 := sizeLine_eq
      have : acc.length = i := by rw [ea]; simp [tv]
      omega
    · rw [ea]
      simp [tv, List.range_succ]) (fun acc S1 _ => by unfold nrng; rw [if_neg (Nat.lt_irrefl _)])
  refine ⟨S', h1, ?_, h4⟩
  unfold getL
  rw [h2, h3]
theorem y62 (m : List Va → Sto → Rs Va) (a b : Int) (S : Sto) (d0 d1 d3 d4 d5 d7 d8 d9 : Option Va) : ycall 2 m (acons (xvar 6) (acons (xvar 2) anil)) [d0, d1, some (.int b), d3, d4, d5, some (.int a), d7, d8, d9] S = m [.int a, .int b] S := rfl
theorem cmps (w : Nat) (hw : w ≤ 5) (S : Sto) (d0 d3 d4 d5 d6 d7 d8 d9 : Option Va) : ∃ S', sif (xbinB cNe (xcomp [6] (irg1 (xvar 1)) (pname 6) xyes (ycall 2 m_turned (acons (xvar 6) (acons (xvar 2) anil)))) (xcomp [6] (irg1 (xvar 1)) (pname 6) xyes (ycall 2 m__law_turned (acons (xvar 6) (acons (xvar 2) anil))))) (sret (xlit (.bl false))) snext [d0, some (.int (2 ^ w)), some (.int w), d3, d4, d5, d6, d7, d8, d9] S = .nx [d0, some (.int (2 ^ w)), some (.int w), d3, d4, d5, d6, d7, d8, d9] S' ∧ Keep S S' := by
  obtain ⟨_, hn, _⟩ := pw6 w (by omega)
  have hc : ∀ j : Nat, j < 2 ^ w → (0 : Int) ≤ j ∧ (j : Int) < 2 ^ w := fun j h => by
    have : ((2 ^ w : Nat) : Int) = (2 : Int) ^ w := by simp
    omega
  obtain ⟨S1, a1, a2, a3⟩ := cmpT (ycall 2 m_turned (acons (xvar 6) (acons (xvar 2) anil))) w hw S d0 d3 d4 d5 d6 d7 d8 d9 (fun j S h => by
    refine ⟨[], ?_⟩
    rw [List.append_nil]
    rw [y62, (tl j w hw (hc j h) S).2.1])
  obtain ⟨S2, b1, b2, b3⟩ := cmpT (ycall 2 m__law_turned (acons (xvar 6) (acons (xvar 2) anil))) w hw S1 d0 d3 d4 d5 d6 d7 d8 d9 (fun j S h => by
    obtain ⟨r, q⟩ := (tl j w hw (hc j h) S).2.2
    refine ⟨r, ?_⟩
    rw [y62, q])
  refine ⟨S2, ?_, a3.trans b3⟩
  have e : cNe (.loc S.length) (.loc S1.length) S2 = .ok false S2 := by
    unfold cNe
    rw [cEq_ints (b3.getL a2) b2]
    rfl
  unfold sif xbinB
  rw [a1, bind_ok, b1, bind_ok, e]
  rfl
end Law
namespace Law
open PySem L2 Rz
theorem mul1 (i : Int) (S : Sto) (d0 d2 d3 d4 d5 d6 d7 d8 d9 : Option Va) : sset 1 (xbin oMul (xvar 1) (xlit (.int 2))) [d0, some (.int i), d2, d3, d4, d5, d6, d7, d8, d9] S = .nx [d0, some (.int (i * 2)), d2, d3, d4, d5, d6, d7, d8, d9] S := by
  have aa : oMul (.int i) (.int 2) S = .ok (.int (i * 2)) S := oMul_r S (by decide) (by decide)
  simp only [sset, xbin, xlit, xvar, List.getElem?_cons_succ, List.getElem?_cons_zero, bind_ok, aa, out_ok, List.set_cons_succ, List.set_cons_zero]
theorem set41 (v : Va) (S : Sto) (d0 d2 d3 d4 d5 d6 d7 d8 d9 : Option Va) : sset 4 (xvar 1) [d0, some v, d2, d3, d4, d5, d6, d7, d8, d9] S = .nx [d0, some v, d2, d3, some v, d5, d6, d7, d8, d9] S := rfl
theorem isw2 (w : Nat) (hw : w ≤ 5) (S : Sto) (d0 d1 d3 d4 d5 d6 d7 d8 d9 : Option Va) : sif (xbinB cIsn (ycall 1 m_is_width (acons (xvar 2) anil)) (xlit (.bl true))) (sret (xlit (.bl false))) snext [d0, d1, some (.int w), d3, d4, d5, d6, d7, d8, d9] S = .nx [d0, d1, some (.int w), d3, d4, d5, d6, d7, d8, d9] S := by
  have e1 : (decide ((0 : Int) ≤ (w : Int)) && decide ((w : Int) ≤ 5)) = true := by simp; omega
  simp only [sif, xbinB, ycall, acons, anil, xvar, xlit, List.getElem?_cons_succ, List.getElem?_cons_zero, bind_ok, List.length_cons, List.length_nil, if_true, isw, e1, cIsn, decide_true, Bool.not_true, out_ok, Bool.false_eq_true, if_false, snext]
theorem codes (w : Nat) (hw : w ≤ 5) (S : Sto) (d0 d3 d4 d5 d6 d7 d8 d9 : Option Va) : ∃ d3', sfor (irg1 (xlit (.int 32))) (pname 3) l_law_4 [d0, some (.int (2 ^ w)), some (.int w), d3, d4, d5, d6, d7, d8, d9] S = .nx [d0, some (.int (2 ^ w)), some (.int w), d3', d4, d5, d6, d7, d8, d9] S := by
  rw [sfor_at (irg1_at (n := 32) rfl (by decide) rfl)]
  obtain ⟨δ', S', h1, d3', h2, h3⟩ := for_rng (put := pname 3) (body := l_law_4) (lo := 0) (n := 32) (δ := [d0, some (.int (2 ^ w)), some (.int w), d3, d4, d5, d6, d7, d8, d9]) (S := S) (fun _ δ S' => ∃ d3, δ = [d0, some (.int (2 ^ w)), some (.int w), d3, d4, d5, d6, d7, d8, d9] ∧ S' = S) ⟨d3, rfl, rfl⟩ (by
    rintro i δ S1 hi ⟨e3, rfl, rfl⟩
    exact ⟨[d0, some (.int (2 ^ w)), some (.int w), some (.int i), d4, d5, d6, d7, d8, d9], by simp, _, _, .inl (code_ok w i hw hi S1 d0 d4 d5 d6 d7 d8 d9), _, rfl, rfl⟩)
  rw [h1, h2, h3]
  exact ⟨d3', rfl⟩
theorem width_ok (w : Nat) (hw : w ≤ 5) (S : Sto) (d0 d3 d4 d5 d6 d7 d8 d9 : Option Va) : ∃ d3' d4' d5' d6' d7' d8' S', l_law_0 [d0, some (.int (2 ^ w)), some (.int w), d3, d4, d5, d6, d7, d8, d9] S = .nx [d0, some (.int (2 ^ (w + 1))), some (.int w), d3', d4', d5', d6', d7', d8', d9] S' := by
  obtain ⟨d3', q1⟩ := codes w hw S d0 d3 d4 d5 d6 d7 d8 d9
  obtain ⟨S1, q2, _⟩ := cmps w hw S d0 d3' d4 d5 d6 d7 d8 d9
  obtain ⟨d5', d6', d7', d8', S2, q3, _⟩ := large_ok w hw S1 d0 d3' d5 d6 d7 d8 d9
  have q4 := mul1 (2 ^ w) S2 d0 (some (.int w)) d3' (some (.int (2 ^ 6))) d5' d6' d7' d8' d9
  rw [← Int.pow_succ] at q4
  exact ⟨_, _, _, _, _, _, _, seq2 (isw2 w hw S _ _ _ _ _ _ _ _ _) (seq2 q1 (seq2 q2 (seq2 (set41 _ _ _ _ _ _ _ _ _ _ _) (seq2 q3 q4))))⟩
theorem t13 (S : Sto) : m_turned [.int 13, .int 5] S = .ok (.int 22) S := (tl 13 5 (by decide) (by decide) S).2.1
theorem t22 (S : Sto) : m_turned [.int 22, .int 5] S = .ok (.int 13) S := (tl 22 5 (by decide) (by decide) S).2.1
theorem acons_at {x : XE} {as : XA} {δ : Rz.Env} {S S1 S2 : Sto} {v : Va} {vs : List Va} (h : x δ S = .ok v S1) (h2 : as δ S1 = .ok vs S2) : acons x as δ S = .ok (v :: vs) S2 := by
  unfold acons
  rw [h, bind_ok, h2, bind_ok]
theorem ycall_at {n : Nat} {m : List Va → Sto → Rs Va} {as : XA} {δ : Rz.Env} {S S1 : Sto} {ws : List Va} (h : as δ S = .ok ws S1) (hn : ws.length = n) : ycall n m as δ S = m ws S1 := by
  unfold ycall
  rw [h, bind_ok, if_pos hn]
theorem last_ok (δ : Rz.Env) (S : Sto) : sret (xboo (xbinB cEq (ycall 2 m_turned (acons (ycall 2 m_turned (acons (xlit (.int 13)) (acons (xlit (.int 5)) anil))) (acons (xlit (.int 5)) anil))) (xlit (.int 13)))) δ S = .rt (.bl true) S := by
  have e0 : ycall 2 m_turned (acons (xlit (.int 13)) (acons (xlit (.int 5)) anil)) δ S = .ok (.int 22) S := t13 S
  have e : ycall 2 m_turned (acons (ycall 2 m_turned (acons (xlit (.int 13)) (acons (xlit (.int 5)) anil))) (acons (xlit (.int 5)) anil)) δ S = .ok (.int 13) S := by
    exact (ycall_at (n := 2) (m := m_turned) (ws := [.int 22, .int 5]) (S1 := S) (acons_at (x := ycall 2 m_turned (acons (xlit (.int 13)) (acons (xlit (.int 5)) anil))) (as := acons (xlit (.int 5)) anil) (vs := [.int 5]) (S2 := S) e0 rfl) rfl).trans (t22 S)
  unfold sret xboo xbinB
  rw [e]
  rfl
theorem law_ok : LawOk m_law := fun ns _ => by
  obtain ⟨δ', S', h1, c0, c2, c3, c4, c5, c6, c7, c8, c9, h2⟩ := for_rng (put := pname 2) (body := l_law_0) (lo := 0) (n := 6) (δ := [some (.loc 0), some (.int (2 ^ 0)), none, none, none, none, none, none, none, none]) (S := [.frl (ns.map .int)]) (fun i δ _ => ∃ c0 c2 c3 c4 c5 c6 c7 c8 c9, δ = [c0, some (.int (2 ^ i)), c2, c3, c4, c5, c6, c7, c8, c9]) ⟨_, _, _, _, _, _, _, _, _, rfl⟩ (by
    rintro i δ S1 hi ⟨c0, c2, c3, c4, c5, c6, c7, c8, c9, rfl⟩
    obtain ⟨d3', d4', d5', d6', d7', d8', S2, q⟩ := width_ok i (by omega) S1 c0 c3 c4 c5 c6 c7 c8 c9
    exact ⟨[c0, some (.int (2 ^ i)), some (.int i), c3, c4, c5, c6, c7, c8, c9], by simp, _, S2, .inl q, _, _, _, _, _, _, _, _, _, rfl⟩)
  refine ⟨S', ?_⟩
  have e : b_law [some (.loc 0), none, none, none, none, none, none, none, none, none] [.frl (ns.map .int)] = .rt (.bl true) S' := by
    unfold b_law
    refine seq2 (δ1 := [some (.loc 0), some (.int (2 ^ 0)), none, none, none, none, none, none, none, none]) rfl (seq2 (δ1 := δ') (S1 := S') ?_ (last_ok _ _))
    rw [sfor_at (irg1_at (n := 6) rfl (by decide) rfl), h1]
  show (b_law [some (.loc 0), none, none, none, none, none, none, none, none, none] [.frl (ns.map .int)]).fin = _
  rw [e]
  rfl
end Law
open PySem PySem.W PyProof.Rows
set_option maxRecDepth 100000 in
set_option maxHeartbeats 0 in
theorem PySem.Challenge.cw_loosecursors_k02_bits_holds : PySem.Challenge.rw_loosecursors_k02_bits.Holds := by
  w_on; o_law; k_head; (case hw => w_witness2)
  k_fill
  refine Rz.walk_g (l := PySem.Challenge.rw_loosecursors_k02_bits) (k := 6) (x := "script") (m := Law.m_law) Law.law_ok rfl rfl ⟨rfl, by decide, by decide⟩ (fun w h Y => PySem.W.kIn_of Y) ?F
  case F =>
    intro w mg fa h KX G hmg
    refine' Law.all_mk KX G hmg ?a_InvalidHash ?x_InvalidHash ?k_InvalidHash ?b_InvalidHash ?t_InvalidHash ?a_InvalidNumber ?x_InvalidNumber ?k_InvalidNumber ?b_InvalidNumber ?t_InvalidNumber ?a_InvalidWidth ?x_InvalidWidth ?k_InvalidWidth ?b_InvalidWidth ?t_InvalidWidth ?z_bool ?z_int ?z_isinstance ?z_list ?z_range ?z_repr ?c_GREATEST_HASH ?c_GREATEST_WIDTH ?fa__law_turned ?fl__law_turned ?fc__law_turned ?fk__law_turned ?fa_is_integer ?fl_is_integer ?fc_is_integer ?fk_is_integer ?fa_is_between ?fl_is_between ?fc_is_between ?fk_is_between ?fa_is_width ?fl_is_width ?fc_is_width ?fk_is_width ?fa__check_width ?fl__check_width ?fc__check_width ?fk__check_width ?fa_buckets_of ?fl_buckets_of ?fc_buckets_of ?fk_buckets_of ?fa_is_hash ?fl_is_hash ?fc_is_hash ?fk_is_hash ?fa_check_hash ?fl_check_hash ?fc_check_hash ?fk_check_hash ?fa_bucket ?fl_bucket ?fc_bucket ?fk_bucket ?fa__check_number ?fl__check_number ?fc__check_number ?fk__check_number ?fa_turned ?fl_turned ?fc_turned ?fk_turned ?fa_within ?fl_within ?fc_within ?fk_within ?fa_law ?fl_law ?fc_law ?fk_law
    (case a_InvalidHash => k_is)
    (case x_InvalidHash => k_exc)
    (case k_InvalidHash => k_is)
    (case b_InvalidHash => k_is)
    (case t_InvalidHash => k_is)
    (case a_InvalidNumber => k_is)
    (case x_InvalidNumber => k_exc)
    (case k_InvalidNumber => k_is)
    (case b_InvalidNumber => k_is)
    (case t_InvalidNumber => k_is)
    (case a_InvalidWidth => k_is)
    (case x_InvalidWidth => k_exc)
    (case k_InvalidWidth => k_is)
    (case b_InvalidWidth => k_is)
    (case t_InvalidWidth => k_is)
    (case z_bool => k_is)
    (case z_int => k_is)
    (case z_isinstance => k_is)
    (case z_list => k_is)
    (case z_range => k_is)
    (case z_repr => k_is)
    (case c_GREATEST_HASH => k_is)
    (case c_GREATEST_WIDTH => k_is)
    (case fa__law_turned => k_is)
    (case fl__law_turned => k_is)
    (case fc__law_turned => k_is)
    (case fk__law_turned => k_is)
    (case fa_is_integer => k_is)
    (case fl_is_integer => k_is)
    (case fc_is_integer => k_is)
    (case fk_is_integer => k_is)
    (case fa_is_between => k_is)
    (case fl_is_between => k_is)
    (case fc_is_between => k_is)
    (case fk_is_between => k_is)
    (case fa_is_width => k_is)
    (case fl_is_width => k_is)
    (case fc_is_width => k_is)
    (case fk_is_width => k_is)
    (case fa__check_width => k_is)
    (case fl__check_width => k_is)
    (case fc__check_width => k_is)
    (case fk__check_width => k_is)
    (case fa_buckets_of => k_is)
    (case fl_buckets_of => k_is)
    (case fc_buckets_of => k_is)
    (case fk_buckets_of => k_is)
    (case fa_is_hash => k_is)
    (case fl_is_hash => k_is)
    (case fc_is_hash => k_is)
    (case fk_is_hash => k_is)
    (case fa_check_hash => k_is)
    (case fl_check_hash => k_is)
    (case fc_check_hash => k_is)
    (case fk_check_hash => k_is)
    (case fa_bucket => k_is)
    (case fl_bucket => k_is)
    (case fc_bucket => k_is)
    (case fk_bucket => k_is)
    (case fa__check_number => k_is)
    (case fl__check_number => k_is)
    (case fc__check_number => k_is)
    (case fk__check_number => k_is)
    (case fa_turned => k_is)
    (case fl_turned => k_is)
    (case fc_turned => k_is)
    (case fk_turned => k_is)
    (case fa_within => k_is)
    (case fl_within => k_is)
    (case fc_within => k_is)
    (case fk_within => k_is)
    (case fa_law => k_is)
    (case fl_law => k_is)
    (case fc_law => k_is)
    (case fk_law => k_is)
