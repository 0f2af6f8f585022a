import PyProof.Rows.All
import Wide.All
import OpenK.AllK
import Wide.FinOn
import HandS.ForMost
import HandS.ForExc
import HandS.TryMany
import HandS.ExcInit
import HandS.ExcField
import HandS.CallSlots
import HandS.IsInst
import HandS.Defaults
import HandS.Iter
import HandS.Text
import HandS.Conv
import KE.GoesNew
import KE.GoesEnum
import HandS.RaiseMore
import HandS.EndBits
import PyProof.EnumMake
import PySem.Challenge.RW_leastlooks_k12_inputs_and_patterns
import HandS.ExcIs
set_option Elab.async false
set_option linter.all false
set_option maxRecDepth 100000
set_option maxHeartbeats 4000000
/-! A layer of outcomes over data: what an expression is worth, what a statement does. -/
namespace LA
open PySem PySem.Spec PyProof.Rows L2

/-- of a list: it is not the run's own, it is one that may be written -/
structure G where
  s : Bool
  t : Bool
inductive D where
  | non | bl (b : Bool) | int (i : Int) | str (s : Str) | lst (g : G) (xs : List D) | tup (xs : List D) | dct (kvs : List (Key × D)) | pool | ty (n : String) | cls (a : Addr) | exn (a dx : Addr) (fs : List (Str × D))

/-- what the pool holds -/
structure PC where
  cell : Int
  cnt : Int
  big : Bool
  k : Int
def PC.vals (c : PC) : List V := [.int c.cell, .int c.cnt, .bl c.big, .int c.k]

/-- what is out of sight: the pool, and lists that are being filled -/
structure HD where
  pl : Option Addr
  z : List Addr
def HD.hid (p : HD) (a : Addr) : Prop := p.pl = some a ∨ a ∈ p.z
instance (p : HD) (a : Addr) : Decidable (p.hid a) := by unfold HD.hid; infer_instance
def HD.also (p : HD) (a : Addr) : HD := ⟨p.pl, a :: p.z⟩
def hide (p : HD) (H : Hp) : Hp := fun a => if p.hid a then none else H a
theorem hide_ne {p : HD} {H : Hp} {a : Addr} (h : ¬ p.hid a) : hide p H a = H a := if_neg h
theorem hide_some {p : HD} {H : Hp} {a : Addr} {o : HO} (h : hide p H a = some o) : H a = some o ∧ ¬ p.hid a := by
  unfold hide at h
  split at h
  · cases h
  · rename_i q
    exact ⟨h, q⟩
/-- what is tracked, the pool aside, stays -/
def Ext (p : HD) (H H' : Hp) : Prop := ∀ a o, p.pl ≠ some a → H a = some o → H' a = some o
theorem Ext.refl (p : HD) (H : Hp) : Ext p H H := fun _ _ _ h => h
theorem Ext.trans {p : HD} {H H1 H2 : Hp} (a : Ext p H H1) (b : Ext p H1 H2) : Ext p H H2 := fun x o n h => b x o n (a x o n h)
theorem Ext.new {p : HD} {H : Hp} {a : Addr} {o : HO} (h : H a = none) : Ext p H (upd H a o) := fun b u _ e => by
  rw [upd_ne (ne_of_none e h)]
  exact e
theorem Ext.hide {p : HD} {H H' : Hp} (e : Ext p H H') : ∀ a o, LA.hide p H a = some o → LA.hide p H' a = some o := fun a o h => by
  obtain ⟨h1, h2⟩ := hide_some h
  rw [hide_ne h2]
  exact e a o (fun z => h2 (.inl z)) h1
def PoolAt (p : HD) (H : Hp) (c : PC) : Prop := (∀ a, p.pl = some a → H a = some (.lst c.vals)) ∧ ∀ a ∈ p.z, ∃ o, H a = some o
theorem PoolAt.upd {p : HD} {H : Hp} {c : PC} {a : Addr} {o : HO} (h : PoolAt p H c) (n : H a = none) : PoolAt p (upd H a o) c := ⟨fun b e => by
  rw [upd_ne (ne_of_none (h.1 b e) n)]
  exact h.1 b e, fun b e => by
  obtain ⟨u, q⟩ := h.2 b e
  exact ⟨u, by rw [upd_ne (ne_of_none q n)]; exact q⟩⟩
/-- a new object -/
def New (p : HD) (H : Hp) (v : V) : Prop := ∀ a, v = .ref a → H a = none ∧ p.pl ≠ some a
theorem New.back {p : HD} {H H1 : Hp} {v : V} (e : Ext p H H1) (n : New p H1 v) : New p H v := fun a h => by
  obtain ⟨n1, n2⟩ := n a h
  refine ⟨?_, n2⟩
  cases q : H a with
  | none => rfl
  | some o =>
    rw [e a o n2 q] at n1
    cases n1
theorem fresh_back {p : HD} {H H1 : Hp} {c : PC} {a : Addr} (e : Ext p H H1) (h : PoolAt p H1 c) (n : H1 a = none) : H a = none := by
  cases q : H a with
  | none => rfl
  | some o =>
    have n2 : p.pl ≠ some a := fun z => by
      rw [h.1 a z] at n
      cases n
    rw [e a o n2 q] at n
    cases n
theorem New.of {p : HD} {H : Hp} {c : PC} {a : Addr} (h : PoolAt p H c) (n : H a = none) : New p H (.ref a) := fun b e => by
  cases e
  exact ⟨n, fun z => by
    rw [h.1 a z] at n
    cases n⟩
theorem New.sc {p : HD} {H : Hp} {v : V} (h : ∀ a, v ≠ .ref a) : New p H v := fun a e => absurd e (h a)
theorem Ext.sqL {K : PySem.W.Frag} {p : HD} {H H' : Hp} {a : Addr} {xs : List V} (e : Ext p H H') (h : SqL K (LA.hide p H) a xs) : SqL K (LA.hide p H') a xs := by
  rcases h with (h | ⟨o, h⟩) | h
  · exact .inl (.inl (e.hide _ _ h))
  · exact .inl (.inr ⟨o, e.hide _ _ h⟩)
  · exact .inr h
theorem Ext.sqT {K : PySem.W.Frag} {p : HD} {H H' : Hp} {a : Addr} {xs : List V} (e : Ext p H H') (h : SqT K (LA.hide p H) a xs) : SqT K (LA.hide p H') a xs := by
  rcases h with (h | ⟨o, h⟩) | h
  · exact .inl (.inl (e.hide _ _ h))
  · exact .inl (.inr ⟨o, e.hide _ _ h⟩)
  · exact .inr h
theorem Ext.rd {p : HD} {H H' : Hp} {a : Addr} {u : HO} (e : Ext p H H') (h : Rd (LA.hide p H) a u) : Rd (LA.hide p H') a u := by
  rcases h with h | ⟨o, h⟩
  · exact .inl (e.hide _ _ h)
  · exact .inr ⟨o, e.hide _ _ h⟩
theorem un_sqL {K : PySem.W.Frag} {p : HD} {H : Hp} {a : Addr} {xs : List V} (h : SqL K (hide p H) a xs) : SqL K H a xs := by
  rcases h with (h | ⟨o, h⟩) | h
  · exact .inl (.inl (hide_some h).1)
  · exact .inl (.inr ⟨o, (hide_some h).1⟩)
  · exact .inr h
theorem un_sqT {K : PySem.W.Frag} {p : HD} {H : Hp} {a : Addr} {xs : List V} (h : SqT K (hide p H) a xs) : SqT K H a xs := by
  rcases h with (h | ⟨o, h⟩) | h
  · exact .inl (.inl (hide_some h).1)
  · exact .inl (.inr ⟨o, (hide_some h).1⟩)
  · exact .inr h
theorem un_rd {p : HD} {H : Hp} {a : Addr} {u : HO} (h : Rd (hide p H) a u) : Rd H a u := by
  rcases h with h | ⟨o, h⟩
  · exact .inl (hide_some h).1
  · exact .inr ⟨o, (hide_some h).1⟩
/-- one map of what is in sight is within another -/
def Sub (G G' : Hp) : Prop := ∀ a o, G a = some o → G' a = some o
theorem Sub.sqL {K : PySem.W.Frag} {H H' : Hp} {a : Addr} {xs : List V} (e : Sub H H') (h : SqL K H a xs) : SqL K H' a xs := by
  rcases h with (h | ⟨o, h⟩) | h
  · exact .inl (.inl (e _ _ h))
  · exact .inl (.inr ⟨o, e _ _ h⟩)
  · exact .inr h
theorem Sub.sqT {K : PySem.W.Frag} {H H' : Hp} {a : Addr} {xs : List V} (e : Sub H H') (h : SqT K H a xs) : SqT K H' a xs := by
  rcases h with (h | ⟨o, h⟩) | h
  · exact .inl (.inl (e _ _ h))
  · exact .inl (.inr ⟨o, e _ _ h⟩)
  · exact .inr h
theorem Sub.rd {H H' : Hp} {a : Addr} {u : HO} (e : Sub H H') (h : Rd H a u) : Rd H' a u := by
  rcases h with h | ⟨o, h⟩
  · exact .inl (e _ _ h)
  · exact .inr ⟨o, e _ _ h⟩
theorem sub_also {p : HD} {H : Hp} {a : Addr} : Sub (hide (p.also a) H) (hide p H) := fun b o h => by
  obtain ⟨h1, h2⟩ := hide_some h
  rw [hide_ne (show ¬ p.hid b from fun z => h2 (z.elim .inl fun m => .inr (List.mem_cons_of_mem _ m)))]
  exact h1
theorem also_sub {p : HD} {H : Hp} {a : Addr} (n : H a = none) : Sub (hide p H) (hide (p.also a) H) := fun b o h => by
  obtain ⟨h1, h2⟩ := hide_some h
  rw [hide_ne (show ¬ (p.also a).hid b from fun z => z.elim (fun q => h2 (.inl q)) fun m => (List.mem_cons.mp m).elim (fun q => by rw [q, n] at h1; cases h1) fun q => h2 (.inr q))]
  exact h1

/-! ### values that are data -/
mutual
inductive DV (K : PySem.W.Frag) (p : HD) (H : Hp) : V → D → Prop
  | non : DV K p H .non .non
  | bl (b : Bool) : DV K p H (.bl b) (.bl b)
  | int (i : Int) : DV K p H (.int i) (.int i)
  | str (x : Str) : DV K p H (.str x) (.str x)
  | lst {a : Addr} {xs : List V} {g : G} {ds : List D} : ((g.s = true → a ≠ sysModules) ∧ (g.t = true → hide p H a = some (.lst xs))) → SqL K (hide p H) a xs → DVs K p H xs ds → DV K p H (.ref a) (.lst g ds)
  | tup {a : Addr} {xs : List V} {ds : List D} : SqT K (hide p H) a xs → DVs K p H xs ds → DV K p H (.ref a) (.tup ds)
  | dct {a : Addr} {kvs : List (Key × V)} {ds : List (Key × D)} : Rd (hide p H) a (.dK kvs) → DVk K p H kvs ds → DV K p H (.ref a) (.dct ds)
  | pool {a : Addr} : p.pl = some a → DV K p H (.ref a) .pool
  | ty (n : String) : DV K p H (.ty n) (.ty n)
  | cls (a : Addr) : DV K p H (.ref a) (.cls a)
  | exn {a dx : Addr} {fv : List (Str × V)} {fs : List (Str × D)} : hide p H dx = some (.xd fv) → DVf K p H fv fs → DV K p H (.ref a) (.exn a dx fs)
inductive DVs (K : PySem.W.Frag) (p : HD) (H : Hp) : List V → List D → Prop
  | nil : DVs K p H [] []
  | cons {v : V} {vs : List V} {d : D} {ds : List D} : DV K p H v d → DVs K p H vs ds → DVs K p H (v :: vs) (d :: ds)
inductive DVk (K : PySem.W.Frag) (p : HD) (H : Hp) : List (Key × V) → List (Key × D) → Prop
  | nil : DVk K p H [] []
  | cons {k : Key} {v : V} {vs : List (Key × V)} {d : D} {ds : List (Key × D)} : DV K p H v d → DVk K p H vs ds → DVk K p H ((k, v) :: vs) ((k, d) :: ds)
inductive DVf (K : PySem.W.Frag) (p : HD) (H : Hp) : List (Str × V) → List (Str × D) → Prop
  | nil : DVf K p H [] []
  | cons {f : Str} {v : V} {vs : List (Str × V)} {d : D} {ds : List (Str × D)} : DV K p H v d → DVf K p H vs ds → DVf K p H ((f, v) :: vs) ((f, d) :: ds)
end
section
variable {K : PySem.W.Frag} {p : HD} {H H' : Hp}
mutual
theorem DV.sub {q : HD} (e : Sub (hide p H) (hide q H')) (pe : ∀ a, p.pl = some a → q.pl = some a) : ∀ {v : V} {d : D}, DV K p H v d → DV K q H' v d
  | _, _, .non => .non
  | _, _, .bl b => .bl b
  | _, _, .int i => .int i
  | _, _, .str x => .str x
  | _, _, .lst b h r => .lst ⟨b.1, fun z => e _ _ (b.2 z)⟩ (e.sqL h) (DVs.sub e pe r)
  | _, _, .tup h r => .tup (e.sqT h) (DVs.sub e pe r)
  | _, _, .dct h r => .dct (e.rd h) (DVk.sub e pe r)
  | _, _, .pool h => .pool (pe _ h)
  | _, _, .ty n => .ty n
  | _, _, .cls a => .cls a
  | _, _, .exn h r => .exn (e _ _ h) (DVf.sub e pe r)
theorem DVs.sub {q : HD} (e : Sub (hide p H) (hide q H')) (pe : ∀ a, p.pl = some a → q.pl = some a) : ∀ {v : List V} {d : List D}, DVs K p H v d → DVs K q H' v d
  | _, _, .nil => .nil
  | _, _, .cons h r => .cons (DV.sub e pe h) (DVs.sub e pe r)
theorem DVk.sub {q : HD} (e : Sub (hide p H) (hide q H')) (pe : ∀ a, p.pl = some a → q.pl = some a) : ∀ {v : List (Key × V)} {d : List (Key × D)}, DVk K p H v d → DVk K q H' v d
  | _, _, .nil => .nil
  | _, _, .cons h r => .cons (DV.sub e pe h) (DVk.sub e pe r)
theorem DVf.sub {q : HD} (e : Sub (hide p H) (hide q H')) (pe : ∀ a, p.pl = some a → q.pl = some a) : ∀ {v : List (Str × V)} {d : List (Str × D)}, DVf K p H v d → DVf K q H' v d
  | _, _, .nil => .nil
  | _, _, .cons h r => .cons (DV.sub e pe h) (DVf.sub e pe r)
end
theorem DV.mono (e : Ext p H H') {v : V} {d : D} (h : DV K p H v d) : DV K p H' v d := h.sub (e.hide) fun _ z => z
theorem DVs.mono (e : Ext p H H') {v : List V} {d : List D} (h : DVs K p H v d) : DVs K p H' v d := h.sub (e.hide) fun _ z => z
theorem DV.also {a : Addr} (n : H a = none) {v : V} {d : D} (h : DV K p H v d) : DV K (p.also a) H v d := h.sub (also_sub n) fun _ z => z
theorem DV.less {a : Addr} {v : V} {d : D} (h : DV K (p.also a) H v d) : DV K p H v d := h.sub sub_also fun _ z => z
theorem DVs.length : ∀ {vs : List V} {ds : List D}, DVs K p H vs ds → vs.length = ds.length
  | _, _, .nil => rfl
  | _, _, .cons _ r => by rw [List.length_cons, List.length_cons, DVs.length r]
theorem DVs.get : ∀ {vs : List V} {ds : List D} {i : Nat} {d : D}, DVs K p H vs ds → ds[i]? = some d → ∃ v, vs[i]? = some v ∧ DV K p H v d
  | _, _, i, d, .nil, h => by simp at h
  | _, _, 0, d, .cons (v := v) h r, e => by
    have e' := Option.some.inj e
    subst e'
    exact ⟨v, rfl, h⟩
  | _, _, i + 1, d, .cons h r, e => DVs.get (i := i) r e
theorem DVs.get' : ∀ {vs : List V} {ds : List D} {i : Nat} {v : V}, DVs K p H vs ds → vs[i]? = some v → ∃ d, ds[i]? = some d ∧ DV K p H v d
  | _, _, i, d, .nil, h => by simp at h
  | _, _, 0, d, .cons (d := x) h r, e => by
    have e' := Option.some.inj e
    subst e'
    exact ⟨x, rfl, h⟩
  | _, _, i + 1, d, .cons h r, e => DVs.get' (i := i) r e
theorem DVs.app : ∀ {vs ws : List V} {ds es : List D}, DVs K p H vs ds → DVs K p H ws es → DVs K p H (vs ++ ws) (ds ++ es)
  | _, _, _, _, .nil, r => r
  | _, _, _, _, .cons h t, r => .cons h (DVs.app t r)
theorem dvs_strs : ∀ {ss : List Str}, DVs K p H (ss.map V.str) (ss.map D.str)
  | [] => .nil
  | s :: r => .cons (.str s) dvs_strs
theorem of_strs : ∀ {vs : List V} {ss : List Str}, DVs K p H vs (ss.map D.str) → vs = ss.map V.str
  | _, [], .nil => rfl
  | _, s :: r, .cons h t => by
    cases h
    rw [of_strs t]
    rfl
end

/-! ### the frame -/
abbrev Rho := List (Option D)
structure SR (K : PySem.W.Frag) (p : HD) (H : Hp) (σ : L2.St) (ρ : Rho) (c : PC) : Prop where
  len : σ.length = ρ.length
  at' : ∀ (i : Nat) (d : D), ρ[i]? = some (some d) → ∃ v, σ[i]? = some (some v) ∧ DV K p H v d
  pl : PoolAt p H c
section
variable {K : PySem.W.Frag} {p : HD} {H H' : Hp} {σ : L2.St} {ρ : Rho} {c c' : PC}
theorem SR.mono (s : SR K p H σ ρ c) (e : Ext p H H') (q : PoolAt p H' c') : SR K p H' σ ρ c' :=
  ⟨s.len, fun i d h => by
    obtain ⟨v, h1, h2⟩ := s.at' i d h
    exact ⟨v, h1, h2.mono e⟩, q⟩
theorem SR.set (s : SR K p H σ ρ c) (i : Nat) {v : V} {d : D} (h : DV K p H v d) : SR K p H (σ.set i (some v)) (ρ.set i (some d)) c := by
  refine ⟨by rw [List.length_set, List.length_set]; exact s.len, fun j e hj => ?_, s.pl⟩
  by_cases q : i = j
  · subst q
    rw [List.getElem?_set] at hj
    by_cases l : i < ρ.length
    · rw [if_pos rfl, if_pos l] at hj
      have e' := Option.some.inj (Option.some.inj hj)
      subst e'
      refine ⟨v, ?_, h⟩
      rw [List.getElem?_set, if_pos rfl, if_pos (by rw [s.len]; exact l)]
    · rw [if_pos rfl, if_neg l] at hj
      cases hj
  · rw [List.getElem?_set_ne q] at hj
    obtain ⟨w, h1, h2⟩ := s.at' j e hj
    exact ⟨w, by rw [List.getElem?_set_ne q]; exact h1, h2⟩
/-- slots of which nothing is known -/
theorem SR.weak {σ' : L2.St} {ρ' : Rho} (s : SR K p H σ ρ c) (hl : σ'.length = ρ'.length) (h : ∀ (i : Nat) (d : D), ρ'[i]? = some (some d) → ρ[i]? = some (some d)) (hs : ∀ (i : Nat) (v : V) (d : D), ρ'[i]? = some (some d) → σ[i]? = some (some v) → σ'[i]? = some (some v)) : SR K p H σ' ρ' c :=
  ⟨hl, fun i d e => by
    obtain ⟨v, h1, h2⟩ := s.at' i d (h i d e)
    exact ⟨v, hs i v d e h1, h2⟩, s.pl⟩
end

/-! ### outcomes -/
/-- of an expression -/
inductive EO where
  | val (d : D) (nw : Bool) (c : PC)
  | ex (C : Addr) (fs : List (Str × D)) (c : PC)
/-- of a test -/
inductive TO where
  | val (b : Bool) (c : PC)
  | ex (C : Addr) (fs : List (Str × D)) (c : PC)
inductive AO where
  | val (ds : List D) (c : PC)
  | ex (C : Addr) (fs : List (Str × D)) (c : PC)
/-- of a statement -/
inductive SO where
  | nx (ρ : Rho) (c : PC)
  | rt (d : D) (nw : Bool) (c : PC)
  | ex (C : Addr) (fs : List (Str × D)) (c : PC)
theorem DVf.mono {K : PySem.W.Frag} {p : HD} {H H' : Hp} (e : Ext p H H') {v : List (Str × V)} {d : List (Str × D)} (h : DVf K p H v d) : DVf K p H' v d := h.sub e.hide fun _ z => z
theorem DVf.get {K : PySem.W.Frag} {p : HD} {H : Hp} {f : Str} {d : D} : ∀ {vs : List (Str × V)} {ds : List (Str × D)}, DVf K p H vs ds → ds.lookup f = some d → ∃ v, vs.lookup f = some v ∧ DV K p H v d
  | _, _, .nil, h => by cases h
  | _, _, .cons (f := g) (v := v) (d := x) h r, e => by
    rw [List.lookup_cons] at e ⊢
    cases q : f == g with
    | true =>
      rw [q] at e
      have e' := Option.some.inj e
      subst e'
      exact ⟨v, rfl, h⟩
    | false =>
      rw [q] at e
      exact DVf.get r e

def XW (K : PySem.W.Frag) (W : WX) (p : HD) (ρ : Rho) (H : Hp) (C : Addr) (fs : List (Str × D)) (c' : PC) : Prop :=
  ∀ (dx : Addr) (fv : List (Str × V)) (σ' : L2.St) (H' : Hp), Ext p H H' → SR K p H' σ' ρ c' → hide p H' dx = some (.xd fv) → DVf K p H' fv fs → W (.ref C) (some dx) σ' H'
def tE (K : PySem.W.Frag) (W : WX) (p : HD) (ρ : Rho) (c : PC) : EO → TE
  | .val d nw c' => fun σ H Q => SR K p H σ ρ c ∧ ∀ v H', Ext p H H' → PoolAt p H' c' → DV K p H' v d → (nw = true → New p H v) → Q v H'
  | .ex C fs c' => fun σ H _ => SR K p H σ ρ c ∧ XW K W p ρ H C fs c'
def tT (K : PySem.W.Frag) (W : WX) (p : HD) (ρ : Rho) (c : PC) : TO → TT
  | .val b c' => fun σ H Q => SR K p H σ ρ c ∧ ∀ H', Ext p H H' → PoolAt p H' c' → Q b H'
  | .ex C fs c' => fun σ H _ => SR K p H σ ρ c ∧ XW K W p ρ H C fs c'
def tA (K : PySem.W.Frag) (W : WX) (p : HD) (ρ : Rho) (c : PC) : AO → TA
  | .val ds c' => fun σ H Q => SR K p H σ ρ c ∧ ∀ vs H', Ext p H H' → PoolAt p H' c' → DVs K p H' vs ds → Q vs H'
  | .ex C fs c' => fun σ H _ => SR K p H σ ρ c ∧ XW K W p ρ H C fs c'
def tSt (K : PySem.W.Frag) (W : WX) (p : HD) (ρ : Rho) (c : PC) : SO → TS
  | .nx ρ' c' => fun D σ H => SR K p H σ ρ c ∧ ∀ σ' H', Ext p H H' → SR K p H' σ' ρ' c' → D.nx σ' H'
  | .rt d nw c' => fun D σ H => SR K p H σ ρ c ∧ ∀ v H', Ext p H H' → PoolAt p H' c' → DV K p H' v d → (nw = true → New p H v) → D.rt v H'
  | .ex C fs c' => fun D σ H => SR K p H σ ρ c ∧ ∀ (ρ' : Rho) (dx : Addr) (fv : List (Str × V)) (σ' : L2.St) (H' : Hp), Ext p H H' → SR K p H' σ' ρ' c' → ρ'.length = ρ.length → hide p H' dx = some (.xd fv) → DVf K p H' fv fs → W (.ref C) (some dx) σ' H'
abbrev RE (X : Cx) (W : WX) (p : HD) (ρ : Rho) (c : PC) (e : Expr) (o : EO) : Prop := PE X e (tE X.K W p ρ c o)
abbrev RT (X : Cx) (W : WX) (p : HD) (ρ : Rho) (c : PC) (e : Expr) (o : TO) : Prop := PT X e (tT X.K W p ρ c o)
abbrev RA (X : Cx) (W : WX) (p : HD) (ρ : Rho) (c : PC) (es : List Expr) (o : AO) : Prop := PA X es (tA X.K W p ρ c o)
abbrev RS (X : Cx) (W : WX) (p : HD) (ρ : Rho) (c : PC) (st : Stmt) (o : SO) : Prop := PS X st (tSt X.K W p ρ c o)
abbrev RSs (X : Cx) (W : WX) (p : HD) (ρ : Rho) (c : PC) (st : List Stmt) (o : SO) : Prop := PSs X st (tSt X.K W p ρ c o)
theorem pe_imp {X : Cx} {e : Expr} {t t' : TE} (h : PE X e t) (w : ∀ σ H Q, t' σ H Q → t σ H Q) : PE X e t' := ⟨fun pins s σ H Q I q => h.run pins s σ H Q I (w σ H Q q)⟩
theorem pt_imp {X : Cx} {e : Expr} {t t' : TT} (h : PT X e t) (w : ∀ σ H Q, t' σ H Q → t σ H Q) : PT X e t' := ⟨fun pins s σ H Q I q => h.run pins s σ H Q I (w σ H Q q)⟩
theorem pw_imp {X : Cx} {e : Expr} {t t' : TT} (h : PW X e t) (w : ∀ σ H Q, t' σ H Q → t σ H Q) : PW X e t' := ⟨fun wh pins s σ H Q I q => h.run wh pins s σ H Q I (w σ H Q q)⟩
theorem pa_imp {X : Cx} {e : List Expr} {t t' : TA} (h : PA X e t) (w : ∀ σ H Q, t' σ H Q → t σ H Q) : PA X e t' := ⟨fun ps pins s σ H Q I q => h.run ps pins s σ H Q I (w σ H Q q)⟩
theorem ps_imp {X : Cx} {e : Stmt} {t t' : TS} (h : PS X e t) (w : ∀ D σ H, t' D σ H → t D σ H) : PS X e t' := ⟨fun pins s σ H D I q => h.run pins s σ H D I (w D σ H q)⟩
theorem pss_imp {X : Cx} {e : List Stmt} {t t' : TS} (h : PSs X e t) (w : ∀ D σ H, t' D σ H → t D σ H) : PSs X e t' := ⟨fun pins s σ H D I q => h.run pins s σ H D I (w D σ H q)⟩
end LA
namespace LA
open PySem PySem.Spec PyProof.Rows L2
section
variable {X : Cx} {W : WX} {p : HD} {ρ : Rho} {c c1 c2 c3 : PC} {e a b : Expr} {es : List Expr} {pos : Pos} {d d1 d2 : D} {n1 n2 nw : Bool}

/-! ### words and names -/
theorem re_c {v : V} {d : D} (h : PE X e (tC v)) (hv : ∀ H, DV X.K p H v d) (hs : ∀ a, v ≠ .ref a) : RE X W p ρ c e (.val d true c) :=
  pe_imp h fun _ H _ ⟨s, k⟩ => k v H (Ext.refl p H) s.pl (hv H) fun _ => New.sc hs
theorem re_int {i : Int} {j : Nat} : RE X W p ρ c (.Constant (.int i) j pos) (.val (.int i) true c) := re_c pe_int (fun _ => .int i) (by intro a h; cases h)
theorem re_bl {i : Bool} {j : Nat} : RE X W p ρ c (.Constant (.bool i) j pos) (.val (.bl i) true c) := re_c pe_bl (fun _ => .bl i) (by intro a h; cases h)
theorem re_non {j : Nat} : RE X W p ρ c (.Constant .none j pos) (.val .non true c) := re_c pe_non (fun _ => .non) (by intro a h; cases h)
theorem re_str {x : Str} {j : Nat} : RE X W p ρ c (.Constant (.str x) j pos) (.val (.str x) true c) := re_c pe_str (fun _ => .str x) (by intro a h; cases h)
theorem re_gint {x : Str} {i : Int} {t : Tok} (hm : X.mg x = some (.int i t)) (hg : Gl X x := by rfl) (hd : (x == ("__debug__" : Str)) = false := by decide) : RE X W p ρ c (.Name x pos) (.val (.int i) true c) :=
  re_c (pe_glob (v := .int i) hg hm ⟨t, rfl⟩ hd) (fun _ => .int i) (by intro a h; cases h)
theorem re_var (i : Nat) {x : Str} (hN : X.N[i]? = some x := by rfl) (hρ : ρ[i]? = some (some d) := by rfl) (hv : Vis X.env.scope x := by first | exact Or.inl rfl | exact Or.inr (Or.inl rfl) | exact Or.inr (Or.inr rfl))
    (hd : (x == ("__debug__" : Str)) = false := by decide) (hcd : (x == ("__classdict__" : Str)) = false := by decide) : RE X W p ρ c (.Name x pos) (.val d false c) :=
  pe_imp (pe_var hN hv hd hcd) fun σ H Q ⟨s, k⟩ => by
    obtain ⟨v, h1, h2⟩ := s.at' i d hρ
    exact ⟨v, h1, k v H (Ext.refl p H) s.pl h2 fun q => nomatch q⟩

/-! ### two in a row -/
/-- what an operation on data gives -/
def OV (K : PySem.W.Frag) (p : HD) (r : R2) (x y z : D) (nw : Bool) (c : PC) : Prop :=
  ∀ (v u : V) (H : Hp) (Q : VK), DV K p H v x → DV K p H u y → PoolAt p H c → (∀ w H', Ext p H H' → PoolAt p H' c → DV K p H' w z → (nw = true → New p H w) → Q w H') → r v u H Q
theorem two {ta tb : TE} {σ : L2.St} {H : Hp} {R : V → V → Hp → Prop} (s : SR X.K p H σ ρ c) (ha : ta = tE X.K W p ρ c (.val d1 n1 c1)) (hb : tb = tE X.K W p ρ c1 (.val d2 n2 c2))
    (k : ∀ v u H', Ext p H H' → PoolAt p H' c2 → DV X.K p H' v d1 → DV X.K p H' u d2 → R v u H') : ta σ H fun x H1 => tb σ H1 fun y H2 => R x y H2 := by
  subst ha hb
  refine ⟨s, fun v H1 e1 p1 dv _ => ⟨s.mono e1 p1, fun u H2 e2 p2 du _ => k v u H2 (e1.trans e2) p2 (dv.mono e2) du⟩⟩
theorem re_bin {op : Operator} {r : R2} (ho : OpR X (binaryOp op) r) (ha : RE X W p ρ c a (.val d1 n1 c1)) (hb : RE X W p ρ c1 b (.val d2 n2 c2)) (hr : OV X.K p r d1 d2 d nw c2) : RE X W p ρ c (.BinOp a op b pos) (.val d nw c2) :=
  pe_imp (pe_op ho ha hb) fun σ H Q ⟨s, k⟩ => two (W := W) s rfl rfl fun v u H1 e1 p1 dv du => hr v u H1 Q dv du p1 fun w H2 e2 p2 dw hn => k w H2 (e1.trans e2) p2 dw fun q => (hn q).back e1
theorem re_cmp {op : CmpOp} {r : R2} (ho : OpR X (compareOp op) r) (ha : RE X W p ρ c a (.val d1 n1 c1)) (hb : RE X W p ρ c1 b (.val d2 n2 c2)) (hr : OV X.K p r d1 d2 d nw c2)
    (hm : behindInMarks op b = false := by first | rfl | exact nomark _) : RE X W p ρ c (.Compare a [op] [b] pos) (.val d nw c2) :=
  pe_imp (pe_cmpR ho ha hb hm) fun σ H Q ⟨s, k⟩ => two (W := W) s rfl rfl fun v u H1 e1 p1 dv du => hr v u H1 Q dv du p1 fun w H2 e2 p2 dw hn => k w H2 (e1.trans e2) p2 dw fun q => (hn q).back e1
theorem rt_cmp {op : CmpOp} {r : R2} {k : Bool} (ho : OpR X (compareOp op) r) (ha : RE X W p ρ c a (.val d1 n1 c1)) (hb : RE X W p ρ c1 b (.val d2 n2 c2)) (hr : OV X.K p r d1 d2 (.bl k) nw c2)
    (hm : behindInMarks op b = false := by first | rfl | exact nomark _) : RT X W p ρ c (.Compare a [op] [b] pos) (.val k c2) :=
  pt_imp (pt_cmpR ho ha hb hm) fun σ H Q ⟨s, kk⟩ => two (W := W) s rfl rfl fun v u H1 e1 p1 dv du => hr v u H1 _ dv du p1 fun w H2 e2 p2 dw hn => by
    cases dw
    exact ⟨k, rfl, kk H2 (e1.trans e2) p2⟩
/-! answers of operations -/
variable {K : PySem.W.Frag}
theorem ov_I {C : Int → Int → Prop} {g : Int → Int → V} {i j : Int} {z : D} (hc : C i j) (hz : ∀ H, DV K p H (g i j) z) (hs : ∀ a, g i j ≠ .ref a) : OV K p (rI C g) (.int i) (.int j) z true c := fun v u H Q dv du hp k => by
  cases dv
  cases du
  exact ⟨i, j, rfl, rfl, hc, k _ H (Ext.refl p H) hp (hz H) fun _ => New.sc hs⟩
theorem ov_I0 {g : Int → Int → V} {i j : Int} {z : D} (hz : ∀ H, DV K p H (g i j) z) (hs : ∀ a, g i j ≠ .ref a) : OV K p (rI0 g) (.int i) (.int j) z true c := fun v u H Q dv du hp k => by
  cases dv
  cases du
  exact ⟨i, j, rfl, rfl, k _ H (Ext.refl p H) hp (hz H) fun _ => New.sc hs⟩
/-- ints to an int -/
theorem ov_ii {f : Int → Int → Int} {i j : Int} : OV K p (rI0 fun i j => .int (f i j)) (.int i) (.int j) (.int (f i j)) true c := ov_I0 (fun _ => .int _) (by intro a h; cases h)
theorem ov_ib {f : Int → Int → Bool} {i j : Int} : OV K p (rI0 fun i j => .bl (f i j)) (.int i) (.int j) (.bl (f i j)) true c := ov_I0 (fun _ => .bl _) (by intro a h; cases h)
theorem ov_cii {C : Int → Int → Prop} {f : Int → Int → Int} {i j : Int} (hc : C i j) : OV K p (rI C fun i j => .int (f i j)) (.int i) (.int j) (.int (f i j)) true c := ov_I hc (fun _ => .int _) (by intro a h; cases h)
theorem ov_addS {s t : Str} (h : s.length + t.length ≤ sizeLine) : OV K p (fun x y H Q => ∃ i j, x = .str i ∧ y = .str j ∧ i.length + j.length ≤ sizeLine ∧ Q (.str (i ++ j)) H) (.str s) (.str t) (.str (s ++ t)) true c := fun v u H Q dv du hp k => by
  cases dv
  cases du
  exact ⟨s, t, rfl, rfl, h, k _ H (Ext.refl p H) hp (.str _) fun _ => New.sc (by intro a h; cases h)⟩
/-- scalars, as == takes them -/
def scD : D → Option V
  | .non => some .non
  | .bl b => some (.bl b)
  | .int i => some (.int i)
  | .str s => some (.str s)
  | _ => none
theorem dv_sc {H : Hp} {v x : V} {d : D} (h : DV K p H v d) (e : scD d = some x) : v = x := by
  cases h <;> first | exact Option.some.inj e | cases e
theorem ov_eqS {x y : D} {v u : V} (hx : scD x = some v) (hy : scD y = some u) (hs : scal v u = true) : OV K p rEq x y (.bl (decide (v = u))) true c := fun v' u' H Q dv du hp k => by
  have e1 := dv_sc dv hx
  have e2 := dv_sc du hy
  subst e1 e2
  exact ⟨hs, k _ H (Ext.refl p H) hp (.bl _) fun _ => New.sc (by intro a h; cases h)⟩
theorem ov_neS {x y : D} {v u : V} (hx : scD x = some v) (hy : scD y = some u) (hs : scal v u = true) : OV K p rNe x y (.bl (!decide (v = u))) true c := fun v' u' H Q dv du hp k => by
  have e1 := dv_sc dv hx
  have e2 := dv_sc du hy
  subst e1 e2
  exact ⟨hs, k _ H (Ext.refl p H) hp (.bl _) fun _ => New.sc (by intro a h; cases h)⟩
theorem ov_inC {ch : Nat} {z : Str} : OV K p (fun x y H Q => ∃ (c : Nat) (z : Str), x = .str ⟨#[c]⟩ ∧ y = .str z ∧ Q (.bl (decide (c ∈ z.cps.toList))) H) (.str ⟨#[ch]⟩) (.str z) (.bl (decide (ch ∈ z.cps.toList))) true c := fun v u H Q dv du hp k => by
  cases dv
  cases du
  exact ⟨ch, z, rfl, rfl, k _ H (Ext.refl p H) hp (.bl _) fun _ => New.sc (by intro a h; cases h)⟩
theorem ov_niC {ch : Nat} {z : Str} : OV K p (fun x y H Q => ∃ (c : Nat) (z : Str), x = .str ⟨#[c]⟩ ∧ y = .str z ∧ Q (.bl (!decide (c ∈ z.cps.toList))) H) (.str ⟨#[ch]⟩) (.str z) (.bl (!decide (ch ∈ z.cps.toList))) true c := fun v u H Q dv du hp k => by
  cases dv
  cases du
  exact ⟨ch, z, rfl, rfl, k _ H (Ext.refl p H) hp (.bl _) fun _ => New.sc (by intro a h; cases h)⟩
/-- flat data, as in takes it -/
theorem dvs_sc {H : Hp} : ∀ {vs xs : List V} {ds : List D}, DVs K p H vs ds → ds.map scD = xs.map some → vs = xs
  | _, [], _, .nil, _ => rfl
  | _, x :: xs, _, .cons h r, e => by
    rw [List.map_cons, List.map_cons] at e
    injection e with e1 e2
    rw [dv_sc h e1, dvs_sc r e2]
  | _, x :: xs, _, .nil, e => by cases e
  | _, [], _, .cons h r, e => by cases e
theorem ov_inT {x : D} {ds : List D} {v : V} {xs : List V} {neg : Bool} (hx : scD x = some v) (hs : ds.map scD = xs.map some) (fx : flatV v = true) (fs : xs.all flatV = true) :
    OV K p (rIn K neg) x (.tup ds) (.bl (if neg then !inV v xs else inV v xs)) true c := fun v' u' H Q dv du hp k => by
  have e1 := dv_sc dv hx
  subst e1
  cases du with
  | tup h r =>
    have e2 := dvs_sc r hs
    subst e2
    exact ⟨_, _, rfl, .inr (un_sqT h), fx, fs, k _ H (Ext.refl p H) hp (.bl _) fun _ => New.sc (by intro a h; cases h)⟩

/-! ### and, or, not, if -/
theorem re_one {op : BoolOpKind} (h : True) : True := trivial
theorem re_and {rest : List Expr} {k1 k2 : Bool} (ha : RE X W p ρ c a (.val (.bl k1) n1 c1)) (hb : k1 = true → RE X W p ρ c1 (.BoolOp .And (b :: rest) pos) (.val (.bl k2) true c1)) : RE X W p ρ c (.BoolOp .And (a :: b :: rest) pos) (.val (.bl (k1 && k2)) true c1) := by
  cases k1 with
  | true =>
    exact pe_imp (pe_and ha (hb rfl)) fun σ H Q ⟨s, k⟩ => ⟨s, fun v H1 e1 p1 dv _ => by
      cases dv
      exact ⟨true, rfl, s.mono e1 p1, fun u H2 e2 p2 du hn => k u H2 (e1.trans e2) p2 du fun q => (hn q).back e1⟩⟩
  | false =>
    have hN : PE X (.BoolOp .And (b :: rest) pos) (fun _ _ _ => False) := ⟨fun _ _ _ _ _ _ z => z.elim⟩
    exact pe_imp (pe_and ha hN) fun σ H Q ⟨s, k⟩ => ⟨s, fun v H1 e1 p1 dv _ => by
      cases dv
      refine ⟨false, rfl, ?_⟩
      refine iteF ?_
      exact k _ H1 e1 p1 (.bl false) fun _ => New.sc (by intro a h; cases h)⟩
theorem re_and1 {op : BoolOp} (h : RE X W p ρ c a (.val d nw c1)) : RE X W p ρ c (.BoolOp op [a] pos) (.val d nw c1) := pe_one h
theorem re_if {t : Expr} {k : Bool} {o : EO} (ht : RT X W p ρ c t (.val k c1)) (h1 : k = true → RE X W p ρ c1 a o) (h2 : k = false → RE X W p ρ c1 b o) : RE X W p ρ c (.IfExp t a b pos) o := by
  have N : ∀ e, PE X e (fun _ _ _ => False) := fun e => ⟨fun _ _ _ _ _ _ z => z.elim⟩
  cases k with
  | true =>
    refine pe_imp (pe_ifExp ht (h1 rfl) (N b)) fun σ H Q h => ?_
    cases o with
    | val d nw c' => exact ⟨h.1, fun H1 e1 p1 => ⟨h.1.mono e1 p1, fun v H2 e2 p2 dv hn => h.2 v H2 (e1.trans e2) p2 dv fun q => (hn q).back e1⟩⟩
    | ex C fs c' => exact ⟨h.1, fun H1 e1 p1 => ⟨h.1.mono e1 p1, fun dx fv σ' H2 e2 s2 hx hf => h.2 dx fv σ' H2 (e1.trans e2) s2 hx hf⟩⟩
  | false =>
    refine pe_imp (pe_ifExp ht (N a) (h2 rfl)) fun σ H Q h => ?_
    cases o with
    | val d nw c' =>
      refine ⟨h.1, fun H1 e1 p1 => ?_⟩
      refine iteF ?_
      exact ⟨h.1.mono e1 p1, fun v H2 e2 p2 dv hn => h.2 v H2 (e1.trans e2) p2 dv fun q => (hn q).back e1⟩
    | ex C fs c' =>
      refine ⟨h.1, fun H1 e1 p1 => ?_⟩
      refine iteF ?_
      exact ⟨h.1.mono e1 p1, fun dx fv σ' H2 e2 s2 hx hf => h.2 dx fv σ' H2 (e1.trans e2) s2 hx hf⟩
/-- a bool as a test -/
theorem rt_val {k : Bool} (h : RE X W p ρ c e (.val (.bl k) nw c1)) (he : ∀ whole, isTrue e X.env whole = (do let v ← whole; standAt e.pos; holding [v] (truthy v)) := by intro _; rfl) : RT X W p ρ c e (.val k c1) :=
  pt_imp (pt_val h he) fun σ H Q ⟨s, kk⟩ => ⟨s, fun v H1 e1 p1 dv _ => by
    cases dv
    exact ⟨k, rfl, kk H1 e1 p1⟩⟩
theorem rt_ex {C : Addr} {fs : List (Str × D)} (h : RE X W p ρ c e (.ex C fs c1)) (he : ∀ whole, isTrue e X.env whole = (do let v ← whole; standAt e.pos; holding [v] (truthy v)) := by intro _; rfl) : RT X W p ρ c e (.ex C fs c1) :=
  pt_imp (pt_val h he) fun σ H Q q => q
/-- a list's truth -/
theorem rt_lst {g : G} {ds : List D} (h : RE X W p ρ c e (.val (.lst g ds) nw c1)) (he : ∀ whole, isTrue e X.env whole = (do let v ← whole; standAt e.pos; holding [v] (truthy v)) := by intro _; rfl) : RT X W p ρ c e (.val (!ds.isEmpty) c1) :=
  pt_imp (pt_truth h he) fun σ H Q ⟨s, kk⟩ => ⟨s, fun v H1 e1 p1 dv _ => by
    cases dv with
    | lst _ h r =>
      refine ⟨!ds.isEmpty, .inl ⟨_, un_sqL h, ?_⟩, kk H1 e1 p1⟩
      cases r <;> rfl⟩
theorem rt_not {k : Bool} (h : RT X W p ρ c a (.val k c1)) : RT X W p ρ c (.UnaryOp .Not a pos) (.val (!k) c1) :=
  pt_imp (pt_not h) fun σ H Q ⟨s, kk⟩ => ⟨s, fun H1 e1 p1 => kk H1 e1 p1⟩
def RW (X : Cx) (W : WX) (p : HD) (ρ : Rho) (c : PC) (e : Expr) (o : TO) : Prop := PW X e (tT X.K W p ρ c o)
theorem rw_or {rest : List Expr} {k1 k2 : Bool} (ha : RT X W p ρ c a (.val k1 c1)) (hb : k1 = false → RW X W p ρ c1 (.BoolOp .Or (b :: rest) pos) (.val k2 c1)) : RW X W p ρ c (.BoolOp .Or (a :: b :: rest) pos) (.val (k1 || k2) c1) := by
  have N : PW X (.BoolOp .Or (b :: rest) pos) (fun _ _ _ => False) := ⟨fun _ _ _ _ _ _ _ z => z.elim⟩
  cases k1 with
  | true =>
    exact pw_imp (pw_or ha N) fun σ H Q ⟨s, kk⟩ => ⟨s, fun H1 e1 p1 => kk H1 e1 p1⟩
  | false =>
    refine pw_imp (pw_or ha (hb rfl)) fun σ H Q ⟨s, kk⟩ => ⟨s, fun H1 e1 p1 => ?_⟩
    refine iteF ?_
    exact ⟨s.mono e1 p1, fun H2 e2 p2 => kk H2 (e1.trans e2) p2⟩
theorem rw_or1 {k : Bool} (ha : RT X W p ρ c a (.val k c1)) : RW X W p ρ c (.BoolOp .Or [a] pos) (.val k c1) := pw_or1 ha
theorem rw_and {rest : List Expr} {k1 k2 : Bool} (ha : RT X W p ρ c a (.val k1 c1)) (hb : k1 = true → RW X W p ρ c1 (.BoolOp .And (b :: rest) pos) (.val k2 c1)) : RW X W p ρ c (.BoolOp .And (a :: b :: rest) pos) (.val (k1 && k2) c1) := by
  have N : PW X (.BoolOp .And (b :: rest) pos) (fun _ _ _ => False) := ⟨fun _ _ _ _ _ _ _ z => z.elim⟩
  cases k1 with
  | false =>
    refine pw_imp (pw_and ha N) fun σ H Q ⟨s, kk⟩ => ⟨s, fun H1 e1 p1 => ?_⟩
    refine iteF ?_
    exact kk H1 e1 p1
  | true =>
    exact pw_imp (pw_and ha (hb rfl)) fun σ H Q ⟨s, kk⟩ => ⟨s, fun H1 e1 p1 => ⟨s.mono e1 p1, fun H2 e2 p2 => kk H2 (e1.trans e2) p2⟩⟩
theorem rw_and1 {k : Bool} (ha : RT X W p ρ c a (.val k c1)) : RW X W p ρ c (.BoolOp .And [a] pos) (.val k c1) := pw_and1 ha
theorem RW.rt {o : TO} (h : RW X W p ρ c e o) : RT X W p ρ c e o := PW.pt h

/-! ### arguments, displays -/
theorem ra_nil : RA X W p ρ c [] (.val [] c) := pa_imp pa_nil fun σ H Q ⟨s, k⟩ => k [] H (Ext.refl p H) s.pl .nil
theorem ra_cons {ds : List D} (ha : RE X W p ρ c e (.val d nw c1)) (hr : RA X W p ρ c1 es (.val ds c2)) (hs : starEach (e :: es) X.env = (false, eval e X.env) :: starEach es X.env := by rfl) : RA X W p ρ c (e :: es) (.val (d :: ds) c2) :=
  pa_imp (pa_cons ha hr hs) fun σ H Q ⟨s, k⟩ => ⟨s, fun v H1 e1 p1 dv _ => ⟨s.mono e1 p1, fun vs H2 e2 p2 dvs => k (v :: vs) H2 (e1.trans e2) p2 (.cons (dv.mono e2) dvs)⟩⟩
theorem sz_le {n : Nat} (h : n ≤ 100000) : n ≤ sizeLine := Nat.le_trans h (by decide)
theorem sz_lt {n : Nat} (h : n < 100000) : n < sizeLine := Nat.lt_of_lt_of_le h (by decide)
theorem hide_upd {p : HD} {H : Hp} {c : PC} {a : Addr} {o : HO} (hp : PoolAt p H c) (n : H a = none) : hide p (upd H a o) a = some o := by
  rw [hide_ne, upd_same]
  intro z
  rcases z with z | z
  · rw [hp.1 a z] at n
    cases n
  · obtain ⟨u, q⟩ := hp.2 a z
    rw [q] at n
    cases n
/-- a written list stands behind the run's own objects -/
def tLstB (t : TA) : TE := fun σ H Q => t σ H fun xs H1 => xs.length ≤ sizeLine ∧ ∀ p, H1 p = none → p ≠ sysModules → Q (.ref p) (upd H1 p (.lst xs))
theorem pe_lstB {t : TA} (h : PA X es t) : PE X (.List es pos) (tLstB t) := ⟨fun pins s σ H Q I hq =>
  wpAny_List_spliced (thn (h.run pos pins s σ H _ I hq) fun us sh ⟨vs, H1, J, rv, hz, q⟩ => by
    have nf : H1 sh.heap.objs.size = none := J.hok.fresh (Nat.le_refl _)
    refine ⟨by rw [← rv.length]; exact hz, .ref sh.heap.objs.size, upd H1 sh.heap.objs.size (.lst vs), ?_, rfl, q _ nf (Nat.ne_of_gt J.big)⟩
    exact J.laid (t' := sh.toks) (fun b u y => Heap.get?_push_of_some _ y) (Nat.le_refl _) ⟨hz, us, 0, rv, Heap.get?_push_size _ rfl⟩)⟩
theorem re_lst {ds : List D} (h : RA X W p ρ c es (.val ds c1)) (hl : ds.length ≤ 100000) : RE X W p ρ c (.List es pos) (.val (.lst ⟨true, true⟩ ds) true c1) :=
  pe_imp (pe_lstB h) fun σ H Q ⟨s, k⟩ => ⟨s, fun vs H1 e1 p1 dvs => ⟨by rw [dvs.length]; exact sz_le hl, fun a n hb =>
    k _ _ (e1.trans (Ext.new n)) (p1.upd n) (.lst ⟨fun _ => hb, fun _ => hide_upd p1 n⟩ (.inl (.inl (hide_upd p1 n))) (dvs.mono (Ext.new n))) fun _ => (New.of p1 n).back e1⟩⟩
theorem re_tup {ds : List D} {x1 : Nat} (h : RA X W p ρ c es (.val ds c1)) (hl : ds.length ≤ 100000) : RE X W p ρ c (.Tuple es x1 pos) (.val (.tup ds) true c1) :=
  pe_imp (pe_tup h) fun σ H Q ⟨s, k⟩ => ⟨s, fun vs H1 e1 p1 dvs => ⟨by rw [dvs.length]; exact sz_le hl, fun a n =>
    k _ _ (e1.trans (Ext.new n)) (p1.upd n) (.tup (.inl (.inl (hide_upd p1 n))) (dvs.mono (Ext.new n))) fun _ => (New.of p1 n).back e1⟩⟩

/-! ### subscripts -/
theorem re_ix {r : R2} (hr : IxR X r) (ha : RE X W p ρ c a (.val d1 n1 c1)) (hb : RE X W p ρ c1 b (.val d2 n2 c2)) (hv : OV X.K p r d1 d2 d nw c2) (hs : PlainIx b := by exact fun _ _ => rfl) : RE X W p ρ c (.Subscript a b pos) (.val d nw c2) :=
  pe_imp (pe_ix hr ha hb hs) fun σ H Q ⟨s, k⟩ => two (W := W) s rfl rfl fun v u H1 e1 p1 dv du => hv v u H1 Q dv du p1 fun w H2 e2 p2 dw hn => k w H2 (e1.trans e2) p2 dw fun q => (hn q).back e1
theorem dvs_atI {H : Hp} {vs : List V} {ds : List D} {i : Int} {j : Nat} {d : D} (r : DVs K p H vs ds) (e : i = (j : Int)) (h : ds[j]? = some d) : ∃ v, atI vs i = some v ∧ DV K p H v d := by
  obtain ⟨v, h1, h2⟩ := r.get h
  exact ⟨v, at_of e h1, h2⟩
theorem ov_ixL {g : G} {ds : List D} {i : Int} {j : Nat} {d : D} (e : i = (j : Int)) (h : ds[j]? = some d) : OV K p (rIx K) (.lst g ds) (.int i) d false c := fun v u H Q dv du hp k => by
  cases dv with
  | lst _ hq r =>
    cases du
    obtain ⟨w, h1, h2⟩ := dvs_atI r e h
    exact .inl ⟨_, _, i, w, rfl, rfl, un_sqL hq, h1, k w H (Ext.refl p H) hp h2 fun q => nomatch q⟩
theorem ov_ixT {ds : List D} {i : Int} {j : Nat} {d : D} (e : i = (j : Int)) (h : ds[j]? = some d) : OV K p (rIx K) (.tup ds) (.int i) d false c := fun v u H Q dv du hp k => by
  cases dv with
  | tup hq r =>
    cases du
    obtain ⟨w, h1, h2⟩ := dvs_atI r e h
    exact .inr (.inl ⟨_, _, i, w, rfl, rfl, un_sqT hq, h1, k w H (Ext.refl p H) hp h2 fun q => nomatch q⟩)
theorem ov_ixS {s : Str} {i : Int} {j : Nat} {ch : Nat} (hz : s.length ≤ sizeLine) (e : i = (j : Int)) (h : s.cps.toList[j]? = some ch) : OV K p (rIx K) (.str s) (.int i) (.str ⟨#[ch]⟩) true c := fun v u H Q dv du hp k => by
  cases dv
  cases du
  exact .inr (.inr ⟨s, i, ch, rfl, rfl, hz, (by rw [e]; exact atI_nat h), k _ H (Ext.refl p H) hp (.str _) fun _ => New.sc (by intro a h; cases h)⟩)

/-! ### calls of built-ins -/
def CV (K : PySem.W.Frag) (p : HD) (r : List V → Hp → VK → Prop) (xs : List D) (z : D) (nw : Bool) (c : PC) : Prop :=
  ∀ (vs : List V) (H : Hp) (Q : VK), DVs K p H vs xs → PoolAt p H c → (∀ w H', Ext p H H' → PoolAt p H' c → DV K p H' w z → (nw = true → New p H w) → Q w H') → r vs H Q
theorem re_callB {id : String} {x : Str} {ps : Pos} {r : List V → Hp → VK → Prop} {ds : List D} (hc : CallR X (.builtin id) r) (hm : X.mg x = none) (hv : bootBuiltins x = some (.builtin id)) (ha : RA X W p ρ c (e :: es) (.val ds c1)) (hr : CV X.K p r ds d nw c1)
    (hg : Gl X x := by rfl) (hn : x ≠ "__name__" := by decide) (hdb : (x == ("__debug__" : Str)) = false := by decide)
    (he : starEach (e :: es) X.env = (false, eval e X.env) :: starEach es X.env := by rfl) (hpl : (backTo pos (starEach es X.env)).any (·.1) = false := by rfl) : RE X W p ρ c (.Call (.Name x ps) (e :: es) [] pos) (.val d nw c1) :=
  pe_imp (pe_callB hc hg hm hv ha hn hdb he hpl) fun σ H Q ⟨s, k⟩ => ⟨s, fun vs H1 e1 p1 dvs => hr vs H1 Q dvs p1 fun w H2 e2 p2 dw hn => k w H2 (e1.trans e2) p2 dw fun q => (hn q).back e1⟩
theorem re_callT {T : String} {x : Str} {ps : Pos} {r : List V → Hp → VK → Prop} {ds : List D} (hc : CallR X (.type T) r) (hm : X.mg x = none) (hv : bootBuiltins x = some (.type T)) (ha : RA X W p ρ c (e :: es) (.val ds c1)) (hr : CV X.K p r ds d nw c1)
    (hg : Gl X x := by rfl) (hn : x ≠ "__name__" := by decide) (hdb : (x == ("__debug__" : Str)) = false := by decide)
    (he : starEach (e :: es) X.env = (false, eval e X.env) :: starEach es X.env := by rfl) (hpl : (backTo pos (starEach es X.env)).any (·.1) = false := by rfl) : RE X W p ρ c (.Call (.Name x ps) (e :: es) [] pos) (.val d nw c1) :=
  pe_imp (pe_callTy hc hg hm hv ha hn hdb he hpl) fun σ H Q ⟨s, k⟩ => ⟨s, fun vs H1 e1 p1 dvs => hr vs H1 Q dvs p1 fun w H2 e2 p2 dw hn => k w H2 (e1.trans e2) p2 dw fun q => (hn q).back e1⟩
theorem cv_lenS {s : Str} (hz : s.length ≤ sizeLine) : CV K p (fun xs H Q => ∃ z, xs = [.str z] ∧ z.length ≤ sizeLine ∧ Q (.int z.length) H) [.str s] (.int s.length) true c := fun vs H Q dvs hp k => by
  cases dvs with
  | cons h r =>
    cases r
    cases h
    exact ⟨s, rfl, hz, k _ H (Ext.refl p H) hp (.int _) fun _ => New.sc (by intro a h; cases h)⟩
theorem cv_int {i : Int} : CV K p (fun xs H Q => (∃ i, xs = [.int i] ∧ Q (.int i) H) ∨ ∃ k, xs = [.bl k] ∧ Q (.int (if k then 1 else 0)) H) [.int i] (.int i) true c := fun vs H Q dvs hp k => by
  cases dvs with
  | cons h r =>
    cases r
    cases h
    exact .inl ⟨i, rfl, k _ H (Ext.refl p H) hp (.int _) fun _ => New.sc (by intro a h; cases h)⟩
end
end LA
namespace LA
open PySem PySem.Spec PyProof.Rows L2
/-! ### what a def promises -/
abbrev FSpec := List D → PC → EO → Prop
def FO (K : PySem.W.Frag) (p : HD) (H : Hp) (Q : VK) (E : XK) : EO → Prop
  | .val d nw c' => ∀ v H', Ext p H H' → PoolAt p H' c' → DV K p H' v d → (nw = true → New p H v) → Q v H'
  | .ex C fs c' => ∀ (dx : Addr) (fv : List (Str × V)) (H' : Hp), Ext p H H' → PoolAt p H' c' → hide p H' dx = some (.xd fv) → DVf K p H' fv fs → E (.ref C) (some dx) H'
def spF (K : PySem.W.Frag) (R : FSpec) : Sp := fun vs H Q E => ∃ (p : HD) (c : PC) (ds : List D) (o : EO), DVs K p H vs ds ∧ PoolAt p H c ∧ R ds c o ∧ FO K p H Q E o
def startR (N : List Str) (ds : List D) : Rho := ds.map some ++ List.replicate (N.length - ds.length) none
theorem sr_start {K : PySem.W.Frag} {p : HD} {H : Hp} {c : PC} {N : List Str} {vs : List V} {ds : List D} (h : DVs K p H vs ds) (q : PoolAt p H c) : SR K p H (L2.start N vs) (startR N ds) c := by
  have hl := h.length
  refine ⟨?_, fun i d e => ?_, q⟩
  · unfold L2.start startR
    rw [List.length_append, List.length_append, List.length_map, List.length_map, List.length_replicate, List.length_replicate, hl]
  · unfold startR at e
    by_cases hi : i < ds.length
    · rw [List.getElem?_append_left (by rw [List.length_map]; exact hi), List.getElem?_map] at e
      cases g : ds[i]? with
      | none =>
        rw [g] at e
        cases e
      | some x =>
        rw [g] at e
        have e' : x = d := Option.some.inj (Option.some.inj e)
        subst e'
        obtain ⟨v, h1, h2⟩ := h.get g
        refine ⟨v, ?_, h2⟩
        unfold L2.start
        rw [List.getElem?_append_left (by rw [List.length_map, hl]; exact hi), List.getElem?_map, h1]
        rfl
    · rw [List.getElem?_append_right (by rw [List.length_map]; omega), List.getElem?_replicate] at e
      split at e <;> cases e
section
variable {X : Cx} {W : WX} {p : HD} {ρ ρ1 : Rho} {c c1 c2 c3 : PC} {e a b : Expr} {es : List Expr} {pos : Pos} {d d1 d2 : D} {n1 n2 nw : Bool} {o : EO} {so : SO} {st : Stmt} {rest : List Stmt}
variable {CX : CXT} {k : Nat} {f : Addr} {fd : FuncData} {ps : List Str} {R : FSpec} {x : Str} {xp : Pos} {ds : List D}
/-- a def that raises nothing is called -/
theorem re_call (G : FnOk X.prog X.w X.K X.mg X.base CX0 k f fd ps (spF X.K R)) (hr : Room k X.A) (hm : X.mg x = some (.ref f)) (hk : PySem.W.keepIn X.K (.ref f) = true) (hb : Binds X.K fd ps []) (ha : RA X W p ρ c (e :: es) (.val ds c1)) (ho : R ds c1 (.val d nw c2))
    (hg : Gl X x := by rfl) (hdb : (x == ("__debug__" : Str)) = false := by decide) (he : starEach (e :: es) X.env = (false, eval e X.env) :: starEach es X.env := by rfl) (hpl : (backTo pos (starEach es X.env)).any (·.1) = false := by rfl) :
    RE X W p ρ c (.Call (.Name x xp) (e :: es) [] pos) (.val d nw c2) :=
  pe_imp (pe_call G hr hg hm hk hb .nil pass0 ha hdb he hpl) fun σ H Q ⟨s, kk⟩ => ⟨s, fun vs H1 e1 p1 dvs => by
    show spF X.K R (vs ++ []) H1 Q E0
    rw [List.append_nil]
    exact ⟨p, c1, ds, .val d nw c2, dvs, p1, ho, fun v H2 e2 p2 dv hn => kk v H2 (e1.trans e2) p2 dv fun q => (hn q).back e1⟩⟩
theorem fo_at {K : PySem.W.Frag} {σ : L2.St} {H H1 : Hp} {Q : VK} (h : tE K W p ρ c o σ H Q) (e1 : Ext p H H1) : FO K p H1 Q (WE W σ) o := by
  cases o with
  | val d nw c' => exact fun v H2 e2 p2 dv hn => h.2 v H2 (e1.trans e2) p2 dv fun q => (hn q).back e1
  | ex C fs c' => exact fun dx fv H2 e2 p2 hx hf => h.2 dx fv σ H2 (e1.trans e2) (h.1.mono (e1.trans e2) p2) hx hf
theorem tE_sr {K : PySem.W.Frag} {σ : L2.St} {H : Hp} {Q : VK} (h : tE K W p ρ c o σ H Q) : SR K p H σ ρ c := by
  cases o <;> exact h.1
/-- a def that may raise is called -/
theorem re_callX (tk : Takes X W) (G : FnOk X.prog X.w X.K X.mg X.base (L2.CX X.prog X.w) k f fd ps (spF X.K R)) (hr : Room k X.A) (hm : X.mg x = some (.ref f)) (hk : PySem.W.keepIn X.K (.ref f) = true) (hb : Binds X.K fd ps []) (ha : RA X W p ρ c (e :: es) (.val ds c1)) (ho : R ds c1 o)
    (hg : Gl X x := by rfl) (hdb : (x == ("__debug__" : Str)) = false := by decide) (he : starEach (e :: es) X.env = (false, eval e X.env) :: starEach es X.env := by rfl) (hpl : (backTo pos (starEach es X.env)).any (·.1) = false := by rfl) :
    RE X W p ρ c (.Call (.Name x xp) (e :: es) [] pos) o :=
  pe_imp (pe_callS G hr hg hm hk hb (fun σ => passAt tk σ) ha hdb he hpl) fun σ H Q h => ⟨tE_sr h, fun vs H1 e1 p1 dvs => ⟨p, c1, ds, o, dvs, p1, ho, fo_at h e1⟩⟩
/-! with keywords -/
def tCallKS (n m : Nat) (sp : Sp) (gV : List V → List V → List V) (E : L2.St → XK) (t tk : TA) : TE := fun σ H Q => t σ H fun vs H1 => tk σ H1 fun zs H2 => vs.length = n ∧ zs.length = m ∧ sp (gV vs zs) H2 Q (E σ)
theorem run_fnKS {n : Nat} {ks : List Str} {g : List Value → List Value → List Value} {gV : List V → List V → List V} {sp : Sp} {E : L2.St → XK} {pins : List (Addr × Obj)} {σ : L2.St} {H : Hp} {s : Shared} {Q : VK} {us ws : List Value} {vs zs : List V}
    (F : FnOk X.prog X.w X.K X.mg X.base CX k f fd ps sp) (hr : Room k X.A) (hb : KBn X.K fd ps n ks g gV) (hx : PassesAt CX X σ (E σ))
    (I : Inv X pins σ H s) (r : Vals vs us) (rz : Vals zs ws) (l1 : vs.length = n) (l2 : zs.length = ks.length) (h : sp (gV vs zs) H Q (E σ)) : wpAny (model X.prog X.w) X.A (call (.ref f) us (ks.zip ws)) (EP X pins σ Q) X.xe s := by
  have r2 := hb.rel r rz
  refine wpAny_call (codeAny_mono (F.run X.A X.stack s H ⟨us, ks.zip ws⟩ (g us ws) (gV vs zs) Q (E σ) hr I.env0 (hb.to s us ws I.kIn (r.length.symm.trans l1) (rz.length.symm.trans l2)) r2 h) fun r s' hq => ?_)
  cases r with
  | error e => exact hx pins H s e s' I hq
  | ok fl =>
    cases fl with
    | ret u => exact I.after hq
    | next => exact False.elim hq
    | brk => exact False.elim hq
    | cont => exact False.elim hq
theorem pe_callKS {n : Nat} {ks : List Str} {g : List Value → List Value → List Value} {gV : List V → List V → List V} {sp : Sp} {E : L2.St → XK} {kws : List Keyword} {t tk : TA} (F : FnOk X.prog X.w X.K X.mg X.base CX k f fd ps sp) (hr : Room k X.A) (hg : Gl X x) (hm : X.mg x = some (.ref f)) (hk : PySem.W.keepIn X.K (.ref f) = true) (hb : KBn X.K fd ps n ks g gV) (hx : ∀ σ, PassesAt CX X σ (E σ))
    (ha : PA X (e :: es) t) (hkw : PK X kws tk) (hall : (backToKw pos (keywordEach kws X.env)).all (·.1.isSome) = true := by rfl) (hks : (backToKw pos (keywordEach kws X.env)).filterMap (·.1) = ks := by rfl)
    (hdb : (x == ("__debug__" : Str)) = false := by decide) (he : starEach (e :: es) X.env = (false, eval e X.env) :: starEach es X.env := by rfl)
    (hpl : ((backTo pos (starEach (e :: es) X.env)).any (·.1) || (backToKw pos (keywordEach kws X.env)).any (·.1.isNone)) = false := by rfl) :
    PE X (.Call (.Name x xp) (e :: es) kws pos) (tCallKS n ks.length sp gV E t tk) := by
  refine ⟨fun pins s σ H Q I h => ?_⟩
  refine wpAny_Call_Name_kw (ld_glob I hg hm ?_ hdb)
  refine PySem.W.callWith_KW (h₀ := X.base) I.ok.mod.kin hk hall (thn (ha.run pos pins s σ H _ I h) fun us s1 ⟨vs, H1, I1, r, q⟩ => ?_) hpl he
  refine thn (hkw.run pos pins s1 σ H1 _ I1 q) fun ws s2 ⟨zs, H2, I2, rz, l1, l2, q2⟩ => ⟨I2.kIn, ?_⟩
  rw [hks]
  exact run_fnKS F hr hb (hx σ) I2 r rz l1 l2 q2
theorem pe_callKS0 {ks : List Str} {g : List Value → List Value → List Value} {gV : List V → List V → List V} {sp : Sp} {E : L2.St → XK} {kws : List Keyword} {tk : TA} (F : FnOk X.prog X.w X.K X.mg X.base CX k f fd ps sp) (hr : Room k X.A) (hg : Gl X x) (hm : X.mg x = some (.ref f)) (hk : PySem.W.keepIn X.K (.ref f) = true) (hb : KBn X.K fd ps 0 ks g gV) (hx : ∀ σ, PassesAt CX X σ (E σ))
    (hkw : PK X kws tk) (hall : (backToKw pos (keywordEach kws X.env)).all (·.1.isSome) = true := by rfl) (hks : (backToKw pos (keywordEach kws X.env)).filterMap (·.1) = ks := by rfl)
    (hdb : (x == ("__debug__" : Str)) = false := by decide)
    (hpl : ((backTo pos (starEach [] X.env)).any (·.1) || (backToKw pos (keywordEach kws X.env)).any (·.1.isNone)) = false := by rfl) :
    PE X (.Call (.Name x xp) [] kws pos) (tCallKS 0 ks.length sp gV E tNil tk) := by
  refine ⟨fun pins s σ H Q I h => ?_⟩
  refine wpAny_Call_Name_kw (ld_glob I hg hm ?_ hdb)
  have h : tk σ H fun zs H2 => ([] : List V).length = 0 ∧ zs.length = ks.length ∧ sp (gV [] zs) H2 Q (E σ) := h
  refine PySem.W.callWith_KW0 (h₀ := X.base) I.ok.mod.kin hk hall (thn (hkw.run pos pins s σ H _ I h) fun ws s2 ⟨zs, H2, I2, rz, l1, l2, q2⟩ => ⟨I2.kIn, ?_⟩) hpl
  rw [hks]
  exact run_fnKS F hr hb (hx σ) I2 .nil rz l1 l2 q2
abbrev RK (X : Cx) (W : WX) (p : HD) (ρ : Rho) (c : PC) (ks : List Keyword) (o : AO) : Prop := PK X ks (tA X.K W p ρ c o)
theorem pk_imp {ks : List Keyword} {t t' : TA} (h : PK X ks t) (w : ∀ σ H Q, t' σ H Q → t σ H Q) : PK X ks t' := ⟨fun ps pins s σ H Q I q => h.run ps pins s σ H Q I (w σ H Q q)⟩
theorem rk_nil : RK X W p ρ c [] (.val [] c) := pk_imp pk_nil fun σ H Q ⟨s, k⟩ => k [] H (Ext.refl p H) s.pl .nil
theorem rk_cons {nm : Option Str} {kpos : Pos} {kws : List Keyword} {ds : List D} (ha : RE X W p ρ c e (.val d nw c1)) (hr : RK X W p ρ c1 kws (.val ds c2)) : RK X W p ρ c (⟨nm, e, kpos⟩ :: kws) (.val (d :: ds) c2) :=
  pk_imp (pk_cons ha hr) fun σ H Q ⟨s, k⟩ => ⟨s, fun v H1 e1 p1 dv _ => ⟨s.mono e1 p1, fun vs H2 e2 p2 dvs => k (v :: vs) H2 (e1.trans e2) p2 (.cons (dv.mono e2) dvs)⟩⟩
/-- f(a, .., k = v, ..): one positional value, one keyword, two parameters in that order -/
theorem re_callX1K {n : Nat} {ks : List Str} {g : List Value → List Value → List Value} {gV : List V → List V → List V} {kws : List Keyword} {es' : List D} (tk : Takes X W) (G : FnOk X.prog X.w X.K X.mg X.base (L2.CX X.prog X.w) k f fd ps (spF X.K R)) (hr : Room k X.A) (hm : X.mg x = some (.ref f)) (hk : PySem.W.keepIn X.K (.ref f) = true)
    (hb : KBn X.K fd ps n ks g gV) (ha : RA X W p ρ c (e :: es) (.val ds c1)) (hkw : RK X W p ρ c1 kws (.val es' c2)) (hn1 : ds.length = n) (hn2 : es'.length = ks.length) {gD : List D} (hg' : ∀ {H : Hp} {vs zs : List V}, DVs X.K p H vs ds → DVs X.K p H zs es' → DVs X.K p H (gV vs zs) gD) (ho : R gD c2 o)
    (hg : Gl X x := by rfl) (hall : (backToKw pos (keywordEach kws X.env)).all (·.1.isSome) = true := by rfl) (hks : (backToKw pos (keywordEach kws X.env)).filterMap (·.1) = ks := by rfl)
    (hdb : (x == ("__debug__" : Str)) = false := by decide) (he : starEach (e :: es) X.env = (false, eval e X.env) :: starEach es X.env := by rfl)
    (hpl : ((backTo pos (starEach (e :: es) X.env)).any (·.1) || (backToKw pos (keywordEach kws X.env)).any (·.1.isNone)) = false := by rfl) :
    RE X W p ρ c (.Call (.Name x xp) (e :: es) kws pos) o :=
  pe_imp (pe_callKS G hr hg hm hk hb (fun σ => passAt tk σ) ha hkw hall hks hdb he hpl) fun σ H Q h => ⟨tE_sr h, fun vs H1 e1 p1 dvs => ⟨(tE_sr h).mono e1 p1, fun zs H2 e2 p2 dzs =>
    ⟨by rw [dvs.length]; exact hn1, by rw [dzs.length]; exact hn2, p, c2, gD, o, hg' (dvs.mono e2) dzs, p2, ho, fo_at h (e1.trans e2)⟩⟩⟩
theorem re_callX0K {ks : List Str} {g : List Value → List Value → List Value} {gV : List V → List V → List V} {kws : List Keyword} {es' : List D} (tk : Takes X W) (G : FnOk X.prog X.w X.K X.mg X.base (L2.CX X.prog X.w) k f fd ps (spF X.K R)) (hr : Room k X.A) (hm : X.mg x = some (.ref f)) (hk : PySem.W.keepIn X.K (.ref f) = true)
    (hb : KBn X.K fd ps 0 ks g gV) (hkw : RK X W p ρ c kws (.val es' c2)) (hn2 : es'.length = ks.length) {gD : List D} (hg' : ∀ {H : Hp} {zs : List V}, DVs X.K p H zs es' → DVs X.K p H (gV [] zs) gD) (ho : R gD c2 o)
    (hg : Gl X x := by rfl) (hall : (backToKw pos (keywordEach kws X.env)).all (·.1.isSome) = true := by rfl) (hks : (backToKw pos (keywordEach kws X.env)).filterMap (·.1) = ks := by rfl)
    (hdb : (x == ("__debug__" : Str)) = false := by decide)
    (hpl : ((backTo pos (starEach [] X.env)).any (·.1) || (backToKw pos (keywordEach kws X.env)).any (·.1.isNone)) = false := by rfl) :
    RE X W p ρ c (.Call (.Name x xp) [] kws pos) o :=
  pe_imp (pe_callKS0 G hr hg hm hk hb (fun σ => passAt tk σ) hkw hall hks hdb hpl) fun σ H Q h => ⟨tE_sr h, fun zs H2 e2 p2 dzs =>
    ⟨rfl, by rw [dzs.length]; exact hn2, p, c2, gD, o, hg' dzs, p2, ho, fo_at h e2⟩⟩

/-! ### statements -/
theorem rs_ret (h : RE X W p ρ c e (.val d nw c1)) : RS X W p ρ c (.Return (some e) pos) (.rt d nw c1) := ps_imp (ps_ret h) fun D σ H ⟨s, k⟩ => ⟨s, fun v H1 e1 p1 dv hn => k v H1 e1 p1 dv hn⟩
theorem tS_ex {K : PySem.W.Frag} {C : Addr} {fs : List (Str × D)} {De : Ends} {σ : L2.St} {H : Hp} (h : tSt K W p ρ c (.ex C fs c1) De σ H) (Q : VK) : tE K W p ρ c (.ex C fs c1) σ H Q := ⟨h.1, fun dx fv σ' H1 e1 s1 hx hf => h.2 ρ dx fv σ' H1 e1 s1 rfl hx hf⟩
theorem rs_retX {C : Addr} {fs : List (Str × D)} (h : RE X W p ρ c e (.ex C fs c1)) : RS X W p ρ c (.Return (some e) pos) (.ex C fs c1) := ps_imp (ps_ret h) fun D σ H q => tS_ex q _
theorem rs_exprX {C : Addr} {fs : List (Str × D)} (h : RE X W p ρ c e (.ex C fs c1)) (hs : swapsWith e none pos.line X.env = pure false := by rfl) : RS X W p ρ c (.Expr e pos) (.ex C fs c1) := ps_imp (ps_expr h hs) fun D σ H q => tS_ex q _
theorem rs_expr (h : RE X W p ρ c e (.val d nw c1)) (hs : swapsWith e none pos.line X.env = pure false := by rfl) : RS X W p ρ c (.Expr e pos) (.nx ρ c1) := ps_imp (ps_expr h hs) fun D σ H ⟨s, k⟩ => ⟨s, fun v H1 e1 p1 dv hn => k σ H1 e1 (s.mono e1 p1)⟩
theorem rs_set (i : Nat) {x : Str} {pos' : Pos} (hN : X.N.Nodup) (h : RE X W p ρ c e (.val d nw c1)) (hi : X.N[i]? = some x := by rfl) (hx : Loc X.env.scope x := by first | exact Or.inl rfl | exact Or.inr rfl) (hs : swapsWith e (some (.Name x pos')) pos.line X.env = pure false := by rfl)
    (hf : X.fn x = true ∨ X.env.scope.names.lookup x = some .local := by first | exact .inl rfl | exact .inr rfl) : RS X W p ρ c (.Assign [.Name x pos'] e pos) (.nx (ρ.set i (some d)) c1) :=
  ps_imp (ps_set hN hi hx h hs hf) fun De σ H ⟨s, k⟩ => ⟨s, fun v H1 e1 p1 dv hn => k _ H1 e1 ((s.mono e1 p1).set i dv)⟩
theorem rss_nil : RSs X W p ρ c [] (.nx ρ c) := pss_imp pss_nil fun De σ H ⟨s, k⟩ => k σ H (Ext.refl p H) s
theorem rss_cons (h1 : RS X W p ρ c st (.nx ρ1 c1)) (h2 : RSs X W p ρ1 c1 rest so) (hl : ρ1.length = ρ.length := by rfl) : RSs X W p ρ c (st :: rest) so := by
  refine pss_imp (pss_cons h1 h2) fun De σ H h => ?_
  cases so with
  | nx ρ' c' => exact ⟨h.1, fun σ1 H1 e1 s1 => ⟨s1, fun σ2 H2 e2 s2 => h.2 σ2 H2 (e1.trans e2) s2⟩⟩
  | rt d nw c' => exact ⟨h.1, fun σ1 H1 e1 s1 => ⟨s1, fun v H2 e2 p2 dv hn => h.2 v H2 (e1.trans e2) p2 dv fun q => (hn q).back e1⟩⟩
  | ex C fs c' => exact ⟨h.1, fun σ1 H1 e1 s1 => ⟨s1, fun ρ' dx fv σ2 H2 e2 s2 hl' hx hf => h.2 ρ' dx fv σ2 H2 (e1.trans e2) s2 (hl'.trans hl) hx hf⟩⟩
theorem rss_ret (h1 : RS X W p ρ c st (.rt d nw c1)) : RSs X W p ρ c (st :: rest) (.rt d nw c1) := pss_imp (pss_cons h1 pss_never) fun De σ H h => h
theorem rss_ex {C : Addr} {fs : List (Str × D)} (h1 : RS X W p ρ c st (.ex C fs c1)) : RSs X W p ρ c (st :: rest) (.ex C fs c1) := pss_imp (pss_cons h1 pss_never) fun De σ H h => h
theorem st_at {K : PySem.W.Frag} {De : Ends} {σ : L2.St} {H H1 : Hp} (h : tSt K W p ρ c so De σ H) (e1 : Ext p H H1) (p1 : PoolAt p H1 c1) : tSt K W p ρ c1 so De σ H1 := by
  cases so with
  | nx ρ' c' => exact ⟨h.1.mono e1 p1, fun σ2 H2 e2 s2 => h.2 σ2 H2 (e1.trans e2) s2⟩
  | rt d nw c' => exact ⟨h.1.mono e1 p1, fun v H2 e2 p2 dv hn => h.2 v H2 (e1.trans e2) p2 dv fun q => (hn q).back e1⟩
  | ex C fs c' => exact ⟨h.1.mono e1 p1, fun ρ' dx fv σ2 H2 e2 s2 hl hx hf => h.2 ρ' dx fv σ2 H2 (e1.trans e2) s2 hl hx hf⟩
theorem st_sr {K : PySem.W.Frag} {De : Ends} {σ : L2.St} {H : Hp} (h : tSt K W p ρ c so De σ H) : SR K p H σ ρ c := by
  cases so <;> exact h.1
theorem rs_if {t : Expr} {A B : List Stmt} {kb : Bool} (ht : RT X W p ρ c t (.val kb c1)) (h1 : kb = true → RSs X W p ρ c1 A so) (h2 : kb = false → RSs X W p ρ c1 B so) : RS X W p ρ c (.If t A B pos) so := by
  cases kb with
  | true => exact ps_imp (ps_if ht (h1 rfl) pss_never) fun De σ H h => ⟨st_sr h, fun H1 e1 p1 => st_at h e1 p1⟩
  | false => exact ps_imp (ps_if ht pss_never (h2 rfl)) fun De σ H h => ⟨st_sr h, fun H1 e1 p1 => iteF (st_at h e1 p1)⟩
theorem rs_ifX {t : Expr} {A B : List Stmt} {C : Addr} {fs : List (Str × D)} (ht : RT X W p ρ c t (.ex C fs c1)) : RS X W p ρ c (.If t A B pos) (.ex C fs c1) :=
  ps_imp (ps_if ht pss_never pss_never) fun De σ H h => ⟨h.1, fun dx fv σ' H1 e1 s1 hx hf => h.2 ρ dx fv σ' H1 e1 s1 rfl hx hf⟩
end

/-! ### a def holds its promise -/
section
variable {P : Program} {w : World} {K : PySem.W.Frag} {mg : Str → Option Value} {base : Heap} {x qual : Str} {st : Stmt} {f : Addr} {fd : FuncData} {N ps : List Str} {k : Nat} {R : FSpec}
abbrev Wf : WX := fun _ _ _ _ => False
def BodyOk (X : Cx) (W : WX) (p : HD) (ρ : Rho) (c : PC) (body : List Stmt) : EO → Prop
  | .val d nw c' => RSs X W p ρ c body (.rt d nw c') ∨ (d = .non ∧ ∃ ρ', RSs X W p ρ c body (.nx ρ' c'))
  | .ex C fs c' => RSs X W p ρ c body (.ex C fs c')
theorem spF_len {vs : List V} {H : Hp} {Q : VK} {E : XK} (hl : ∀ ds c o, R ds c o → ds.length = ps.length) (h : spF K R vs H Q E) : vs.length = ps.length := by
  obtain ⟨p, c, ds, o, h1, _, h3, _⟩ := h
  rw [h1.length]
  exact hl _ _ _ h3
theorem fn_val (F : Fun K x qual st f fd) (S : FnScope N ps (defScope st)) (hl : ∀ ds c o, R ds c o → ds.length = ps.length) (hv : ∀ ds c o, R ds c o → ∃ d nw c', o = .val d nw c')
    (body : ∀ (cdv : Value) (A : Around) (outer : List Env) (s : Shared) (H : Hp) (E : XK), Room k (A.deeper (envOfC qual (defScope st) s.heap.objs.size f cdv)) → ∀ (p : HD) (ds : List D) (c : PC) (o : EO), R ds c o →
      BodyOk (cxOf CX0 P w K mg base N qual (defScope st) f cdv A outer s H E).nox Wf p (startR N ds) c (defBody st) o) : FnOk P w K mg base CX0 (k + 1) f fd ps (spF K R) := by
  refine F.ok S (fun vs H Q E h => spF_len hl h) (fun cdv A outer s H vs Q E hr h => ?_)
  obtain ⟨p, c, ds, o, h1, h2, h3, h4⟩ := h
  have b := body cdv A outer s H E hr p ds c o h3
  obtain ⟨d, nw, c', rfl⟩ := hv _ _ _ h3
  rcases b with b | ⟨rfl, ρ', b⟩
  · exact ⟨_, b, sr_start h1 h2, fun v H1 e1 p1 dv hn => h4 v H1 e1 p1 dv hn⟩
  · exact ⟨_, b, sr_start h1 h2, fun σ' H1 e1 s1 => h4 .non H1 e1 s1.pl .non fun _ => New.sc (by intro a q; cases q)⟩
theorem fn_exc (F : Fun K x qual st f fd) (S : FnScope N ps (defScope st)) (hl : ∀ ds c o, R ds c o → ds.length = ps.length)
    (body : ∀ (cdv : Value) (A : Around) (outer : List Env) (s : Shared) (H : Hp) (E : XK), Room k (A.deeper (envOfC qual (defScope st) s.heap.objs.size f cdv)) → ∀ (p : HD) (ds : List D) (c : PC) (o : EO), R ds c o →
      Takes (cxOf (L2.CX P w) P w K mg base N qual (defScope st) f cdv A outer s H E) (fun cls d _ H => E cls d H) →
      BodyOk (cxOf (L2.CX P w) P w K mg base N qual (defScope st) f cdv A outer s H E) (fun cls d _ H => E cls d H) p (startR N ds) c (defBody st) o) : FnOk P w K mg base (L2.CX P w) (k + 1) f fd ps (spF K R) := by
  refine F.okX S (fun vs H Q E h => spF_len hl h) (fun cdv A outer s H vs Q E hr h => ?_)
  obtain ⟨p, c, ds, o, h1, h2, h3, h4⟩ := h
  have b := body cdv A outer s H E hr p ds c o h3 (takes_of rfl rfl rfl rfl)
  cases o with
  | val d nw c' =>
    rcases b with b | ⟨rfl, ρ', b⟩
    · exact ⟨_, b, sr_start h1 h2, fun v H1 e1 p1 dv hn => h4 v H1 e1 p1 dv hn⟩
    · exact ⟨_, b, sr_start h1 h2, fun σ' H1 e1 s1 => h4 .non H1 e1 s1.pl .non fun _ => New.sc (by intro a q; cases q)⟩
  | ex C fs c' => exact ⟨_, b, sr_start h1 h2, fun ρ' dx fv σ' H1 e1 s1 _ hx hf => h4 dx fv H1 e1 s1.pl hx hf⟩
end
end LA
namespace LA
open PySem PySem.Spec PyProof.Rows L2
/-! ### what is walked -/
/-- pairs, each a new tuple -/
def Itp (n : Nat) (f g : Nat → V) : It :=
  ⟨fun i _ => i < n, fun i H v H' => ∃ T, v = .ref T ∧ H T = none ∧ H' = upd H T (.tup [f i, g i]), fun i _ => i = n⟩
theorem turn_pair {P : Program} {w : World} {K : PySem.W.Frag} {elts : List Expr} {kk : Nat} {tpos : Pos} {it : Addr} {fp wr : List Addr} {n : Nat} {f g : Nat → V} {P1 P2 : Nat → Value → Prop} {St : Nat → Heap → Prop}
    (G : ∀ A : Around, A.handled = none → GoesN P w A (.Tuple elts kk tpos) it fp wr n (fun i h₀ v h => ∃ T x y, v = .ref T ∧ h₀.objs.size ≤ T ∧ P1 i x ∧ P2 i y ∧ h.IsTuple T #[x, y]) St)
    (h1 : ∀ i x, i < n → P1 i x → RelV (f i) x) (h2 : ∀ i x, i < n → P2 i x → RelV (g i) x) (mem : it ∈ fp) (obj : ∀ i h, St i h → ∀ b ∈ fp, ∃ o, h.get? b = some o ∧ ∀ v, o.data ≠ .cell v)
    (hself : ∀ (A : Around) (i : Nat) (s : Shared) (Q : Value → Shared → Prop) (E : Value → Shared → Prop), St i s.heap → Q (.ref it) s → wpAny (model P w) A (pyIter (.ref it)) Q E s) :
    Turn P w K (.Tuple elts kk tpos) (Itp n f g) fp it St where
  mem := mem
  obj := obj
  keep := fun i h h' st k => (G { handled := none, frames := none, guards := none, depth := 0, units := 0 } rfl).frame i h h' st k
  item := by
    intro X hP hw hK hc i pins s σ H E I hf st hg
    subst hP hw hK
    have GA := G X.A (I.ok.hd hc)
    refine wpAny_mono (GA.goes i s (fun v s₂ => ∃ x H', Inv X pins σ H' s₂ ∧ RelV x v ∧ (Itp n f g).yld i H x H' ∧ St (i + 1) s₂.heap ∧ ∀ b ∈ fp, H' b = none) E hg st fun v h' tk hY st' hk _ => ?_) (fun r s1 ⟨v, e, q⟩ => ⟨v, e, q⟩) fun _ _ z => z
    obtain ⟨T, x, y, rfl, hT, p1, p2, ht⟩ := hY
    have new : ObjOk X.prog X.w (upd H T (.tup [f i, g i])) h' T (.tup [f i, g i]) := ⟨by show 2 ≤ sizeLine; decide, [x, y], .cons (h1 i x hg p1) (.cons (h2 i y hg p2) .nil), ht⟩
    have I1 : Inv X pins σ (upd H T (.tup [f i, g i])) { s with heap := h', toks := tk } := I.turnedNew (ch := wr) hk (fun b hb => hf b (GA.sub b hb)) hT new
    refine ⟨.ref T, _, I1, rfl, ⟨T, rfl, I.hok.fresh hT, rfl⟩, st', fun b hb => ?_⟩
    obtain ⟨o, e, _⟩ := obj i s.heap st b hb
    rw [upd_ne (Nat.ne_of_lt (Nat.lt_of_lt_of_le (Heap.lt_size e) hT))]
    exact (hf b hb).1
  done := by
    intro X hP hw hK hc i pins s σ H E I hf st hg
    subst hP hw hK
    have GA := G X.A (I.ok.hd hc)
    have e : i = n := hg
    subst e
    exact wpAny_mono (GA.stops s (fun s1 => Inv X pins σ H s1) E st fun h' tk hk _ => I.turnedL hk fun b hb => hf b (GA.sub b hb)) (fun r s1 q => q) fun _ _ z => z
  self := hself
/-- the i-th sign of a text, as a value -/
def sgn (z : Str) (i : Nat) : V := .str ⟨#[z.cps.toList.getD i 0]⟩
theorem sgn_of {z : Str} {i : Nat} {x : Value} (h : ∃ c u, z.cps[i]? = some c ∧ x = .str ⟨#[c]⟩ u) : RelV (sgn z i) x := by
  obtain ⟨c, u, h1, rfl⟩ := h
  have e : z.cps.toList.getD i 0 = c := by
    rw [List.getD_eq_getElem?_getD, Array.getElem?_toList, h1]
    rfl
  exact ⟨u, by rw [e]⟩
def iZipS (ta : TA) : TI := fun σ H R => ta σ H fun vs H1 => ∃ a b : Str, vs = [.str a, .str b] ∧ R (Itp (min a.cps.size b.cps.size) (sgn a) (sgn b)) H1
theorem pi_zipS {X : Cx} {e e2 : Expr} {ta : TA} {p pos tpos : Pos} {elts : List Expr} {kk : Nat} (hg : Gl X "zip") (hm : X.mg "zip" = none) (ha : PA X [e, e2] ta)
    (hs : starEach [e, e2] X.env = (false, eval e X.env) :: starEach [e2] X.env := by rfl) (hpl : (backTo pos (starEach [e2] X.env)).any (·.1) = false := by rfl) :
    PI X (.Tuple elts kk tpos) (.Call (.Name "zip" p) [e, e2] [] pos) (iZipS ta) := by
  refine ⟨fun pins s σ H R I h => ?_⟩
  refine Call_ (ld_blt I hg hm PyProof.Rows.boot_zip (PyProof.Rows.callWith_type1 (thn (ha.run pos pins s σ H _ I h) fun us s1 ⟨vs, H1, I1, r1, q1⟩ => ?_) hs hpl))
  obtain ⟨a, b, ex, q⟩ := q1
  subst ex
  cases r1 with
  | cons r rr =>
    cases rr with
    | cons r' rr =>
      cases rr
      obtain ⟨t, rfl⟩ := r
      obtain ⟨t', rfl⟩ := r'
      refine zip_begins2 (begins_text a t) (begins_text b t') trivial trivial fun h' hz hTI hTO o1 o2 hsz hk => wpAny_pyIter_zip hz ?_
      have I2 : Inv X pins σ H1 { s1 with heap := h' } := I1.kept (t' := s1.toks) hk
      have SZ := zip_sep2 (N := s1.heap.objs.size) (fp1 := []) (fp2 := []) (fun b hb => by cases hb) (fun b hb => by cases hb)
      refine ⟨s1.heap.objs.size + 4, _, _, _, H1, rfl, I2, turn_pair (fun A hA => GoesN.zip2 SZ (Draws.text (A := A.in1) hA _ a t) (Draws.text (A := A.in1) hA _ b t')) (fun i x _ hx => sgn_of hx) (fun i x _ hx => sgn_of hx) (List.mem_cons_self ..) (fun i h st c hc => ?_) (fun A i s Q E st h => wpAny_pyIter_zip st.1 h),
        ⟨hz, hTI, ⟨_, _, hTO⟩, ⟨_, o1, rfl, rfl⟩, ⟨_, o2, rfl, rfl⟩⟩, fun c hc => ?_, q⟩
      · obtain ⟨hz, hTI, ⟨x, y, hTO⟩, ⟨p1, e1, _, d1⟩, ⟨p2, e2, _, d2⟩⟩ := st
        have e' : c = s1.heap.objs.size + 4 ∨ c = s1.heap.objs.size + 2 ∨ c = s1.heap.objs.size + 3 ∨ c = s1.heap.objs.size ∨ c = s1.heap.objs.size + 1 := by simpa using hc
        rcases e' with q | q | q | q | q
        · rw [q]; exact ⟨_, hz, fun v q => nomatch q⟩
        · rw [q]; exact ⟨_, hTI, fun v q => nomatch q⟩
        · rw [q]; exact ⟨_, hTO, fun v q => nomatch q⟩
        · rw [q]; exact ⟨p1, e1, fun v q => by rw [d1] at q; cases q⟩
        · rw [q]; exact ⟨p2, e2, fun v q => by rw [d2] at q; cases q⟩
      · have e' : c = s1.heap.objs.size + 4 ∨ c = s1.heap.objs.size + 2 ∨ c = s1.heap.objs.size + 3 ∨ c = s1.heap.objs.size ∨ c = s1.heap.objs.size + 1 := by simpa using hc
        have hle : s1.heap.objs.size ≤ c := by
          rcases e' with z | z | z | z | z
          · rw [z]; exact Nat.le_add_right _ _
          · rw [z]; exact Nat.le_add_right _ _
          · rw [z]; exact Nat.le_add_right _ _
          · rw [z]; exact Nat.le_refl _
          · rw [z]; exact Nat.le_add_right _ _
        exact I1.fpOk hle (I1.hok.fresh hle)
end LA
namespace LA
open PySem PySem.Spec PyProof.Rows L2
/-- an iterator that yields the data xs, whatever else is made meanwhile -/
def Yields (K : PySem.W.Frag) (p : HD) (J : It) (xs : List D) (H0 : Hp) : Prop :=
  ∀ (q : HD) (c : PC) (H1 : Hp), q.pl = p.pl → Sub (hide p H0) (hide q H1) → PoolAt q H1 c →
    J.stop xs.length H1 ∧ ∀ i d, xs[i]? = some d → J.go i H1 ∧ ∀ x H2, J.yld i H1 x H2 → Ext q H1 H2 ∧ PoolAt q H2 c ∧ DV K q H2 x d
def tI (K : PySem.W.Frag) (W : WX) (p : HD) (ρ : Rho) (c : PC) (xs : List D) (c' : PC) : TI := fun σ H R => SR K p H σ ρ c ∧ ∀ J H', Ext p H H' → PoolAt p H' c' → Yields K p J xs H' → R J H'
abbrev RI (X : Cx) (W : WX) (p : HD) (ρ : Rho) (c : PC) (tg it : Expr) (xs : List D) (c' : PC) : Prop := PI X tg it (tI X.K W p ρ c xs c')
theorem pi_imp {X : Cx} {tg e : Expr} {t t' : TI} (h : PI X tg e t) (w : ∀ σ H R, t' σ H R → t σ H R) : PI X tg e t' := ⟨fun pins s σ H Q I q => h.run pins s σ H Q I (w σ H Q q)⟩
section
variable {X : Cx} {W : WX} {p : HD} {ρ ρ1 : Rho} {c c1 c2 c3 : PC} {e e2 tg : Expr} {es : List Expr} {pos : Pos} {d d1 d2 : D} {n1 n2 nw : Bool} {K : PySem.W.Frag}
def chars (z : Str) : List D := z.cps.toList.map fun ch => D.str ⟨#[ch]⟩
theorem ri_str {z : Str} (h : RE X W p ρ c e (.val (.str z) nw c1)) : RI X W p ρ c tg e (chars z) c1 :=
  pi_imp (pi_str h) fun σ H R ⟨s, k⟩ => ⟨s, fun v H1 e1 p1 dv _ => by
    cases dv
    refine ⟨z, rfl, k _ H1 e1 p1 fun q c' H2 _ _ p2 => ⟨?_, fun i d hd => ⟨?_, fun x H3 y => ?_⟩⟩⟩
    · show z.cps.size ≤ (chars z).length
      unfold chars
      rw [List.length_map, Array.length_toList]
      exact Nat.le_refl _
    · have hl := (List.getElem?_eq_some_iff.mp hd).1
      unfold chars at hl
      rw [List.length_map, Array.length_toList] at hl
      exact hl
    · obtain ⟨rfl, ch, h1, rfl⟩ := y
      refine ⟨Ext.refl _ _, p2, ?_⟩
      unfold chars at hd
      rw [List.getElem?_map, Array.getElem?_toList, h1] at hd
      have e' := Option.some.inj hd
      rw [← e']
      exact .str _⟩
theorem ri_lst {g : G} {xs : List D} (h : RE X W p ρ c e (.val (.lst g xs) nw c1)) : RI X W p ρ c tg e xs c1 :=
  pi_imp (pi_list h) fun σ H R ⟨s, k⟩ => ⟨s, fun v H1 e1 p1 dv _ => by
    cases dv with
    | @lst a vs _ _ hb hq r =>
      refine ⟨a, rfl, ⟨vs, un_sqL hq⟩, k _ H1 e1 p1 fun q c' H2 qe qs p2 => ?_⟩
      have hq2 : SqL X.K H2 a vs := un_sqL (qs.sqL hq)
      refine ⟨⟨vs, hq2, Nat.le_of_eq r.length⟩, fun i d hd => ?_⟩
      obtain ⟨v, h1, h2⟩ := r.get hd
      refine ⟨⟨vs, v, hq2, h1⟩, fun x H3 y => ?_⟩
      obtain ⟨rfl, h3⟩ := y
      have e' : x = v := Option.some.inj ((h3 vs hq2).symm.trans h1)
      subst e'
      exact ⟨Ext.refl _ _, p2, h2.sub qs (fun a z => by rw [qe]; exact z)⟩⟩
def intsD (n : Nat) : List D := (List.range n).map fun i => D.int ((i : Nat) : Int)
theorem ri_range {ps : Pos} {n : Int} (hm : X.mg "range" = none) (h : RE X W p ρ c e (.val (.int n) nw c1)) (h1 : -(2 ^ 62) ≤ n) (h2 : n < 2 ^ 62) (hg : Gl X "range" := by rfl) (hs : starEach [e] X.env = [(false, eval e X.env)] := by rfl) : RI X W p ρ c tg (.Call (.Name "range" ps) [e] [] pos) (intsD n.toNat) c1 :=
  pi_imp (pi_range1 hg hm (ra_cons (W := W) h (ra_nil (W := W)) (by rw [hs]; rfl)) hs) fun σ H R ⟨s, k⟩ => ⟨s, fun vs H1 e1 p1 dvs => by
    cases dvs with
    | cons hv hr =>
      cases hr
      cases hv
      refine ⟨n, rfl, h1, h2, k _ H1 e1 p1 fun q c' H2 qe qs p2 => ⟨?_, fun i d hd => ⟨?_, fun x H3 y => ?_⟩⟩⟩
      · show n.toNat ≤ (intsD n.toNat).length
        unfold intsD
        rw [List.length_map, List.length_range]
        exact Nat.le_refl _
      · have hl := (List.getElem?_eq_some_iff.mp hd).1
        unfold intsD at hl
        rw [List.length_map, List.length_range] at hl
        exact hl
      · obtain ⟨rfl, rfl⟩ := y
        refine ⟨Ext.refl _ _, p2, ?_⟩
        have hl := (List.getElem?_eq_some_iff.mp hd).1
        unfold intsD at hd hl
        rw [List.length_map, List.length_range] at hl
        rw [List.getElem?_map, List.getElem?_range hl] at hd
        have e' := Option.some.inj hd
        rw [← e', Int.zero_add]
        exact .int _⟩
/-- pairs of signs -/
def zips (a b : Str) : List D := (List.range (min a.cps.size b.cps.size)).map fun i => D.tup [.str ⟨#[a.cps.toList.getD i 0]⟩, .str ⟨#[b.cps.toList.getD i 0]⟩]
theorem ri_zipS {ps tpos : Pos} {elts : List Expr} {kk : Nat} {a b : Str} (hm : X.mg "zip" = none) (h : RA X W p ρ c [e, e2] (.val [.str a, .str b] c1)) (hg : Gl X "zip" := by rfl)
    (hs : starEach [e, e2] X.env = (false, eval e X.env) :: starEach [e2] X.env := by rfl) (hpl : (backTo pos (starEach [e2] X.env)).any (·.1) = false := by rfl) :
    RI X W p ρ c (.Tuple elts kk tpos) (.Call (.Name "zip" ps) [e, e2] [] pos) (zips a b) c1 :=
  pi_imp (pi_zipS hg hm h hs hpl) fun σ H R ⟨s, k⟩ => ⟨s, fun vs H1 e1 p1 dvs => by
    cases dvs with
    | cons hv hr =>
      cases hr with
      | cons hv2 hr =>
        cases hr
        cases hv
        cases hv2
        refine ⟨a, b, rfl, k _ H1 e1 p1 fun q c' H2 qe qs p2 => ⟨?_, fun i d hd => ⟨?_, fun x H3 y => ?_⟩⟩⟩
        · show (zips a b).length = min a.cps.size b.cps.size
          unfold zips
          rw [List.length_map, List.length_range]
        · have hl := (List.getElem?_eq_some_iff.mp hd).1
          unfold zips at hl
          rw [List.length_map, List.length_range] at hl
          exact hl
        · obtain ⟨T, rfl, hT, rfl⟩ := y
          have hl := (List.getElem?_eq_some_iff.mp hd).1
          unfold zips at hd hl
          rw [List.length_map, List.length_range] at hl
          rw [List.getElem?_map, List.getElem?_range hl] at hd
          have e' := Option.some.inj hd
          rw [← e']
          exact ⟨Ext.new hT, p2.upd hT, .tup (.inl (.inl (hide_upd p2 hT))) (.cons (.str _) (.cons (.str _) .nil))⟩⟩

/-! ### list comprehensions -/
theorem wipe_get {σ : L2.St} {i : Nat} : ∀ {vs : List Nat}, i ∈ vs → i < σ.length → (wipe σ vs)[i]? = some none
  | v :: vs, h, hl => by
    unfold wipe
    by_cases e : v = i
    · subst e
      rw [List.getElem?_set_self (by rw [wipe_length]; exact hl)]
    · rw [List.getElem?_set_ne e]
      exact wipe_get ((List.mem_cons.mp h).resolve_left fun z => e z.symm) hl
theorem wipe_ext {σ τ : L2.St} {vs : List Nat} (hl : σ.length = τ.length) (h : ∀ i, i ∉ vs → σ[i]? = τ[i]?) : wipe σ vs = wipe τ vs := by
  refine List.ext_getElem? fun i => ?_
  by_cases hi : i ∈ vs
  · by_cases hn : i < σ.length
    · rw [wipe_get hi hn, wipe_get hi (by rw [← hl]; exact hn)]
    · rw [List.getElem?_eq_none (by rw [wipe_length]; omega), List.getElem?_eq_none (by rw [wipe_length]; omega)]
  · rw [wipe_out hi, wipe_out hi, h i hi]
theorem wipe_wipe {σ : L2.St} {vs : List Nat} : wipe (wipe σ vs) vs = wipe σ vs := wipe_ext (wipe_length σ vs) fun i hi => wipe_out hi
theorem wipe_set {σ : L2.St} {vs : List Nat} {j : Nat} {x : Option V} (hj : j ∈ vs) : wipe (σ.set j x) vs = wipe σ vs := wipe_ext (List.length_set) fun i hi => List.getElem?_set_ne (fun z => hi (by rw [← z]; exact hj))
/-- the slots vs of the frame forgotten -/
def wipeR (ρ : Rho) : List Nat → Rho
  | [] => ρ
  | v :: vs => (wipeR ρ vs).set v none
theorem wipeR_len (ρ : Rho) : ∀ vs : List Nat, (wipeR ρ vs).length = ρ.length
  | [] => rfl
  | v :: vs => by unfold wipeR; rw [List.length_set, wipeR_len ρ vs]
theorem wipeR_some {ρ : Rho} {i : Nat} {d : D} : ∀ {vs : List Nat}, (wipeR ρ vs)[i]? = some (some d) → ρ[i]? = some (some d) ∧ i ∉ vs
  | [], h => ⟨h, by simp⟩
  | v :: vs, h => by
    unfold wipeR at h
    by_cases hi : v = i
    · subst hi
      rw [List.getElem?_set] at h
      split at h
      · split at h <;> cases h
      · exact absurd rfl ‹¬ _›
    · rw [List.getElem?_set_ne hi] at h
      obtain ⟨h1, h2⟩ := wipeR_some h
      exact ⟨h1, fun m => (List.mem_cons.mp m).elim (fun z => hi z.symm) h2⟩
theorem SR.wipe {H : Hp} {σ : L2.St} (s : SR K p H σ ρ c) (vs : List Nat) : SR K p H (L2.wipe σ vs) (wipeR ρ vs) c :=
  s.weak (by rw [wipe_length, wipeR_len]; exact s.len) (fun i d h => (wipeR_some h).1) fun i v d h1 h2 => by
    rw [wipe_out (wipeR_some h1).2]
    exact h2
/-- what a target does with a datum: the slots it sets -/
structure TgOk (K : PySem.W.Frag) (g : TG) (vs : List Nat) (d : D) (ρ ρ' : Rho) : Prop where
  run : ∀ (q : HD) (c : PC) (x : V) (σ : L2.St) (H : Hp) (Q : L2.St → Hp → Prop), DV K q H x d → SR K q H σ ρ c → PoolAt q H c → (∀ σ2, SR K q H σ2 ρ' c → L2.wipe σ2 vs = L2.wipe σ vs → Q σ2 H) → g x σ H Q
theorem tg_name {j : Nat} {vs : List Nat} (hj : j ∈ vs) : TgOk K (gName j) vs d ρ (ρ.set j (some d)) := ⟨fun q c x σ H Q dv s hp k => k _ (s.set j dv) (wipe_set hj)⟩
theorem tg_two {i j : Nat} {vs : List Nat} (hi : i ∈ vs) (hj : j ∈ vs) : TgOk K (gTup K 2 (gCons (gName i) (gCons (gName j) gNil))) vs (.tup [d1, d2]) ρ ((ρ.set i (some d1)).set j (some d2)) :=
  ⟨fun q c x σ H Q dv s hp k => by
    cases dv with
    | tup hq r =>
      cases r with
      | cons h1 r =>
        cases r with
        | cons h2 r =>
          cases r
          exact ⟨_, _, rfl, un_sqT hq, rfl, _, _, rfl, _, _, rfl, rfl, k _ ((s.set i h1).set j h2) ((wipe_set hj).trans (wipe_set hi))⟩⟩
/-- what is collected over n turns -/
def coll (b : Nat → Bool) (y : Nat → D) : Nat → List D
  | 0 => []
  | n + 1 => coll b y n ++ if b n then [y n] else []
theorem coll_len (b : Nat → Bool) (y : Nat → D) : ∀ n, (coll b y n).length ≤ n
  | 0 => Nat.le_refl _
  | n + 1 => by
    have h := coll_len b y n
    show (coll b y n ++ if b n then [y n] else []).length ≤ n + 1
    rw [List.length_append]
    split
    · show _ + 1 ≤ _
      omega
    · show _ + 0 ≤ _
      omega
theorem ext_also {p : HD} {a : Addr} {H H' : Hp} (e : Ext p H H') : Ext (p.also a) H H' := e
/-- what the tests and the element of a list comprehension are read by -/
def ttU (K : PySem.W.Frag) (xs : List D) (b : Nat → Bool) (cs cm : Nat → PC) (ρt : Nat → Rho) : TT := fun σ H Q => ∃ (q : HD) (i : Nat) (d : D), xs[i]? = some d ∧ tT K Wf q (ρt i) (cs i) (.val (b i) (cm i)) σ H Q
def teU (K : PySem.W.Frag) (xs : List D) (b : Nat → Bool) (y : Nat → D) (cs cm : Nat → PC) (ρt : Nat → Rho) (nws : Nat → Bool) : TE := fun σ H Q => ∃ (q : HD) (i : Nat) (d : D), xs[i]? = some d ∧ b i = true ∧ tE K Wf q (ρt i) (cm i) (.val (y i) (nws i) (cs (i + 1))) σ H Q
theorem lc_read {xs : List D} {g : TG} {vs : List Nat} {b : Nat → Bool} {y : Nat → D} {cs cm : Nat → PC} {ρt : Nat → Rho} {nws : Nat → Bool}
    (htg : ∀ i d, xs[i]? = some d → TgOk K g vs d (wipeR ρ vs) (ρt i))
    (hno : ∀ i d, xs[i]? = some d → b i = false → cs (i + 1) = cm i) (hz : xs.length ≤ 100000) : ∀ σ H Q, tE K W p ρ c (.val (.lst ⟨false, true⟩ (coll b y xs.length)) true (cs xs.length)) σ H Q → tLc (tI K W p ρ c xs (cs 0)) g (ttU K xs b cs cm ρt) (teU K xs b y cs cm ρt nws) vs σ H Q := by
  refine fun σ H Q ⟨s, k⟩ => ⟨s, fun J H1 e1 p1 yl L nL => ?_⟩
  -- the invariant
  have yl' := yl (p.also L)
  have hsub : Sub (hide p H1) (hide (p.also L) H1) := also_sub nL
  have s1 : SR K p H1 σ ρ (cs 0) := s.mono e1 p1
  have s2 : SR K (p.also L) H1 σ ρ (cs 0) → True := fun _ => trivial
  refine ⟨fun i m H2 => m = xs.length - i ∧ i ≤ xs.length ∧ Ext p H1 H2 ∧ (∃ vs, H2 L = some (.lst vs) ∧ DVs K (p.also L) H2 vs (coll b y i)) ∧ PoolAt p H2 (cs i), ⟨xs.length, by simp, Nat.zero_le _, Ext.new nL, ⟨[], upd_same, .nil⟩, p1.upd nL⟩, ?_⟩
  rintro i m H2 ⟨rfl, hi', e2, ⟨vs, hL, dvs⟩, p2⟩
  have nLp : p.pl ≠ some L := fun z => by
    rw [p1.1 L z] at nL
    cases nL
  have pq : PoolAt (p.also L) H2 (cs i) := ⟨p2.1, fun a ha => (List.mem_cons.mp ha).elim (fun z => by rw [z]; exact ⟨_, hL⟩) fun z => p2.2 a z⟩
  obtain ⟨hstop, hgo⟩ := yl' (cs i) H2 rfl (fun b o y => (ext_also e2).hide b o (hsub b o y)) pq
  by_cases hlt : i < xs.length
  · have hd : xs[i]? = some xs[i] := List.getElem?_eq_getElem hlt
    obtain ⟨g1, g2⟩ := hgo i _ hd
    refine .inr ⟨g1, fun H' => ∃ vs, H' L = some (.lst vs) ∧ DVs K (p.also L) H' vs (coll b y (i + 1)) ∧ Ext p H1 H' ∧ PoolAt p H' (cs (i + 1)), fun H' ⟨vs', a1, a2, a3, a4⟩ => ⟨xs.length - (i + 1), by omega, rfl, hlt, a3, ⟨vs', a1, a2⟩, a4⟩, fun x H3 hy => ?_⟩
    obtain ⟨e3, p3, dx⟩ := g2 x H3 hy
    have sH : SR K (p.also L) H3 σ ρ (cs i) := ⟨s.len, fun j d hj => by
      obtain ⟨v, h1, h2⟩ := s1.at' j d hj
      exact ⟨v, h1, ((h2.also nL).mono (ext_also e2)).mono e3⟩, p3⟩
    refine (htg i _ hd).run (p.also L) (cs i) x _ H3 _ dx (sH.wipe _) p3 fun σ2 s2 hw => ⟨hw.trans wipe_wipe, p.also L, i, _, hd, s2, fun H4 e4 p4 => ?_⟩
    have hL4 : H4 L = some (.lst vs) := e4 L _ nLp (e3 L _ nLp hL)
    have e24 : Ext p H2 H4 := fun a o n h => e4 a o n (e3 a o n h)
    cases hb : b i with
    | false =>
      refine iteF ⟨vs, hL4, ?_, e2.trans e24, ?_⟩
      · show DVs K (p.also L) H4 vs (coll b y i ++ if b i then [y i] else [])
        rw [hb, if_neg Bool.false_ne_true, List.append_nil]
        exact dvs.mono (ext_also e24)
      · rw [hno i _ hd hb]
        exact ⟨p4.1, fun a ha => p4.2 a (List.mem_cons_of_mem _ ha)⟩
    | true =>
      refine iteT ⟨p.also L, i, _, hd, hb, s2.mono e4 p4, fun v H5 e5 p5 dv _ => ?_⟩
      have hL5 : H5 L = some (.lst vs) := e5 L _ nLp hL4
      have e25 : Ext p H2 H5 := fun a o n h => e5 a o n (e24 a o n h)
      have up : ∀ a o, a ≠ L → H5 a = some o → upd H5 L (.lst (vs ++ [v])) a = some o := fun a o n h => by
        rw [upd_ne n]
        exact h
      have sb : Sub (hide (p.also L) H5) (hide (p.also L) (upd H5 L (.lst (vs ++ [v])))) := fun a o h => by
        obtain ⟨h1, h2⟩ := hide_some h
        have hn : a ≠ L := fun z => h2 (.inr (by rw [z]; exact List.mem_cons_self))
        rw [hide_ne h2]
        exact up a o hn h1
      refine ⟨vs, hL5, ?_, vs ++ [v], upd_same, ?_, ?_, ?_⟩
      · have := coll_len b y i
        rw [dvs.length]
        exact sz_lt (by omega)
      · show DVs K (p.also L) _ (vs ++ [v]) (coll b y i ++ if b i then [y i] else [])
        rw [hb, if_pos rfl]
        exact DVs.app ((dvs.mono (ext_also e25)).sub sb fun _ z => z) (.cons (dv.sub sb fun _ z => z) .nil)
      · refine fun a o n h => ?_
        have hn : a ≠ L := ne_of_none h nL
        exact up a o hn (e25 a o n (e2 a o n h))
      · exact ⟨fun a z => by
          rw [upd_ne (fun q => nLp (by rw [← q]; exact z))]
          exact p5.1 a z, fun a ha => by
          obtain ⟨o, ho⟩ := p5.2 a (List.mem_cons_of_mem _ ha)
          by_cases hn : a = L
          · exact ⟨_, by rw [hn]; exact upd_same⟩
          · exact ⟨o, up a o hn ho⟩⟩
  · have e : i = xs.length := by omega
    subst e
    have hh : hide p H2 L = some (.lst vs) := by
      rw [hide_ne]
      · exact hL
      · rintro (z | z)
        · exact nLp z
        · obtain ⟨o, ho⟩ := p1.2 L z
          rw [nL] at ho
          cases ho
    exact .inl ⟨hstop, k (.ref L) H2 (e1.trans e2) p2 (.lst ⟨(fun z => nomatch z), fun _ => hh⟩ (.inl (.inl hh)) (dvs.sub sub_also fun _ z => z)) fun _ => (New.of p1 nL).back e1⟩
theorem re_lc {elt iter : Expr} {ifs : List Expr} {scope : Scope} {own : List (Str × Nat)} {xs : List D} {g : TG} (b : Nat → Bool) (y : Nat → D) (cs cm : Nat → PC) (ρt : Nat → Rho) (nws : Nat → Bool) (hc : X.calm = true) (hN : X.N.Nodup) (hi : RI X W p ρ c tg iter xs (cs 0)) (ok : BlkOk X.N X.env.scope scope own)
    (hg : ∀ (s : Shared) (H : Hp) (C : Addr) (cl : List (Str × Addr)) (fp : List Addr), PG (X.blk s H scope (compEnvC scope cl C X.env) fp) tg g)
    (htg : ∀ i d, xs[i]? = some d → TgOk X.K g (own.map (·.2)) d (wipeR ρ (own.map (·.2))) (ρt i))
    (ht : ∀ i d, xs[i]? = some d → ∀ (q : HD) (s : Shared) (H : Hp) (C : Addr) (cl : List (Str × Addr)) (fp : List Addr), PTs (X.blk s H scope (compEnvC scope cl C X.env) fp) ifs (tT X.K Wf q (ρt i) (cs i) (.val (b i) (cm i))))
    (he : ∀ i d, xs[i]? = some d → b i = true → ∀ (q : HD) (s : Shared) (H : Hp) (C : Addr) (cl : List (Str × Addr)) (fp : List Addr), RE (X.blk s H scope (compEnvC scope cl C X.env) fp) Wf q (ρt i) (cm i) elt (.val (y i) (nws i) (cs (i + 1))))
    (hno : ∀ i d, xs[i]? = some d → b i = false → cs (i + 1) = cm i) (hz : xs.length ≤ 100000)
    (hs : ∀ x, foldedSetIterable iter X.env x = pure x := by intro _; rfl) : RE X W p ρ c (.ListComp elt [⟨tg, iter, ifs, 0⟩] scope pos) (.val (.lst ⟨false, true⟩ (coll b y xs.length)) true (cs xs.length)) :=
  pe_imp (pe_lc (tt := ttU X.K xs b cs cm ρt) (te := teU X.K xs b y cs cm ρt nws) hc hN hi ok hg (fun s H C cl fp => ⟨fun pins s' σ H' Q I ⟨q, i, d, hd, h⟩ => (ht i d hd q s H C cl fp).run pins s' σ H' Q I h⟩)
    (fun s H C cl fp => ⟨fun pins s' σ H' Q I ⟨q, i, d, hd, hb, h⟩ => (he i d hd hb q s H C cl fp).run pins s' σ H' Q I h⟩) hs) (lc_read htg hno hz)
/-- name = [..] -/
theorem rs_lc {elt iter : Expr} {ifs : List Expr} {scope : Scope} {own : List (Str × Nat)} {xs : List D} {g : TG} {yn : Str} {py spos : Pos} (j : Nat) (b : Nat → Bool) (y : Nat → D) (cs cm : Nat → PC) (ρt : Nat → Rho) (nws : Nat → Bool) (hc : X.calm = true) (hN : X.N.Nodup) (hi : RI X W p ρ c tg iter xs (cs 0)) (ok : BlkOk X.N X.env.scope scope own)
    (hg : ∀ (s : Shared) (H : Hp) (C : Addr) (cl : List (Str × Addr)) (fp : List Addr), PG (X.blk s H scope (compEnvC scope cl C X.env) fp) tg g)
    (htg : ∀ i d, xs[i]? = some d → TgOk X.K g (own.map (·.2)) d (wipeR ρ (own.map (·.2))) (ρt i))
    (ht : ∀ i d, xs[i]? = some d → ∀ (q : HD) (s : Shared) (H : Hp) (C : Addr) (cl : List (Str × Addr)) (fp : List Addr), PTs (X.blk s H scope (compEnvC scope cl C X.env) fp) ifs (tT X.K Wf q (ρt i) (cs i) (.val (b i) (cm i))))
    (he : ∀ i d, xs[i]? = some d → b i = true → ∀ (q : HD) (s : Shared) (H : Hp) (C : Addr) (cl : List (Str × Addr)) (fp : List Addr), RE (X.blk s H scope (compEnvC scope cl C X.env) fp) Wf q (ρt i) (cm i) elt (.val (y i) (nws i) (cs (i + 1))))
    (hno : ∀ i d, xs[i]? = some d → b i = false → cs (i + 1) = cm i) (hz : xs.length ≤ 100000) (hy : X.N[j]? = some yn := by rfl) (hyl : X.env.scope.names.lookup yn = some .local := by rfl) (hsw : swapsWith (.ListComp elt [⟨tg, iter, ifs, 0⟩] scope pos) (some (.Name yn py)) spos.line X.env = pure true := by exact sw_true rfl rfl rfl (by decide +kernel))
    (hs : ∀ x, foldedSetIterable iter X.env x = pure x := by intro _; rfl) : RS X W p ρ c (.Assign [.Name yn py] (.ListComp elt [⟨tg, iter, ifs, 0⟩] scope pos) spos) (.nx (ρ.set j (some (.lst ⟨false, true⟩ (coll b y xs.length)))) (cs xs.length)) :=
  ps_imp (ps_setLc (tt := ttU X.K xs b cs cm ρt) (te := teU X.K xs b y cs cm ρt nws) hc hN hy hyl hsw hi ok hg (fun s H C cl fp => ⟨fun pins s' σ H' Q I ⟨q, i, d, hd, h⟩ => (ht i d hd q s H C cl fp).run pins s' σ H' Q I h⟩)
    (fun s H C cl fp => ⟨fun pins s' σ H' Q I ⟨q, i, d, hd, hb, h⟩ => (he i d hd hb q s H C cl fp).run pins s' σ H' Q I h⟩) hs) fun De σ H h => lc_read htg hno hz σ H _ ⟨h.1, fun v H1 e1 p1 dv _ => h.2 _ H1 e1 ((h.1.mono e1 p1).set j dv)⟩
end
end LA
namespace LA
open PySem PySem.Spec PyProof.Rows L2
/-! ### data as the model's own data; repr -/
mutual
def toPy : D → PyData
  | .non => .none
  | .bl b => .bool b
  | .int i => .int i
  | .str s => .str s
  | .lst _ xs => .list (toPys xs)
  | .tup xs => .tuple (toPys xs)
  | .dct kvs => .dict (toPyk kvs)
  | .pool => .none
  | .ty _ => .none
  | .cls _ => .none
  | .exn _ _ _ => .none
def toPys : List D → List PyData
  | [] => []
  | d :: r => toPy d :: toPys r
def toPyk : List (Key × D) → List (PyData × PyData)
  | [] => []
  | (k, d) :: r => ((match k with | .inl i => .int i | .inr x => .str x), toPy d) :: toPyk r
end
/-! no pool within, and every list, if big, behind the run's own objects -/
mutual
def okD (big : Bool) : D → Bool
  | .lst g xs => (g.s || !big) && okDs big xs
  | .tup xs => okDs big xs
  | .dct kvs => okDk big kvs
  | .pool => false
  | .ty _ => false
  | .cls _ => false
  | .exn _ _ _ => false
  | _ => true
def okDs (big : Bool) : List D → Bool
  | [] => true
  | d :: r => okD big d && okDs big r
def okDk (big : Bool) : List (Key × D) → Bool
  | [] => true
  | (_, d) :: r => okD big d && okDk big r
end
def NoSys (big : Bool) (as : List Addr) : Prop := big = true → sysModules ∉ as
theorem NoSys.app {big : Bool} {as bs : List Addr} (h1 : NoSys big as) (h2 : NoSys big bs) : NoSys big (as ++ bs) := fun b m => (List.mem_append.mp m).elim (h1 b) (h2 b)
section
variable {X : Cx} {pins : List (Addr × Obj)} {σ : L2.St} {H : Hp} {s : Shared} {p : HD}
theorem keys_read {P : Program} {w : World} {h : Heap} : ∀ {es : List DictEntry} {vs : List (Key × Value)}, Pairs (mixKind P w) es vs → ∀ {kvs : List (Key × V)} {ds : List (Key × D)} {K : PySem.W.Frag}, KV kvs vs → DVk K p H kvs ds → ReadsAll h (es.map (·.key)) ((toPyk ds).map (·.1)) [] ∧ Vals (kvs.map (·.2)) (es.map (·.val))
  | _, _, .nil, _, _, _, .nil, .nil => ⟨.nil, .nil⟩
  | e :: es, (k, u) :: vs, .cons h1 h2 h3, (k', v) :: kvs, _, _, .cons r t, .cons (d := d) hd hk => by
    obtain ⟨a1, a2⟩ := keys_read (h := h) h3 t hk
    obtain ⟨r1, r2⟩ := r
    have r1 : k' = k := r1
    have h2 : e.val = u := h2
    subst r1 h2
    refine ⟨?_, .cons r2 a2⟩
    have hkey : keyIs k' e.key = true := h1
    rcases keyIs_shape hkey with ⟨i, t, e1, e2⟩ | ⟨x, t, e1, e2⟩
    · subst e1
      show ReadsAll _ (e.key :: es.map (·.key)) (.int i :: (toPyk _).map (·.1)) ([] ++ [])
      rw [e2]
      exact .cons (.int i t) a1
    · subst e1
      show ReadsAll _ (e.key :: es.map (·.key)) (.str x :: (toPyk _).map (·.1)) ([] ++ [])
      rw [e2]
      exact .cons (.str x t) a1
mutual
theorem reads_of {big : Bool} (I : Inv X pins σ H s) : ∀ (d : D) (v : V) (u : Value), DV X.K p H v d → okD big d = true → RelV v u → ∃ as, Reads s.heap u (toPy d) as ∧ NoSys big as
  | .non, _, _, h, _, r => by
    cases h
    cases r
    exact ⟨[], by unfold toPy; exact .none, fun _ m => nomatch m⟩
  | .bl b, _, _, h, _, r => by
    cases h
    cases r
    exact ⟨[], by unfold toPy; exact .bool b, fun _ m => nomatch m⟩
  | .int i, _, _, h, _, r => by
    cases h
    obtain ⟨t, rfl⟩ := r
    exact ⟨[], by unfold toPy; exact .int i t, fun _ m => nomatch m⟩
  | .str x, _, _, h, _, r => by
    cases h
    obtain ⟨t, rfl⟩ := r
    exact ⟨[], by unfold toPy; exact .str x t, fun _ m => nomatch m⟩
  | .lst g ds, _, _, .lst (a := a) hb hq ha, o, r => by
    obtain rfl := (show _ = Value.ref a from r)
    unfold okD at o
    obtain ⟨o1, o2⟩ := Bool.and_eq_true_iff.mp o
    obtain ⟨its, rv, ⟨ob, n, ho, hc, _, hd⟩, _⟩ := I.list (un_sqL hq)
    obtain ⟨as, q1, q2⟩ := readss_of (big := big) I ds _ its ha o2 rv
    refine ⟨_, by unfold toPy; exact Reads.list ho hc hd q1, fun b m => ?_⟩
    rcases List.mem_cons.mp m with m | m
    · subst b
      have hg : g.s = true := by simpa using o1
      exact hb.1 hg m.symm
    · exact q2 b m
  | .tup ds, _, _, .tup (a := a) hq ha, o, r => by
    obtain rfl := (show _ = Value.ref a from r)
    unfold okD at o
    obtain ⟨its, rv, ⟨ob, ho, hc, n, hd⟩, _⟩ := I.tuple (un_sqT hq)
    obtain ⟨as, q1, q2⟩ := readss_of (big := big) I ds _ its ha o rv
    exact ⟨_, by unfold toPy; exact Reads.tuple ho hc hd q1, q2⟩
  | .dct ds, _, _, .dct (a := a) hq hk, o, r => by
    obtain rfl := (show _ = Value.ref a from r)
    unfold okD at o
    obtain ⟨hz, hs, vs, rel, ob, es, ep, ho, hx, hd, _, hp, _⟩ := dk_rd I.hok (un_rd hq)
    obtain ⟨k1, k2⟩ := keys_read (h := s.heap) hp rel hk
    obtain ⟨bs, q1, q2⟩ := readsk_of (big := big) I ds _ _ hk o k2
    refine ⟨_, by unfold toPy; exact Reads.dict ho hx.1 hd k1 q1, fun b m => ?_⟩
    rcases List.mem_cons.mp m with m | m
    · rw [← m] at hs
      exact absurd hs (by decide)
    · exact q2 b m
  | .pool, _, _, _, o, _ => by cases o
  | .ty _, _, _, _, o, _ => by cases o
  | .cls _, _, _, _, o, _ => by cases o
  | .exn _ _ _, _, _, _, o, _ => by cases o
theorem readss_of {big : Bool} (I : Inv X pins σ H s) : ∀ (ds : List D) (vs : List V) (us : List Value), DVs X.K p H vs ds → okDs big ds = true → Vals vs us → ∃ as, ReadsAll s.heap us (toPys ds) as ∧ NoSys big as
  | [], _, _, h, _, r => by
    cases h
    cases r
    exact ⟨[], by unfold toPys; exact .nil, fun _ m => nomatch m⟩
  | d :: ds, _, _, .cons h1 h2, o, r => by
    unfold okDs at o
    obtain ⟨o1, o2⟩ := Bool.and_eq_true_iff.mp o
    cases r with
    | cons r1 r2 =>
      obtain ⟨as, q1, n1⟩ := reads_of (big := big) I d _ _ h1 o1 r1
      obtain ⟨bs, q2, n2⟩ := readss_of (big := big) I ds _ _ h2 o2 r2
      exact ⟨_, by unfold toPys; exact .cons q1 q2, n1.app n2⟩
theorem readsk_of {big : Bool} (I : Inv X pins σ H s) : ∀ (ds : List (Key × D)) (kvs : List (Key × V)) (us : List Value), DVk X.K p H kvs ds → okDk big ds = true → Vals (kvs.map (·.2)) us → ∃ as, ReadsAll s.heap us ((toPyk ds).map (·.2)) as ∧ NoSys big as
  | [], _, _, h, _, r => by
    cases h
    cases r
    exact ⟨[], by unfold toPyk; exact .nil, fun _ m => nomatch m⟩
  | (k, d) :: ds, _, _, .cons h1 h2, o, r => by
    unfold okDk at o
    obtain ⟨o1, o2⟩ := Bool.and_eq_true_iff.mp o
    cases r with
    | cons r1 r2 =>
      obtain ⟨as, q1, n1⟩ := reads_of (big := big) I d _ _ h1 o1 r1
      obtain ⟨bs, q2, n2⟩ := readsk_of (big := big) I ds _ _ h2 o2 r2
      exact ⟨_, by unfold toPyk; exact .cons q1 q2, n1.app n2⟩
end
/-- what repr asks of a datum: big where a dict stands within -/
structure Shows (d : D) : Prop where
  ok : okD (toPy d).hasDict d = true
  sh : (toPy d).showable = true
  dp : (toPy d).depth ≤ 60
  sz : (toPy d).shown.length ≤ sizeLine
theorem shown_int (i : Int) : PyData.shown (.int i) = toString i := by unfold PyData.shown; rfl
def rRep (K : PySem.W.Frag) : List V → Hp → VK → Prop := fun xs H Q => ∃ (p : HD) (v : V) (d : D), xs = [v] ∧ DV K p H v d ∧ Shows d ∧ Q (.str (toPy d).shown) H
theorem call_repr (hg : X.A.guards = some []) (hu : X.A.units + 70 < cLine) : CallR X (.builtin "repr") (rRep X.K) := by
  intro pins s σ H xs us Q I r h
  obtain ⟨p, v, d, rfl, dv, S, q⟩ := h
  obtain ⟨u, rfl, ru⟩ := vals1 r
  have sz := S.sz
  have byref : ∀ a, v = .ref a → wpAny (model X.prog X.w) X.A (call (.builtin "repr") [u]) (EP X pins σ Q) X.xe s := fun a e => by
    subst e
    obtain rfl : u = Value.ref a := ru
    obtain ⟨as, q1, q2⟩ := reads_of (big := (toPy d).hasDict) I d _ _ dv S.ok rfl
    exact repr_of_reads' q1 S.sh q2 hg (by have := S.dp; omega) (fun _ _ e => e) (fun h' u tk hk => ⟨.str _, H, I.kept (t' := tk) hk, ⟨u, rfl⟩, q⟩) sz
  cases dv with
  | non =>
    cases ru
    refine PySem.P.repr_of_none ⟨.str _, H, I.tok _, ⟨_, rfl⟩, ?_⟩
    unfold toPy PyData.shown at q
    exact q
  | bl b =>
    cases ru
    refine PySem.P.repr_of_bool ⟨.str _, H, I.tok _, ⟨_, rfl⟩, ?_⟩
    unfold toPy PyData.shown at q
    exact q
  | int i =>
    obtain ⟨t, rfl⟩ := ru
    have hs := S.sh
    unfold toPy PyData.showable at hs
    refine PySem.P.repr_of_int (of_decide_eq_true hs) ⟨.str _, H, I.tok _, ⟨_, rfl⟩, ?_⟩
    unfold toPy PyData.shown at q
    exact q
  | str x =>
    obtain ⟨t, rfl⟩ := ru
    unfold toPy PyData.shown at sz
    refine PySem.P.repr_of_str ⟨.str _, H, I.tok _, ⟨_, rfl⟩, ?_⟩ sz
    unfold toPy PyData.shown at q
    exact q
  | lst _ _ _ => exact byref _ rfl
  | tup _ _ => exact byref _ rfl
  | dct _ _ => exact byref _ rfl
  | pool _ => exact absurd S.ok (by unfold okD; exact Bool.false_ne_true)
  | ty _ => exact absurd S.ok (by unfold okD; exact Bool.false_ne_true)
  | cls _ => exact absurd S.ok (by unfold okD; exact Bool.false_ne_true)
  | exn _ _ => exact absurd S.ok (by unfold okD; exact Bool.false_ne_true)
end
section
variable {K : PySem.W.Frag} {p : HD} {c : PC}
theorem cv_repr {d : D} (h : Shows d) : CV K p (rRep K) [d] (.str (toPy d).shown) true c := fun vs H Q dvs hp k => by
  cases dvs with
  | cons hv r =>
    cases r
    exact ⟨p, _, d, rfl, hv, h, k _ H (Ext.refl p H) hp (.str _) fun _ => New.sc (by intro a h; cases h)⟩
/-! ### all, isinstance, join, list(range) -/
theorem of_bools {H : Hp} : ∀ {vs : List V} {bs : List Bool}, DVs K p H vs (bs.map D.bl) → vs = bs.map V.bl
  | _, [], .nil => rfl
  | _, b :: r, .cons h t => by
    cases h
    rw [of_bools t]
    rfl
theorem cv_all {g : G} {bs : List Bool} : CV K p (rAll K) [.lst g (bs.map D.bl)] (.bl (bs.all id)) true c := fun vs H Q dvs hp k => by
  cases dvs with
  | cons hv r =>
    cases r
    cases hv with
    | lst _ hq ha =>
      rw [of_bools ha] at hq
      exact ⟨_, bs, rfl, un_sqL hq, k _ H (Ext.refl p H) hp (.bl _) fun _ => New.sc (by intro a h; cases h)⟩
/-- the built-in type of a datum -/
def tyD : D → Option String
  | .non => some "NoneType"
  | .bl _ => some "bool"
  | .int _ => some "int"
  | .str _ => some "str"
  | .lst _ _ => some "list"
  | .tup _ => some "tuple"
  | .dct _ => some "dict"
  | .pool => none
  | .ty _ => none
  | .cls _ => none
  | .exn _ _ _ => none
end
end LA
namespace LA
open PySem PySem.Spec PyProof.Rows L2
section
variable {X : Cx} {W : WX} {p : HD} {ρ ρ1 : Rho} {c c1 c2 c3 : PC} {e e2 a b o tg : Expr} {es : List Expr} {pos apos : Pos} {d d1 d2 : D} {n1 n2 nw : Bool} {K : PySem.W.Frag}
/-! ### isinstance -/
theorem tyx_of {H : Hp} {v : V} {d : D} {t : String} (h : DV K p H v d) (e : tyD d = some t) : TyX K H v (.type t) := by
  cases h with
  | non => cases e; exact .base .non
  | bl b => cases e; exact .base (.bl b)
  | int i => cases e; exact .base (.int i)
  | str x => cases e; exact .base (.str x)
  | lst _ hq _ =>
    cases e
    rcases un_sqL hq with (h | ⟨o, h⟩) | ⟨o, its, n, hk, hc, _⟩
    · exact .base (.lst h)
    · exact .base (.frz h)
    · exact .kList hk hc
  | tup hq _ =>
    cases e
    rcases un_sqT hq with (h | ⟨o, h⟩) | ⟨o, its, n, hk, hc, _⟩
    · exact .base (.tup h)
    · exact .fTuple h
    · exact .kTuple hk hc
  | dct hq _ =>
    cases e
    rcases un_rd hq with h | ⟨o, h⟩
    · exact .base (.dK h)
    · exact .fDict h
  | pool _ => cases e
  | ty _ => cases e
  | cls _ => cases e
  | exn _ _ => cases e
theorem cv_isi {t n : String} {k : Bool} (hd : tyD d = some t) (hk : kitB t n = some k) : CV K p (rIsi K) [d, .ty n] (.bl k) true c := fun vs H Q dvs hp kk => by
  cases dvs with
  | cons hv r =>
    cases r with
    | cons hv2 r =>
      cases r
      cases hv2
      exact ⟨_, _, _, _, k, rfl, .ty n, tyx_of hv hd, kit_ty hk, kk _ H (Ext.refl p H) hp (.bl _) fun _ => New.sc (by intro a h; cases h)⟩
theorem re_ty {x : Str} {n : String} (hm : X.mg x = none) (hv : bootBuiltins x = some (.type n)) (hg : Gl X x := by rfl) (hn : x ≠ "__name__" := by decide) (hd : (x == ("__debug__" : Str)) = false := by decide) : RE X W p ρ c (.Name x pos) (.val (.ty n) true c) :=
  re_c (pe_bltn (v := .ty n) hg hm hv rfl hn hd) (fun _ => .ty n) (by intro a h; cases h)
/-! ### sep.join(list of texts) -/
theorem re_join {g : G} {sep : Str} {ss : List Str} (ho : RE X W p ρ c o (.val (.str sep) n1 c1)) (he : RE X W p ρ c1 e (.val (.lst g (ss.map D.str)) n2 c2)) (hz : (ss.map (·.length)).sum + ss.length * sep.length ≤ 16777216)
    (hs : starEach [e] X.env = [(false, eval e X.env)] := by rfl) (hbase : attributeBase o "join" X.env (eval o X.env) = eval o X.env := by rfl) (hline : (apos.endLine == pos.line) = true := by rfl) :
    RE X W p ρ c (.Call (.Attribute o "join" apos) [e] [] pos) (.val (.str (Txt.join sep ss)) true c2) :=
  pe_imp (pe_join ho he hs hbase hline) fun σ H Q ⟨s, k⟩ => ⟨s, fun v H1 e1 p1 dv _ => by
    cases dv
    refine ⟨⟨sep, rfl⟩, s.mono e1 p1, fun u H2 e2 p2 du _ => ?_⟩
    cases du with
    | lst _ hq ha =>
      rw [of_strs ha] at hq
      exact ⟨sep, _, ss, rfl, rfl, .inl (un_sqL hq), hz, k _ H2 (e1.trans e2) p2 (.str _) fun _ => New.sc (by intro a h; cases h)⟩⟩
/-! ### list(range(n)) -/
theorem dvs_ints {H : Hp} : ∀ (l : List Nat), DVs K p H (l.map fun i => V.int ((0 : Int) + (i : Nat))) (l.map fun i => D.int ((i : Nat) : Int))
  | [] => .nil
  | i :: r => .cons (by
    show DV K p H (.int ((0 : Int) + (i : Nat))) (.int ((i : Nat) : Int))
    rw [Int.zero_add]
    exact .int _) (dvs_ints r)
theorem re_listRg {pl pr : Pos} {n : Int} (hc : X.calm = true) (ha : RE X W p ρ c e (.val (.int n) nw c1)) (h0 : 0 ≤ n) (h1 : n ≤ 100000) (hm : X.mg "range" = none) (hml : X.mg "list" = none) (hg : Gl X "range" := by rfl) (hgl : Gl X "list" := by rfl)
    (na : starEach [e] X.env = (false, eval e X.env) :: starEach [] X.env := by rfl)
    (nb : starEach [.Call (.Name "range" pr) [e] [] pos] X.env = (false, eval (.Call (.Name "range" pr) [e] [] pos) X.env) :: starEach [] X.env := by rfl) :
    RE X W p ρ c (.Call (.Name "list" pl) [.Call (.Name "range" pr) [e] [] pos] [] apos) (.val (.lst ⟨false, true⟩ (intsD n.toNat)) true c1) :=
  pe_imp (pe_listRg hc hgl hml (prg_1 hg hm ha na) nb) fun σ H Q ⟨s, k⟩ => ⟨s, fun v H1 e1 p1 dv _ => by
    cases dv
    refine ⟨n, rfl, RgOk.of_le (by decide) (by omega) (by decide) h0, fun q hq => ?_⟩
    refine k _ _ (e1.trans (Ext.new hq)) (p1.upd hq) (.lst ⟨(fun z => nomatch z), fun _ => hide_upd p1 hq⟩ (.inl (.inl (hide_upd p1 hq))) ?_) fun _ => (New.of p1 hq).back e1
    unfold rgV intsD
    rw [Int.sub_zero]
    exact dvs_ints _⟩
/-! ### {k: v}, the key a written text -/
theorem re_dct1 {x : Str} {j : Nat} {kp : Pos} (hv : ∀ q : HD, RE X W q ρ c e (.val d nw c1)) : RE X W p ρ c (.Dict [some (.Constant (.str x) j kp)] [e] pos) (.val (.dct [(.inr x, d)]) true c1) := by
  have N : ∀ (trs : List (TE × TE)), trs = [(tC (.str x), fun σ H Q => ∃ q : HD, tE X.K W q ρ c (.val d nw c1) σ H Q)] → PPs X pos [some (.Constant (.str x) j kp)] [e] trs := fun trs h => by
    subst h
    exact pps_cons pe_str ⟨fun pins s σ H Q I ⟨q, h⟩ => (hv q).run pins s σ H Q I h⟩ pps_nil
  refine pe_imp (pe_disp (N _ rfl) (by rfl) (by rfl) (fun z => by cases z) (by show 1 ≤ 15; decide)) fun σ H Q ⟨s, k⟩ => ?_
  intro L nL
  have pq : PoolAt (p.also L) (upd H L (.dK [])) c := ⟨(s.pl.upd nL).1, fun a ha => (List.mem_cons.mp ha).elim (fun z => by rw [z]; exact ⟨_, upd_same⟩) fun z => (s.pl.upd nL).2 a z⟩
  have nLp : p.pl ≠ some L := fun z => by
    have q := s.pl.1 L z
    rw [nL] at q
    cases q
  refine ⟨p.also L, ⟨s.len, fun i d hd => ?_, pq⟩, fun v H2 e2 p2 dv _ => ?_⟩
  · obtain ⟨v, h1, h2⟩ := s.at' i d hd
    exact ⟨v, h1, (h2.also nL).mono (Ext.new nL)⟩
  · have hL : H2 L = some (.dK []) := e2 L _ nLp upd_same
    have sb : Sub (hide (p.also L) H2) (hide p (upd H2 L (.dK (mergeK [] [(.inr x, v)])))) := fun a o h => by
      obtain ⟨h1, h2⟩ := hide_some h
      have hn : a ≠ L := fun z => h2 (.inr (by rw [z]; exact List.mem_cons_self))
      rw [hide_ne (show ¬ p.hid a from fun z => h2 (z.elim .inl fun m => .inr (List.mem_cons_of_mem _ m))), upd_ne hn]
      exact h1
    refine ⟨hL, [(.inr x, v)], rfl, by show 1 ≤ 15; decide, ?_⟩
    have e1 : Ext p H (upd H2 L (.dK (mergeK [] [(.inr x, v)]))) := fun a o n h => by
      rw [upd_ne (ne_of_none h nL)]
      exact e2 a o n (by rw [upd_ne (ne_of_none h nL)]; exact h)
    refine k _ _ e1 ⟨fun a z => ?_, fun a ha => ?_⟩ (.dct (.inl ?_) (.cons (dv.sub sb fun _ z => z) .nil)) fun _ => New.of s.pl nL
    · rw [upd_ne (fun q => nLp (by rw [← q]; exact z))]
      exact p2.1 a z
    · obtain ⟨o, ho⟩ := p2.2 a (List.mem_cons_of_mem _ ha)
      by_cases hn : a = L
      · exact ⟨_, by rw [hn]; exact upd_same⟩
      · exact ⟨o, by rw [upd_ne hn]; exact ho⟩
    · rw [hide_ne, upd_same]
      · rfl
      · rintro (z | z)
        · exact nLp z
        · obtain ⟨o, ho⟩ := s.pl.2 L z
          rw [nL] at ho
          cases ho
end
end LA
namespace LA
open PySem PySem.Spec PyProof.Rows L2
/-! ### try with several clauses, each with or without a name -/
/-- a clause: its class, the slot of its name, what its suite reads -/
structure Cl where
  c : Value
  i : Option Nat
  ts : Addr → Value → Option Addr → TS
def inSlot : Option Nat → V → L2.St → L2.St
  | none, _, σ => σ
  | some i, v, σ => σ.set i (some v)
def outSlot : Option Nat → L2.St → L2.St
  | none, σ => σ
  | some i, σ => σ.set i none
def Ends.behind (D : Ends) (i : Option Nat) : Ends := { nx := fun σ' H' => D.nx (outSlot i σ') H', rt := D.rt, bk := fun σ' H' => D.bk (outSlot i σ') H', ct := fun σ' H' => D.ct (outSlot i σ') H' }
def wCl (K : PySem.W.Frag) (Wo : WX) (D : Ends) : List Cl → WX
  | [] => Wo
  | l :: r => fun cls d σ H => ∃ b, PySem.W.exmOne K cls l.c = some b ∧ (b = true → ∀ a, H a = none → l.ts a cls d (Ends.behind D l.i) (inSlot l.i (.ref a) σ) H) ∧ (b = false → wCl K Wo D r cls d σ H)
inductive ClsOk (X : Cx) : List ExceptHandler → List Cl → Prop
  | nil : ClsOk X [] []
  | bare {x : Str} {c : Value} {ts : Addr → Value → Option Addr → TS} {b0 : Stmt} {su : List Stmt} {np hp : Pos} {hs : List ExceptHandler} {l : List Cl} (nm : Names X x c)
      (run : ∀ (a : Addr) (oe : Obj) (cls : Value) (d : Option Addr) (pn : List (Addr × Obj)), Zc cls d oe → (∃ vs, oe.data = .fields vs) → PSs (X.suite a ((a, oe) :: pn)) (b0 :: su) (ts a cls d)) (r : ClsOk X hs l) :
      ClsOk X (.ExceptHandler (some (.Name x np)) none (b0 :: su) hp :: hs) (⟨c, none, ts⟩ :: l)
  | named {x n : Str} {c : Value} {i : Nat} {ts : Addr → Value → Option Addr → TS} {b0 : Stmt} {su : List Stmt} {np hp : Pos} {hs : List ExceptHandler} {l : List Cl} (nm : Names X x c) (hi : X.N[i]? = some n) (hl : X.env.kindOf n = some .local)
      (run : ∀ (a : Addr) (oe : Obj) (cls : Value) (d : Option Addr) (pn : List (Addr × Obj)), Zc cls d oe → (∃ vs, oe.data = .fields vs) → PSs (X.suite a ((a, oe) :: pn)) (b0 :: su) (ts a cls d)) (r : ClsOk X hs l) :
      ClsOk X (.ExceptHandler (some (.Name x np)) (some n) (b0 :: su) hp :: hs) (⟨c, some i, ts⟩ :: l)
section
variable {X : Cx} {body : List Stmt} {h0 : ExceptHandler} {hs : List ExceptHandler} {l : List Cl} {pos : Pos} {tb : WX → TS} {Wo : WX}
theorem ps_tryCl (hst : X.stack = X.env :: X.outer) (hfr : X.env.frame = some X.env.locals) (hN : X.N.Nodup) (tk : Takes X Wo)
    (hb : ∀ (W : WX) (pn : List (Addr × Obj)) (xe : Value → Shared → Prop), Takes (X.tr pn xe) W → PassesOwn (model X.prog X.w) X.A X.env xe → PSs (X.tr pn xe) body (tb W))
    (hh : ClsOk X (h0 :: hs) l) : PS X (.Try body (h0 :: hs) [] [] pos) (fun D σ H => tb (wCl X.K Wo D l) D σ H) := by
  refine ⟨fun pins s σ H D I hw => ?_⟩
  have OK := I.ok
  have fr2 : X.A.frames = some (X.env :: X.outer) := OK.frames.trans (by rw [hst])
  refine wpAny_Try_except (wpAny_mono ((hb (wCl X.K Wo D l) (X.pn ++ pins) (fun ev sa => wpAny (model X.prog X.w) X.A (noteFrame ev X.env) (fun _ sb => wpAny (model X.prog X.w) X.A (setFlight ev none) (fun _ sc =>
    wpAny (model X.prog X.w) X.A (handleBy ev X.env (h0 :: hs)) (SP X pins D) X.xe sc) X.xe sb) X.xe sa) (fun u sr xx => ?_) PassesOwn.looking).run [] s σ H D (I.toTry _) hw) (fun fl sr q => ?_) fun ev sr q => q)
  · obtain ⟨a, B, sI, pins', σ1, H1, cls, d, rfl, J1, nb, up, sky, na, os, ag, wish⟩ := xx
    have JA : Inv X pins σ1 H1 sI := J1.ofTry OK
    have skyA : Sky B (X.env :: X.outer) a (Zc cls d) X.env.locals sr.heap := by
      rw [← hst]
      exact sky
    show wpAny (model X.prog X.w) X.A (noteFrame (.ref a) X.env) _ _ _
    refine Sky.land Zc.steady fr2 hfr skyA fun hp3 fly upB => ?_
    have JB : Inv X pins σ1 H1 { sr with heap := hp3 } := JA.landed nb fly.1 (up.trans upB) os ag
    obtain ⟨ob, fv, g1, g2, g3⟩ := fly.there
    have notIn : ∀ {hp : Heap} {o : Obj} {ws : Array Value}, hp.FunFrames B (X.env :: X.outer) → hp.get? a = some o → o.data = .fields ws → a ∉ frs (X.env :: X.outer) := fun {hp o ws} ff y z m => by
      obtain ⟨_, o2, y2, nf⟩ := ff.mem m
      rw [y] at y2
      cases y2
      exact nf _ z
    have nAll := notIn fly.2.2.1 g1 g3
    have nLoc : a ≠ X.env.locals := fun z => nAll (List.mem_filterMap.mpr ⟨X.env, List.mem_cons_self, by rw [hfr, z]⟩)
    have nFs : a ∉ X.fs := fun m => by
      obtain ⟨en, hen, z⟩ := List.mem_filterMap.mp m
      exact nAll (List.mem_filterMap.mpr ⟨en, List.mem_cons_of_mem _ hen, z⟩)
    have SB := JB.suite g1 g3 na nLoc nFs
    have seen : ∀ {x : Str} {np : Pos} {c : Value} {Q : Value → Shared → Prop} {E : Value → Shared → Prop}, Names X x c → Q c { sr with heap := hp3 } → wpAny (model X.prog X.w) (X.A.mark (some (.ref a))) (eval (.Name x np) X.env) Q E { sr with heap := hp3 } := fun {x np c Q E} nm q => by
      obtain ⟨hg, hd, hm | ⟨hm, hv, hnn⟩⟩ := nm
      · exact ld_glob (X := X.suite a ((a, ob) :: (X.pn ++ pins))) SB hg hm q hd
      · exact ld_blt (X := X.suite a ((a, ob) :: (X.pn ++ pins))) SB hg hm hv q hnn hd
    have walk : ∀ {hs' : List ExceptHandler} {l' : List Cl}, ClsOk X hs' l' → wCl X.K Wo D l' cls d σ1 H1 → wpAny (model X.prog X.w) X.A (handleBy (.ref a) X.env hs') (SP X pins D) X.xe { sr with heap := hp3 } := by
      intro hs' l' ck
      induction ck with
      | nil =>
        intro wz
        refine wpAny_handleBy_nil ?_
        obtain ⟨z1, z2, z3, oe, vs, T, oT, tz, ho, hz, hdat, hf1, hrst⟩ := id fly
        unfold PySem.passOn
        refine wpAny_bind (wpAny_field ho hdat hf1 ?_)
        rw [if_neg (show ¬ ((Value.ref T == Value.none) = true) by simp)]
        have onw : wpAny (model X.prog X.w) X.A (setFlight (.ref a) X.env.frame) (fun _ sd => wpAny (model X.prog X.w) X.A (throw (.ref a) : Sem Flow) (SP X pins D) X.xe sd) X.xe { sr with heap := hp3 } := by
          rw [hfr]
          refine HandSPX.setFlight_upZ fly fun hp4 held upC => wpAny_throw (tk _ _ ?_)
          exact ⟨a, B, sI, pins, σ1, H1, cls, d, rfl, JA, nb, (up.trans upB).trans upC, .inr (.inr (by rw [hst]; exact held)), na, os, ag, wz⟩
        first
          | exact wpAny_bind (wpAny_pure (wpAny_bind onw))
          | exact wpAny_bind onw
      | @bare x c ts b0 su np hp hs2 l2 nm run r ih =>
        intro wz
        obtain ⟨b, hb1, yes, no⟩ := wz
        refine wpAny_handleBy_cons (codeAny_handlers_test ?_) (by intro z; cases z)
        have LT : PySem.W.Looks (model X.prog X.w) hp3 (typeOf (.ref a)) cls := fun A Q E s' kp q => wpAny_typeOf_ref (kp _ _ g1) (by rw [g2.1]; exact q)
        refine seen nm ((PySem.W.exm_one (M := model X.prog X.w) JB.kIn LT hb1).here ?_)
        cases b with
        | false =>
          show wpAny _ X.A (handleBy (.ref a) X.env hs2) _ _ _
          exact ih (no rfl)
        | true =>
          refine codeAny_handlers_suite ?_
          refine HandSPX.lands_againZ fly fun hp4 fly4 upC => ?_
          have JC : Inv X pins σ1 H1 { sr with heap := hp4 } := JA.landed nb fly4.1 ((up.trans upB).trans upC) os ag
          obtain ⟨o4, w4, y4, z4, d4⟩ := fly4.there
          refine wpAny_mono ((run a o4 cls d (X.pn ++ pins) z4 ⟨_, d4⟩).run [] _ _ H1 _ (JC.suite y4 d4 na nLoc nFs) (yes rfl a na)) (fun fl st q => ?_) fun _ _ z => False.elim z
          cases fl with
          | next => obtain ⟨σ6, H6, S6, q6⟩ := q; exact ⟨σ6, H6, S6.unsuite OK, q6⟩
          | brk => obtain ⟨σ6, H6, S6, q6⟩ := q; exact ⟨σ6, H6, S6.unsuite OK, q6⟩
          | cont => obtain ⟨σ6, H6, S6, q6⟩ := q; exact ⟨σ6, H6, S6.unsuite OK, q6⟩
          | ret u => obtain ⟨v6, σ6, H6, S6, r6, q6⟩ := q; exact ⟨v6, σ6, H6, S6.unsuite OK, r6, q6⟩
      | @named x n c i ts b0 su np hp hs2 l2 nm hi hl run r ih =>
        intro wz
        obtain ⟨b, hb1, yes, no⟩ := wz
        refine wpAny_handleBy_cons (codeAny_handlers_test ?_) (by intro z; cases z)
        have LT : PySem.W.Looks (model X.prog X.w) hp3 (typeOf (.ref a)) cls := fun A Q E s' kp q => wpAny_typeOf_ref (kp _ _ g1) (by rw [g2.1]; exact q)
        refine seen nm ((PySem.W.exm_one (M := model X.prog X.w) JB.kIn LT hb1).here ?_)
        cases b with
        | false =>
          show wpAny _ X.A (handleBy (.ref a) X.env hs2) _ _ _
          exact ih (no rfl)
        | true =>
          refine codeAny_handlers_suite_as ?_
          refine HandSPX.lands_againZ fly fun hp4 fly4 upC => ?_
          have JC : Inv X pins σ1 H1 { sr with heap := hp4 } := JA.landed nb fly4.1 ((up.trans upB).trans upC) os ag
          obtain ⟨o4, w4, y4, z4, d4⟩ := fly4.there
          refine store_ok (X := X.suite a ((a, o4) :: (X.pn ++ pins))) (v := .ref a) (JC.suite y4 d4 na nLoc nFs) hN hi (.inl hl) rfl (fun s5 S5 => ?_) (.inr hl)
          refine wpAny_mono ((run a o4 cls d (X.pn ++ pins) z4 ⟨_, d4⟩).run [] s5 _ H1 _ S5 (yes rfl a na)) (fun fl st q => ?_) fun _ _ z => False.elim z
          have close : ∀ {σ6 : L2.St} {H6 : Hp} {Q : Shared → Prop}, Inv (X.suite a ((a, o4) :: (X.pn ++ pins))) [] σ6 H6 st → (∀ s7, Inv X pins (σ6.set i none) H6 s7 → Q s7) →
              wpAny (model X.prog X.w) X.A (do bindName X.env n .none; unbindBehindTheSuite X.env n hp) (fun _ s7 => Q s7) X.xe st := fun {σ6 H6 Q} S6 hq => gone_ok (S6.unsuite OK) hN hi hl hq
          cases fl with
          | next => obtain ⟨σ6, H6, S6, q6⟩ := q; exact close S6 fun s7 J7 => ⟨_, H6, J7, q6⟩
          | brk => obtain ⟨σ6, H6, S6, q6⟩ := q; exact close S6 fun s7 J7 => ⟨_, H6, J7, q6⟩
          | cont => obtain ⟨σ6, H6, S6, q6⟩ := q; exact close S6 fun s7 J7 => ⟨_, H6, J7, q6⟩
          | ret u => obtain ⟨v6, σ6, H6, S6, r6, q6⟩ := q; exact close S6 fun s7 J7 => ⟨v6, _, H6, J7, r6, q6⟩
    exact walk hh wish
  · cases fl with
    | next => obtain ⟨σ6, H6, J6, q6⟩ := q; exact wpAny_execs_nil ⟨σ6, H6, J6.ofTry OK, q6⟩
    | brk => obtain ⟨σ6, H6, J6, q6⟩ := q; exact ⟨σ6, H6, J6.ofTry OK, q6⟩
    | cont => obtain ⟨σ6, H6, J6, q6⟩ := q; exact ⟨σ6, H6, J6.ofTry OK, q6⟩
    | ret u => obtain ⟨v6, σ6, H6, J6, r6, q6⟩ := q; exact ⟨v6, σ6, H6, J6.ofTry OK, r6, q6⟩
end
end LA
namespace LA
open PySem PySem.Spec PyProof.Rows L2
/-! ### exceptions with fields -/
/-- __init__(self, y): self.f = y -/
def spIni1 (K : PySem.W.Frag) (f : Str) : Sp := fun vs H Q _ => ∃ (a C : Addr) (y : V), vs = [.ref a, y] ∧ OexC K C ∧ PySem.W.findIn K (.ref C) f = some none ∧ H a = some (exo a C none) ∧
  ∀ dx, H dx = none → dx ≠ a → Q .non (upd (upd H dx (exd dx [(f, y)])) a (exo a C (some dx)))
/-- __init__(self, y, z): self.f = y; self.g = z -/
def spIni2 (K : PySem.W.Frag) (f g : Str) : Sp := fun vs H Q _ => ∃ (a C : Addr) (y z : V), vs = [.ref a, y, z] ∧ OexC K C ∧ PySem.W.findIn K (.ref C) f = some none ∧ PySem.W.findIn K (.ref C) g = some none ∧ H a = some (exo a C none) ∧
  ∀ dx, H dx = none → dx ≠ a → Q .non (upd (upd (upd H dx (exd dx [(f, y)])) a (exo a C (some dx))) dx (exd dx [(g, z), (f, y)]))
section
variable {P : Program} {w : World} {K : PySem.W.Frag} {mg : Str → Option Value} {base : Heap} {qual : Str} {st : Stmt} {fI : Addr} {fd : FuncData}
theorem vis_of {N ps : List Str} {sc : Scope} (S : FnScope N ps sc) {x : Str} (h : x ∈ ps) : Vis sc x := (S.par x h).elim .inl fun z => .inr (.inl z)
theorem ok_ini1 {f pn : Str} {q1 q2 q3 q4 : Pos} (F : Fun K "__init__" qual st fI fd) (S : FnScope ["self", pn] ["self", pn] (defScope st)) (hb : defBody st = [.Assign [.Attribute (.Name "self" q1) f q2] (.Name pn q3) q4])
    (h1 : (pn == ("__debug__" : Str)) = false) (h2 : (pn == ("__classdict__" : Str)) = false) : FnOk P w K mg base CX0 1 fI fd ["self", pn] (spIni1 K f) := by
  refine F.ok S (fun vs H Q E h => ?_) (fun cdv A outer s H vs Q E hr h => ?_)
  · obtain ⟨a, C, y, rfl, _⟩ := h
    rfl
  · obtain ⟨a, C, y, rfl, T, hno, ha, k⟩ := h
    rw [hb]
    refine ⟨_, pss_one (ps_ost (pv 0 (hv := vis_of S (List.mem_cons_self ..))) (pv 1 (hN := rfl) (hv := vis_of S (List.mem_cons_of_mem _ (List.mem_cons_self ..))) (hd := h1) (hcd := h2))), ?_⟩
    exact ⟨y, rfl, .ref a, rfl, a, C, rfl, T, hno, .inl ⟨ha, fun dx n ne => k dx n ne⟩⟩
theorem ok_ini2 {f g pn pm : Str} {q1 q2 q3 q4 r1 r2 r3 r4 : Pos} (F : Fun K "__init__" qual st fI fd) (S : FnScope ["self", pn, pm] ["self", pn, pm] (defScope st))
    (hb : defBody st = [.Assign [.Attribute (.Name "self" q1) f q2] (.Name pn q3) q4, .Assign [.Attribute (.Name "self" r1) g r2] (.Name pm r3) r4])
    (h1 : (pn == ("__debug__" : Str)) = false) (h2 : (pn == ("__classdict__" : Str)) = false) (h3 : (pm == ("__debug__" : Str)) = false) (h4 : (pm == ("__classdict__" : Str)) = false) : FnOk P w K mg base CX0 1 fI fd ["self", pn, pm] (spIni2 K f g) := by
  refine F.ok S (fun vs H Q E h => ?_) (fun cdv A outer s H vs Q E hr h => ?_)
  · obtain ⟨a, C, y, z, rfl, _⟩ := h
    rfl
  · obtain ⟨a, C, y, z, rfl, T, hno, hno2, ha, k⟩ := h
    rw [hb]
    have m1 : pn ∈ (["self", pn, pm] : List Str) := List.mem_cons_of_mem _ (List.mem_cons_self ..)
    have m2 : pm ∈ (["self", pn, pm] : List Str) := List.mem_cons_of_mem _ (List.mem_cons_of_mem _ (List.mem_cons_self ..))
    refine ⟨_, pss_cons (ps_ost (pv 0 (hv := vis_of S (List.mem_cons_self ..))) (pv 1 (hN := rfl) (hv := vis_of S m1) (hd := h1) (hcd := h2)))
      (pss_one (ps_ost (pv 0 (hv := vis_of S (List.mem_cons_self ..))) (pv 2 (hN := rfl) (hv := vis_of S m2) (hd := h3) (hcd := h4)))), ?_⟩
    refine ⟨y, rfl, .ref a, rfl, a, C, rfl, T, hno, .inl ⟨ha, fun dx n ne => ?_⟩⟩
    exact ⟨z, rfl, .ref a, rfl, a, C, rfl, T, hno2, .inr ⟨dx, [(f, y)], upd_same, by rw [upd_ne ne]; exact upd_same, (by show 1 ≤ 900; decide), k dx n ne⟩⟩
end
section
variable {X : Cx} {W : WX} {p : HD} {ρ : Rho} {c c1 c2 : PC} {e e2 : Expr} {pos pos2 xp : Pos} {d d2 : D} {n1 n2 : Bool} {x f g pn pm : Str} {C fI : Addr} {fd : FuncData} {k : Nat}
/-- the heap when the exception has left, by what it has in sight -/
theorem fin_ex {H1 G : Hp} {a dx : Addr} {fs : List (Str × V)} (na : H1 a = none) (nd : H1 dx = none) (hG : ∀ b, b ≠ a → b ≠ dx → G b = H1 b) (hp : PoolAt p H1 c) : Ext p H1 (upd (L2.del G a) dx (.xd fs)) ∧ PoolAt p (upd (L2.del G a) dx (.xd fs)) c ∧ hide p (upd (L2.del G a) dx (.xd fs)) dx = some (.xd fs) := by
  have at' : ∀ b, b ≠ a → b ≠ dx → upd (L2.del G a) dx (.xd fs) b = H1 b := fun b h1 h2 => by
    rw [upd_ne h2, del_ne h1, hG b h1 h2]
  have e : Ext p H1 (upd (L2.del G a) dx (.xd fs)) := fun b o _ h => by
    rw [at' b (ne_of_none h na) (ne_of_none h nd)]
    exact h
  refine ⟨e, ⟨fun b z => ?_, fun b z => ?_⟩, ?_⟩
  · have q := hp.1 b z
    rw [at' b (ne_of_none q na) (ne_of_none q nd)]
    exact q
  · obtain ⟨o, q⟩ := hp.2 b z
    exact ⟨o, by rw [at' b (ne_of_none q na) (ne_of_none q nd)]; exact q⟩
  · rw [hide_ne, upd_same]
    rintro (z | z)
    · rw [hp.1 dx z] at nd
      cases nd
    · obtain ⟨o, q⟩ := hp.2 dx z
      rw [q] at nd
      cases nd
theorem rs_raise1 (hc : X.calm = true) (tk : Takes X W) (T : OexC X.K C) (hno : PySem.W.findIn X.K (.ref C) f = some none) (iC : PySem.W.findIn X.K (.ref C) "__init__" = some (some (.ref fI))) (tI : PySem.W.typeIn X.K (.ref fI) = some (.type "function"))
    (F1 : FnOk X.prog X.w X.K X.mg X.base CX0 k fI fd ["self", pn] (spIni1 X.K f)) (hr : Room (k + 1) X.A) (hb : Binds X.K fd ["self", pn] []) (hm : X.mg x = some (.ref C)) (he : RE X W p ρ c e (.val d n1 c1)) (hg : Gl X x := by rfl)
    (hdb : (x == ("__debug__" : Str)) = false := by decide) (hs : starEach (e :: []) X.env = (false, eval e X.env) :: starEach [] X.env := by rfl) (hpl : (backTo pos (starEach [] X.env)).any (·.1) = false := by rfl) :
    RS X W p ρ c (.Raise (some (.Call (.Name x xp) [e] [] pos)) none pos2) (.ex C [(f, d)] c1) :=
  ps_imp (ps_raise hc tk (pmk_oex T iC tI F1 hr hb .nil pass0 hg hm (ra_cons (W := W) he (ra_nil (W := W)) hs) hdb hs hpl)) fun De σ H h => ⟨h.1, fun vs H1 e1 p1 dvs => by
    cases dvs with
    | @cons y _ _ _ dy r =>
      cases r
      refine ⟨by show 1 ≤ 1000; decide, fun a na => ⟨a, C, y, rfl, T, hno, upd_same, fun dx n ne => ⟨rfl, dx, [(f, y)], upd_same, by rw [upd_ne ne]; exact upd_same, ?_, ?_⟩⟩⟩
      · rw [upd_ne ne] at n
        exact n
      · have nd : H1 dx = none := by
          rw [upd_ne ne] at n
          exact n
        obtain ⟨q1, q2, q3⟩ := fin_ex (p := p) (fs := [(f, y)]) na nd (G := upd (upd (upd H1 a (exo a C none)) dx (exd dx [(f, y)])) a (exo a C (some dx))) (fun b h1 h2 => by rw [upd_ne h1, upd_ne h2, upd_ne h1]) p1
        exact h.2 ρ dx [(f, y)] σ _ (e1.trans q1) (h.1.mono (e1.trans q1) q2) rfl q3 (.cons (dy.mono q1) .nil)⟩
theorem rs_raise2 (hc : X.calm = true) (tk : Takes X W) (T : OexC X.K C) (hno : PySem.W.findIn X.K (.ref C) f = some none) (hno2 : PySem.W.findIn X.K (.ref C) g = some none) (iC : PySem.W.findIn X.K (.ref C) "__init__" = some (some (.ref fI))) (tI : PySem.W.typeIn X.K (.ref fI) = some (.type "function"))
    (F1 : FnOk X.prog X.w X.K X.mg X.base CX0 k fI fd ["self", pn, pm] (spIni2 X.K f g)) (hr : Room (k + 1) X.A) (hb : Binds X.K fd ["self", pn, pm] []) (hm : X.mg x = some (.ref C)) (he : RE X W p ρ c e (.val d n1 c1)) (he2 : RE X W p ρ c1 e2 (.val d2 n2 c2)) (hg : Gl X x := by rfl)
    (hdb : (x == ("__debug__" : Str)) = false := by decide) (hs : starEach (e :: [e2]) X.env = (false, eval e X.env) :: starEach [e2] X.env := by rfl) (hs2 : starEach (e2 :: []) X.env = (false, eval e2 X.env) :: starEach [] X.env := by rfl) (hpl : (backTo pos (starEach [e2] X.env)).any (·.1) = false := by rfl) :
    RS X W p ρ c (.Raise (some (.Call (.Name x xp) [e, e2] [] pos)) none pos2) (.ex C [(g, d2), (f, d)] c2) :=
  ps_imp (ps_raise hc tk (pmk_oex T iC tI F1 hr hb .nil pass0 hg hm (ra_cons (W := W) he (ra_cons (W := W) he2 (ra_nil (W := W)) hs2) hs) hdb hs hpl)) fun De σ H h => ⟨h.1, fun vs H1 e1 p1 dvs => by
    cases dvs with
    | @cons y _ _ _ dy r =>
      cases r with
      | @cons z _ _ _ dz r =>
        cases r
        refine ⟨by show 2 ≤ 1000; decide, fun a na => ⟨a, C, y, z, rfl, T, hno, hno2, upd_same, fun dx n ne => ?_⟩⟩
        have nd : H1 dx = none := by
          rw [upd_ne ne] at n
          exact n
        refine ⟨rfl, dx, [(g, z), (f, y)], by rw [upd_ne (Ne.symm ne)]; exact upd_same, upd_same, nd, ?_⟩
        obtain ⟨q1, q2, q3⟩ := fin_ex (p := p) (fs := [(g, z), (f, y)]) na nd (G := upd (upd (upd (upd H1 a (exo a C none)) dx (exd dx [(f, y)])) a (exo a C (some dx))) dx (exd dx [(g, z), (f, y)])) (fun b h1 h2 => by rw [upd_ne h2, upd_ne h1, upd_ne h2, upd_ne h1]) p1
        exact h.2 ρ dx _ σ _ (e1.trans q1) (h.1.mono (e1.trans q1) q2) rfl q3 (.cons (dz.mono q1) (.cons (dy.mono q1) .nil))⟩
end
/-! ### the field of a caught exception -/
theorem re_xf {X : Cx} {a C dx : Addr} {oe : Obj} {cls : Value} {pn : List (Addr × Obj)} {e : Expr} {pos : Pos} {n : Str} {p : HD} {ρ : Rho} {c c1 : PC} {fs : List (Str × D)} {d : D} {nw : Bool} {W : WX} (T : XfC X.K C) (hno : PySem.W.findIn X.K (.ref C) n = some none) (hz : Zc cls (some dx) oe) (hf : ∃ vs, oe.data = .fields vs) (hc : cls = .ref C)
    (he : RE (X.suite a ((a, oe) :: pn)) W p ρ c e (.val (.exn a dx fs) nw c1)) (hl : fs.lookup n = some d) (hb : attributeBase e n X.env (eval e X.env) = eval e X.env := by rfl) : RE (X.suite a ((a, oe) :: pn)) W p ρ c (.Attribute e n pos) (.val d false c1) :=
  pe_imp (pe_xf T hno hz hf he hb) fun σ H Q ⟨s, k⟩ => ⟨s, fun v H1 e1 p1 dv _ => by
    cases dv with
    | exn hx hfv =>
      obtain ⟨y, h1, h2⟩ := hfv.get hl
      exact ⟨rfl, hc, dx, _, y, rfl, (hide_some hx).1, h1, k y H1 e1 p1 h2 fun q => nomatch q⟩⟩
end LA
namespace LA
open PySem PySem.Spec PyProof.Rows L2
/-! ### for over an iterator of data -/
section
variable {X : Cx} {W : WX} {p : HD} {ρ : Rho} {c : PC} {tg it : Expr} {body : List Stmt} {pos : Pos} {xs : List D} {g : TG} {vs : List Nat}
/-- n turns go on, then the end or a turn that returns -/
theorem rs_for (n : Nat) (ρs ρt : Nat → Rho) (cs : Nat → PC) (o : SO) (hp : PassesOwn (model X.prog X.w) X.A X.env X.xe) (hc : X.calm = true) (h0 : ρs 0 = ρ) (hi : RI X W p ρ c tg it xs (cs 0)) (hg : PG X tg g)
    (htg : ∀ i d, xs[i]? = some d → i ≤ n → TgOk X.K g vs d (ρs i) (ρt i))
    (hb : ∀ i d, xs[i]? = some d → i < n → RSs X W p (ρt i) (cs i) body (.nx (ρs (i + 1)) (cs (i + 1))))
    (hend : (n = xs.length ∧ o = .nx (ρs n) (cs n)) ∨ ∃ d dd nw cc, xs[n]? = some d ∧ o = .rt dd nw cc ∧ RSs X W p (ρt n) (cs n) body o)
    (hs : ∀ x, foldedSetIterable it X.env x = pure x := by intro _; rfl) : RS X W p ρ c (.For tg it body [] pos) o := by
  subst h0
  have hn : n ≤ xs.length := by
    rcases hend with ⟨h, _⟩ | ⟨d, _, _, _, h, _⟩
    · omega
    · have := (List.getElem?_eq_some_iff.mp h).1
      omega
  have PU : PSs X body (fun De σ H => ∃ (i : Nat) (so : SO), RSs X W p (ρt i) (cs i) body so ∧ tSt X.K W p (ρt i) (cs i) so De σ H) := ⟨fun pins s σ H De I ⟨i, so, h1, h2⟩ => h1.run pins s σ H De I h2⟩
  refine ps_imp (ps_for hp hc hi hg PU hs) fun De σ H h => ?_
  refine ⟨st_sr h, fun J H1 e1 p1 yl => ?_⟩
  refine ⟨fun i m σ2 H2 => m = xs.length - i ∧ i ≤ n ∧ Ext p H1 H2 ∧ SR X.K p H2 σ2 (ρs i) (cs i), ⟨xs.length, by simp, Nat.zero_le _, Ext.refl _ _, (st_sr h).mono e1 p1⟩, ?_⟩
  rintro i m σ2 H2 ⟨rfl, hi', e2, s2⟩
  obtain ⟨hstop, hgo⟩ := yl p (cs i) H2 rfl e2.hide s2.pl
  by_cases hlt : i < n
  · have hd : xs[i]? = some (xs[i]'(Nat.lt_of_lt_of_le hlt hn)) := List.getElem?_eq_getElem _
    obtain ⟨g1, g2⟩ := hgo i _ hd
    refine .inr ⟨g1, fun σ' H' => Ext p H1 H' ∧ SR X.K p H' σ' (ρs (i + 1)) (cs (i + 1)), fun σ' H' ⟨a1, a2⟩ => ⟨xs.length - (i + 1), by omega, rfl, hlt, a1, a2⟩, fun x H3 hy => ?_⟩
    obtain ⟨e3, p3, dx⟩ := g2 x H3 hy
    refine (htg i _ hd hi').run p (cs i) x _ H3 _ dx (s2.mono e3 p3) p3 fun σ3 s3 _ => ⟨i, _, hb i _ hd hlt, s3, fun σ4 H4 e4 s4 => ⟨(e2.trans e3).trans e4, s4⟩⟩
  · have e : i = n := by omega
    subst e
    rcases hend with ⟨h1, h2⟩ | ⟨d, dd, nw, cc, h1, h2, h3⟩
    · subst h2
      rw [← h1] at hstop
      exact .inl ⟨hstop, h.2 σ2 H2 (e1.trans e2) s2⟩
    · subst h2
      obtain ⟨g1, g2⟩ := hgo i _ h1
      refine .inr ⟨g1, fun _ _ => False, fun _ _ z => z.elim, fun x H3 hy => ?_⟩
      obtain ⟨e3, p3, dx⟩ := g2 x H3 hy
      refine (htg i _ h1 hi').run p (cs i) x _ H3 _ dx (s2.mono e3 p3) p3 fun σ3 s3 _ => ⟨i, _, h3, s3, fun v H4 e4 p4 dv hn' => ?_⟩
      have e04 : Ext p H H4 := e1.trans (e2.trans (e3.trans e4))
      exact h.2 v H4 e04 p4 dv fun q => (hn' q).back (e1.trans (e2.trans e3))
theorem rs_for_all (ρs ρt : Nat → Rho) (cs : Nat → PC) (hp : PassesOwn (model X.prog X.w) X.A X.env X.xe) (hc : X.calm = true) (h0 : ρs 0 = ρ) (hi : RI X W p ρ c tg it xs (cs 0)) (hg : PG X tg g)
    (htg : ∀ i d, xs[i]? = some d → TgOk X.K g vs d (ρs i) (ρt i))
    (hb : ∀ i d, xs[i]? = some d → RSs X W p (ρt i) (cs i) body (.nx (ρs (i + 1)) (cs (i + 1))))
    (hs : ∀ x, foldedSetIterable it X.env x = pure x := by intro _; rfl) : RS X W p ρ c (.For tg it body [] pos) (.nx (ρs xs.length) (cs xs.length)) :=
  rs_for xs.length ρs ρt cs _ hp hc h0 hi hg (fun i d h _ => htg i d h) (fun i d h _ => hb i d h) (.inl ⟨rfl, rfl⟩) hs
end
/-! ### try -/
inductive Picks (K : PySem.W.Frag) (c : Value) : List Cl → Cl → Prop
  | here {l : Cl} {r : List Cl} : PySem.W.exmOne K c l.c = some true → Picks K c (l :: r) l
  | there {l m : Cl} {r : List Cl} : PySem.W.exmOne K c l.c = some false → Picks K c r m → Picks K c (l :: r) m
theorem wCl_of {K : PySem.W.Frag} {Wo : WX} {De : Ends} {cls : Value} {d : Option Addr} {σ : L2.St} {H : Hp} {m : Cl} : ∀ {l : List Cl}, Picks K cls l m → (∀ a, H a = none → m.ts a cls d (Ends.behind De m.i) (inSlot m.i (.ref a) σ) H) → wCl K Wo De l cls d σ H
  | _, .here h, k => ⟨true, h, (fun _ => k), fun z => nomatch z⟩
  | _, .there h r, k => ⟨false, h, (fun z => nomatch z), fun _ => wCl_of r k⟩
def blank (n : Nat) : Rho := List.replicate n none
theorem SR.blank {K : PySem.W.Frag} {p : HD} {H : Hp} {σ : L2.St} {ρ : Rho} {c : PC} (s : SR K p H σ ρ c) {n : Nat} (hn : ρ.length = n) : SR K p H σ (LA.blank n) c :=
  ⟨by unfold LA.blank; rw [List.length_replicate, ← hn]; exact s.len, (fun i d h => by
    unfold LA.blank at h
    rw [List.getElem?_replicate] at h
    split at h
    · cases h
    · cases h), s.pl⟩
section
variable {X : Cx} {W : WX} {p : HD} {ρ : Rho} {c c1 c2 : PC} {body : List Stmt} {h0 : ExceptHandler} {hs : List ExceptHandler} {l : List Cl} {pos : Pos} {o : SO} {d : D} {nw : Bool} {C : Addr} {fs : List (Str × D)}
/-- what a suite with the exception in slot i is read by -/
def tsD (K : PySem.W.Frag) (W : WX) (p : HD) (n : Nat) (C : Addr) (fs : List (Str × D)) (c1 : PC) (i : Option Nat) (o : SO) : Addr → Value → Option Addr → TS := fun a cls dd De σ H =>
  cls = .ref C ∧ ∃ dx, dd = some dx ∧ tSt K W p (match i with | none => blank n | some i => (blank n).set i (some (.exn a dx fs))) c1 o De σ H
theorem rs_try (hst : X.stack = X.env :: X.outer) (hfr : X.env.frame = some X.env.locals) (hN : X.N.Nodup) (tk : Takes X W)
    (hb : ∀ (W' : WX) (pn : List (Addr × Obj)) (xe : Value → Shared → Prop), Takes (X.tr pn xe) W' → PassesOwn (model X.prog X.w) X.A X.env xe → RSs (X.tr pn xe) W' p ρ c body (.rt d nw c1))
    (hh : ClsOk X (h0 :: hs) l) : RS X W p ρ c (.Try body (h0 :: hs) [] [] pos) (.rt d nw c1) :=
  ps_imp (ps_tryCl (tb := fun W' => tSt X.K W' p ρ c (.rt d nw c1)) hst hfr hN tk hb hh) fun De σ H h => h
theorem rs_tryX {i : Nat} (hst : X.stack = X.env :: X.outer) (hfr : X.env.frame = some X.env.locals) (hN : X.N.Nodup) (tk : Takes X W)
    (hb : ∀ (W' : WX) (pn : List (Addr × Obj)) (xe : Value → Shared → Prop), Takes (X.tr pn xe) W' → PassesOwn (model X.prog X.w) X.A X.env xe → RSs (X.tr pn xe) W' p ρ c body (.ex C fs c1))
    (hh : ClsOk X (h0 :: hs) l) {cv : Value} (pk : Picks X.K (.ref C) l ⟨cv, some i, tsD X.K W p ρ.length C fs c1 (some i) (.rt d nw c2)⟩) : RS X W p ρ c (.Try body (h0 :: hs) [] [] pos) (.rt d nw c2) :=
  ps_imp (ps_tryCl (tb := fun W' => tSt X.K W' p ρ c (.ex C fs c1)) hst hfr hN tk hb hh) fun De σ H h => ⟨h.1, fun ρ' dx fv σ1 H1 e1 s1 hl hx hf => wCl_of pk fun a na =>
    ⟨rfl, dx, rfl, (s1.blank hl).set i (.exn hx hf), fun v H2 e2 p2 dv hn => h.2 v H2 (e1.trans e2) p2 dv fun q => (hn q).back e1⟩⟩
/-- the suites of the clauses: one that is never come to -/
theorem cl_no {x n : Str} {cv : Value} {i : Nat} {b0 : Stmt} {su : List Stmt} {np hp : Pos} (nm : Names X x cv) (hi : X.N[i]? = some n) (hl : X.env.kindOf n = some .local) (r : ClsOk X hs l) :
    ClsOk X (.ExceptHandler (some (.Name x np)) (some n) (b0 :: su) hp :: hs) (⟨cv, some i, fun _ _ _ => tNever⟩ :: l) := .named nm hi hl (fun _ _ _ _ _ _ _ => pss_never) r
theorem cl_no0 {x : Str} {cv : Value} {b0 : Stmt} {su : List Stmt} {np hp : Pos} (nm : Names X x cv) (r : ClsOk X hs l) :
    ClsOk X (.ExceptHandler (some (.Name x np)) none (b0 :: su) hp :: hs) (⟨cv, none, fun _ _ _ => tNever⟩ :: l) := .bare nm (fun _ _ _ _ _ _ _ => pss_never) r
theorem cl_yes {x n : Str} {cv : Value} {i m : Nat} {b0 : Stmt} {su : List Stmt} {np hp : Pos} (nm : Names X x cv) (hi : X.N[i]? = some n) (hl : X.env.kindOf n = some .local)
    (run : ∀ (a dx : Addr) (oe : Obj) (pn : List (Addr × Obj)), Zc (.ref C) (some dx) oe → (∃ vs, oe.data = .fields vs) → RSs (X.suite a ((a, oe) :: pn)) W p ((blank m).set i (some (.exn a dx fs))) c1 (b0 :: su) o) (r : ClsOk X hs l) :
    ClsOk X (.ExceptHandler (some (.Name x np)) (some n) (b0 :: su) hp :: hs) (⟨cv, some i, tsD X.K W p m C fs c1 (some i) o⟩ :: l) :=
  .named nm hi hl (fun a oe cls dd pn z f => ⟨fun pins s σ H De I ⟨h1, dx, h2, h3⟩ => by
    subst h1 h2
    exact (run a dx oe pn z f).run pins s σ H De I h3⟩) r
end
/-! ### the pool comes and goes -/
section
variable {K : PySem.W.Frag} {p q : HD} {H H' : Hp} {big : Bool}
mutual
theorem DV.out (e : Sub (hide p H) (hide q H')) : ∀ {v : V} {d : D}, DV K p H v d → okD big d = true → DV K q H' v d
  | _, _, .non, _ => .non
  | _, _, .bl b, _ => .bl b
  | _, _, .int i, _ => .int i
  | _, _, .str x, _ => .str x
  | _, _, .lst b h r, o => by
    unfold okD at o
    exact .lst ⟨b.1, fun z => e _ _ (b.2 z)⟩ (e.sqL h) (DVs.out e r (Bool.and_eq_true_iff.mp o).2)
  | _, _, .tup h r, o => by
    unfold okD at o
    exact .tup (e.sqT h) (DVs.out e r o)
  | _, _, .dct h r, o => by
    unfold okD at o
    exact .dct (e.rd h) (DVk.out e r o)
  | _, _, .pool _, o => nomatch o
  | _, _, .ty _, o => nomatch o
  | _, _, .cls _, o => nomatch o
  | _, _, .exn _ _, o => nomatch o
theorem DVs.out (e : Sub (hide p H) (hide q H')) : ∀ {v : List V} {d : List D}, DVs K p H v d → okDs big d = true → DVs K q H' v d
  | _, _, .nil, _ => .nil
  | _, _, .cons h r, o => by
    unfold okDs at o
    exact .cons (DV.out e h (Bool.and_eq_true_iff.mp o).1) (DVs.out e r (Bool.and_eq_true_iff.mp o).2)
theorem DVk.out (e : Sub (hide p H) (hide q H')) : ∀ {v : List (Key × V)} {d : List (Key × D)}, DVk K p H v d → okDk big d = true → DVk K q H' v d
  | _, _, .nil, _ => .nil
  | _, _, .cons h r, o => by
    unfold okDk at o
    exact .cons (DV.out e h (Bool.and_eq_true_iff.mp o).1) (DVk.out e r (Bool.and_eq_true_iff.mp o).2)
end
end
section
variable {X : Cx} {W : WX} {z : List Addr} {ρ ρ' : Rho} {c c1 c2 c3 c4 : PC} {e : Expr} {rest : List Stmt} {pos pos' : Pos} {g : Bool}
theorem pool_vals {K : PySem.W.Frag} {p : HD} {H : Hp} {vs : List V} {c : PC} (h : DVs K p H vs [.int c.cell, .int c.cnt, .bl c.big, .int c.k]) : vs = c.vals := by
  cases h with
  | cons h1 h =>
    cases h with
    | cons h2 h =>
      cases h with
      | cons h3 h =>
        cases h with
        | cons h4 h =>
          cases h
          cases h1
          cases h2
          cases h3
          cases h4
          rfl
/-- x = a new list of a pool's shape; then the rest with it out of sight -/
theorem rss_pool (i : Nat) {x : Str} (hN : X.N.Nodup) (h : RE X W ⟨none, z⟩ ρ c e (.val (.lst ⟨true, true⟩ [.int c1.cell, .int c1.cnt, .bl c1.big, .int c1.k]) true c4)) (hi : X.N[i]? = some x := by rfl) (hx : Loc X.env.scope x := by first | exact Or.inl rfl | exact Or.inr rfl) (hs : swapsWith e (some (.Name x pos')) pos.line X.env = pure false := by rfl)
    (hf : X.fn x = true ∨ X.env.scope.names.lookup x = some .local := by first | exact .inl rfl | exact .inr rfl)
    (hr : ∀ a, RSs X W ⟨some a, z⟩ (ρ.set i (some .pool)) c1 rest (.nx ρ' c2)) (hw0 : ∀ (j : Nat) (d : D), ρ[j]? = some (some d) → okD false d = true) (hw : ∀ (j : Nat) (d : D), ρ'[j]? = some (some d) → okD false d = true) : RSs X W ⟨none, z⟩ ρ c (.Assign [.Name x pos'] e pos :: rest) (.nx ρ' c3) := by
  have PU : PSs X rest (fun De σ H => ∃ a, tSt X.K W ⟨some a, z⟩ (ρ.set i (some .pool)) c1 (.nx ρ' c2) De σ H) := ⟨fun pins s σ H De I ⟨a, h2⟩ => (hr a).run pins s σ H De I h2⟩
  refine pss_imp (pss_cons (ps_set hN hi hx h hs hf) PU) fun De σ H h => ⟨h.1, fun v H1 e1 p1 dv hn => ?_⟩
  have nw := hn rfl
  cases dv with
  | @lst a vs _ _ hb hq r =>
    have ev := pool_vals r
    subst ev
    obtain ⟨na, _⟩ := nw a rfl
    have ha : H1 a = some (.lst c1.vals) := (hide_some (hb.2 rfl)).1
    have e1' : Ext ⟨some a, z⟩ H H1 := fun b o _ q => e1 b o (by intro y; cases y) q
    have p1' : PoolAt ⟨some a, z⟩ H1 c1 := ⟨fun b y => by
      cases y
      exact ha, p1.2⟩
    have sb : Sub (hide ⟨none, z⟩ H) (hide ⟨some a, z⟩ H) := fun b o q => by
      obtain ⟨q1, q2⟩ := hide_some q
      rw [hide_ne (show ¬ HD.hid ⟨some a, z⟩ b from fun y => y.elim (fun m => by cases m; rw [na] at q1; cases q1) fun m => q2 (.inr m))]
      exact q1
    refine ⟨a, ?_, fun σ2 H2 e2 s2 => ?_⟩
    · refine SR.set (c := c1) (ρ := ρ) ⟨h.1.len, fun j d q => ?_, p1'⟩ i (.pool rfl)
      obtain ⟨x, q1, q2⟩ := h.1.at' j d q
      exact ⟨x, q1, ((q2.out sb (hw0 j d q)).mono e1')⟩
    · have eo : Ext ⟨none, z⟩ H H2 := fun b o _ q => e2 b o (fun y => by cases y; rw [na] at q; cases q) (e1 b o (by intro y; cases y) q)
      refine h.2 σ2 H2 eo ⟨s2.len, fun j d q => ?_, ⟨(fun b y => by cases y), s2.pl.2⟩⟩
      obtain ⟨x, q1, q2⟩ := s2.at' j d q
      refine ⟨x, q1, q2.out (fun b o y => ?_) (hw j d q)⟩
      obtain ⟨y1, y2⟩ := hide_some y
      rw [hide_ne (show ¬ HD.hid ⟨none, z⟩ b from fun m => m.elim (fun m => by cases m) fun m => y2 (.inr m))]
      exact y1
end
/-! ### what was told is changed behind the look at it -/
section
variable {X : Cx} {W : WX} {p : HD} {ρ : Rho} {c c1 c2 c3 : PC} {e t t2 : Expr} {A : List Stmt} {pos pos' pos2 pos3 pos4 pos5 pos6 pos7 pos8 : Pos} {d : D} {k : Bool} {iN : Nat}
/-- x = e; if t: ..; if t2: x.append(0) -/
theorem rss_found (i : Nat) {x : Str} (hN : X.N.Nodup) (h : RE X W p ρ c e (.val d true c1)) (ht : RT X W p (ρ.set i (some d)) c1 t (.val false c2)) (ht2 : RT X W p (ρ.set i (some d)) c2 t2 (.val k c3))
    (hl : k = true → ∃ g xs, d = .lst g xs ∧ g.t = true ∧ xs.length < 100000) (hi : X.N[i]? = some x := by rfl) (hx : Loc X.env.scope x := by first | exact Or.inl rfl | exact Or.inr rfl) (hv : Vis X.env.scope x := by first | exact Or.inl rfl | exact Or.inr (Or.inl rfl) | exact Or.inr (Or.inr rfl)) (hs : swapsWith e (some (.Name x pos')) pos.line X.env = pure false := by rfl)
    (hf : X.fn x = true ∨ X.env.scope.names.lookup x = some .local := by first | exact .inl rfl | exact .inr rfl) (hd : (x == ("__debug__" : Str)) = false := by decide) (hcd : (x == ("__classdict__" : Str)) = false := by decide) (hline : (pos4.endLine == pos5.line) = true := by rfl)
    (hsw : swapsWith (.Call (.Attribute (.Name x pos3) "append" pos4) [.Constant (.int 0) iN pos7] [] pos5) none pos6.line X.env = pure false := by rfl) (hlt : i < ρ.length := by exact Nat.le_of_ble_eq_true rfl)
    (hbase : attributeBase (.Name x pos3) "append" X.env (eval (.Name x pos3) X.env) = eval (.Name x pos3) X.env := by rfl)
    (hfew : ((backTo pos5 (starEach [.Constant (.int 0) iN pos7] X.env)).all (fun x => !x.1) && (backToKw pos5 (keywordEach [] X.env)).all (fun x => x.1.isSome)
      && decide (([.Constant (.int 0) iN pos7] : List Expr).length + ([] : List Keyword).length + (if ([] : List Keyword).isEmpty then 0 else 1) < 30)) = true := by rfl) :
    RSs X W p ρ c [.Assign [.Name x pos'] e pos, .If t A [] pos2, .If t2 [.Expr (.Call (.Attribute (.Name x pos3) "append" pos4) [.Constant (.int 0) iN pos7] [] pos5) pos6] [] pos8] (.nx (ρ.set i none) c3) := by
  have PA' := pe_bm (cpos := pos5) (apos := pos4) PySem.F.plainAttrs_list PySem.F.slot_list_append PySem.F.type_list_append mt_append (pe_var (pos := pos3) hi hv hd hcd) (pa_cons (pe_int (i := 0) (j := iN) (pos := pos7)) (pa_nil (X := X))) hbase hfew hline
  refine pss_imp (pss_cons (ps_set hN hi hx h hs hf) (pss_cons (ps_if ht pss_never pss_nil) (pss_one (ps_if ht2 (pss_one (ps_expr PA' hsw)) pss_nil)))) fun De σ H hh => ⟨hh.1, fun v H1 e1 p1 dv hn => ?_⟩
  have s1 := (hh.1.mono e1 p1).set i dv
  refine ⟨s1, fun H2 e2 p2 => iteF ⟨s1.mono e2 p2, fun H3 e3 p3 => ?_⟩⟩
  have s3 : SR X.K p H3 σ ρ c3 := hh.1.mono ((e1.trans e2).trans e3) p3
  have done : ∀ H4, H4 = H3 ∨ (∃ a o, H a = none ∧ p.pl ≠ some a ∧ H3 a = some o ∧ ∃ u, H4 = upd H3 a u) → De.nx (σ.set i (some v)) H4 := fun H4 q => by
    have eo : Ext p H H4 := by
      rcases q with rfl | ⟨a, o, na, _, _, u, rfl⟩
      · exact (e1.trans e2).trans e3
      · intro b o n y
        rw [upd_ne (fun z => by rw [z, na] at y; cases y)]
        exact ((e1.trans e2).trans e3) b o n y
    have po : PoolAt p H4 c3 := by
      rcases q with rfl | ⟨a, o, na, np, ho, u, rfl⟩
      · exact p3
      · refine ⟨fun b z => ?_, fun b z => ?_⟩
        · rw [upd_ne (fun y => np (by rw [← y]; exact z))]
          exact p3.1 b z
        · by_cases y : b = a
          · exact ⟨u, by rw [y]; exact upd_same⟩
          · obtain ⟨o2, q2⟩ := p3.2 b z
            exact ⟨o2, by rw [upd_ne y]; exact q2⟩
    refine hh.2 _ H4 eo ⟨by rw [List.length_set, List.length_set]; exact hh.1.len, fun j d' y => ?_, po⟩
    have ne : i ≠ j := fun z => by
      subst z
      rw [List.getElem?_set_self hlt] at y
      cases y
    rw [List.getElem?_set_ne ne] at y ⊢
    obtain ⟨w, y1, y2⟩ := hh.1.at' j d' y
    exact ⟨w, y1, y2.mono eo⟩
  cases k with
  | false => exact iteF (done H3 (.inl rfl))
  | true =>
    obtain ⟨g, xs, rfl, hg, hz⟩ := hl rfl
    cases dv with
    | @lst a vs _ _ hb hq r =>
      obtain ⟨na, np⟩ := hn rfl a rfl
      have ha : H1 a = some (.lst vs) := (hide_some (hb.2 hg)).1
      have ha3 : H3 a = some (.lst vs) := e3 a _ np (e2 a _ np ha)
      have hs' : (σ.set i (some (V.ref a)))[i]? = some (some (V.ref a)) := by
        rw [List.getElem?_set_self]
        rw [hh.1.len]
        exact hlt
      refine iteT ⟨.ref a, hs', Or.inl ⟨rfl, _, Or.inl (Or.inl ha3)⟩, a, vs, .int 0, rfl, rfl, ha3, ?_, done _ (.inr ⟨a, _, na, np, ha3, _, rfl⟩)⟩
      rw [r.length]
      exact sz_lt hz
end
end LA
namespace LA
open PySem PySem.Spec PyProof.Rows L2
section
variable {X : Cx} {W : WX} {p : HD} {ρ : Rho} {c c1 c2 : PC} {e : Expr} {pos xp jp sp : Pos} {d : D} {nw : Bool} {K : PySem.W.Frag} {x : Str}
/-! ### the pool read and written -/
def PC.ds (c : PC) : List D := [.int c.cell, .int c.cnt, .bl c.big, .int c.k]
theorem dvs_pool {H : Hp} (c : PC) : DVs K p H c.vals c.ds := .cons (.int _) (.cons (.int _) (.cons (.bl _) (.cons (.int _) .nil)))
theorem ov_ixP {j : Nat} (h : c.ds[j]? = some d) : OV K p (rIx K) .pool (.int (j : Nat)) d false c := fun v u H Q dv du hp k => by
  cases dv with
  | pool ha =>
    cases du
    obtain ⟨w, h1, h2⟩ := dvs_atI (dvs_pool (K := K) (p := p) (H := H) c) rfl h
    exact .inl ⟨_, c.vals, _, w, rfl, rfl, .inl (.inl (hp.1 _ ha)), h1, k w H (Ext.refl p H) hp h2 fun q => nomatch q⟩
theorem re_pool (i : Nat) (j : Nat) {n : Nat} (h : c.ds[j]? = some d) (hN : X.N[i]? = some x := by rfl) (hρ : ρ[i]? = some (some .pool) := by rfl) (hv : Vis X.env.scope x := by first | exact Or.inl rfl | exact Or.inr (Or.inl rfl) | exact Or.inr (Or.inr rfl))
    (hd : (x == ("__debug__" : Str)) = false := by decide) (hcd : (x == ("__classdict__" : Str)) = false := by decide) : RE X W p ρ c (.Subscript (.Name x xp) (.Constant (.int (j : Nat)) n jp) sp) (.val d false c) :=
  re_ix ix_seq (re_var i hN hρ hv hd hcd) re_int (ov_ixP h)
theorem rs_pool (i : Nat) (j : Nat) {n : Nat} {m : Int} (he : RE X W p ρ c e (.val (.int m) nw c1)) (hj : j < 4) (h2 : c1.vals.set j (.int m) = c2.vals) (hN : X.N[i]? = some x := by rfl) (hρ : ρ[i]? = some (some .pool) := by rfl) (hv : Vis X.env.scope x := by first | exact Or.inl rfl | exact Or.inr (Or.inl rfl) | exact Or.inr (Or.inr rfl))
    (hd : (x == ("__debug__" : Str)) = false := by decide) (hcd : (x == ("__classdict__" : Str)) = false := by decide)
    (hs : swapsWithSole [.Subscript (.Name x xp) (.Constant (.int (j : Nat)) n jp) sp] e pos.line X.env = pure false := by rfl) (hw : swappedStores [.Subscript (.Name x xp) (.Constant (.int (j : Nat)) n jp) sp] e X.env = pure none := by rfl)
    (h1 : (assignEach [.Subscript (.Name x xp) (.Constant (.int (j : Nat)) n jp) sp] X.env).map (·.2) = [assign (.Subscript (.Name x xp) (.Constant (.int (j : Nat)) n jp) sp) X.env] := by rfl)
    (ha : ∀ v, assign (.Subscript (.Name x xp) (.Constant (.int (j : Nat)) n jp) sp) X.env v = (do
      let ov ← holding [v] (eval (.Name x xp) X.env)
      let iv ← holding [v, ov] (eval (.Constant (.int (j : Nat)) n jp) X.env)
      standAt sp
      holding [v, ov, iv] (setItem ov iv v)
      release [v, ov, iv] []) := by intro _; rfl) :
    RS X W p ρ c (.Assign [.Subscript (.Name x xp) (.Constant (.int (j : Nat)) n jp) sp] e pos) (.nx ρ c2) :=
  ps_imp (ps_asg he (pg_sub (pe_var hN hv hd hcd) (pe_int (j := n) (pos := jp)) set_list ha) hs hw h1) fun De σ H h => ⟨h.1, fun v H1 e1 p1 dv _ => by
    cases dv
    have s1 := h.1.mono e1 p1
    obtain ⟨o, q1, q2⟩ := s1.at' i _ hρ
    cases q2 with
    | @pool a hp =>
      have ee : Ext p H1 (upd H1 a (.lst c2.vals)) := fun b u n y => by
        rw [upd_ne (fun z => n (by rw [z]; exact hp))]
        exact y
      refine ⟨_, q1, a, c1.vals, (j : Nat), j, rfl, rfl, p1.1 a hp, ?_, ?_⟩
      · unfold ixN
        have : j < c1.vals.length := hj
        simp [this]
      · rw [h2]
        refine h.2 σ _ (e1.trans ee) (s1.mono ee ⟨fun b z => ?_, fun b z => ?_⟩)
        · rw [hp] at z
          cases z
          exact upd_same
        · obtain ⟨o2, y⟩ := p1.2 b z
          by_cases hn : b = a
          · exact ⟨_, by rw [hn]; exact upd_same⟩
          · exact ⟨o2, by rw [upd_ne hn]; exact y⟩⟩
theorem re_old (h : RE X W p ρ c e (.val d nw c1)) : RE X W p ρ c e (.val d false c1) := pe_imp h fun σ H Q ⟨s, k⟩ => ⟨s, fun v H1 e1 p1 dv _ => k v H1 e1 p1 dv fun z => nomatch z⟩
/-! ### len of a list -/
theorem cv_lenL {g : G} {ds : List D} : CV K p (fun xs H Q => ∃ x n, xs = [x] ∧ LenV K x H n ∧ Q (.int n) H) [.lst g ds] (.int (ds.length : Nat)) true c := fun vs H Q dvs hp k => by
  cases dvs with
  | cons h r =>
    cases r
    cases h with
    | lst _ hq ha =>
      refine ⟨_, ds.length, rfl, .inl ⟨_, un_sqL hq, ha.length.symm⟩, k _ H (Ext.refl p H) hp (.int _) fun _ => New.sc (by intro a h; cases h)⟩
end
end LA
namespace LA
open PySem PySem.Spec PyProof.Rows L2
/-! ### texts by their signs -/
def tx (l : List Nat) : Str := ⟨l.toArray⟩
theorem tx_list (l : List Nat) : (tx l).cps.toList = l := by unfold tx; simp
theorem tx_len (l : List Nat) : (tx l).length = l.length := by
  show (tx l).cps.size = _
  unfold tx
  simp
theorem str_tx (s : Str) : ∃ l, s = tx l := ⟨s.cps.toList, by unfold tx; simp⟩
def chr1 (n : Nat) : Str := ⟨#[n]⟩
theorem chars_tx (l : List Nat) : chars (tx l) = l.map fun n => D.str (chr1 n) := by
  unfold chars
  rw [tx_list]
  rfl
theorem tx_app (a b : List Nat) : tx a ++ tx b = tx (a ++ b) := by
  show (⟨(tx a).cps ++ (tx b).cps⟩ : Str) = _
  unfold tx
  simp
theorem tx_inj {a b : List Nat} (h : tx a = tx b) : a = b := by rw [← tx_list a, ← tx_list b, h]
theorem join_nil : ∀ l : List Nat, Txt.join (Str.ofString "") (l.map chr1) = tx l := by
  intro l
  unfold Txt.join
  rw [StrLaws.glued_eq_join]
  have e0 : (Str.ofString "") = tx [] := by decide
  rw [e0]
  induction l with
  | nil => rfl
  | cons a r ih =>
    cases r with
    | nil => rfl
    | cons b r =>
      show chr1 a ++ tx [] ++ Str.join (tx []) ((b :: r).map chr1) = _
      rw [ih]
      show tx [a] ++ tx [] ++ tx (b :: r) = _
      rw [tx_app, tx_app]
      rfl
theorem sum_sgn : ∀ l : List Nat, ((l.map chr1).map (·.length)).sum = l.length
  | [] => rfl
  | a :: r => by
    have := sum_sgn r
    simp only [List.map_cons, List.sum_cons, List.length_cons] at this ⊢
    rw [this]
    show 1 + r.length = _
    omega
/-! ### collected lists -/
theorem coll_all (y : Nat → D) : ∀ n, coll (fun _ => true) y n = (List.range n).map y
  | 0 => rfl
  | n + 1 => by
    show coll (fun _ => true) y n ++ (if true then [y n] else []) = _
    rw [coll_all y n, List.range_succ, List.map_append]
    rfl
theorem coll_some (b : Nat → Bool) (y : Nat → D) : ∀ n, coll b y n = ((List.range n).filter b).map y
  | 0 => rfl
  | n + 1 => by
    show coll b y n ++ (if b n then [y n] else []) = _
    rw [coll_some b y n, List.range_succ, List.filter_append, List.map_append]
    cases h : b n <;> simp [h]
section
variable {X : Cx} {W : WX} {p : HD} {ρ : Rho} {c c1 c2 c3 : PC} {e a : Expr} {pos : Pos} {d : D} {nw : Bool} {K : PySem.W.Frag}
/-- text * count -/
theorem op_mulS : OpR X (binaryOp .Mult) (fun x y H Q => ∃ z n, x = .str z ∧ y = .int n ∧ MulOk z n ∧ Q (.str (Txt.mul z n)) H) := by
  intro pins s σ H x y v u Q I rx ry h
  obtain ⟨z, n, rfl, rfl, hok, q⟩ := h
  obtain ⟨t, rfl⟩ := rx
  obtain ⟨t', rfl⟩ := ry
  exact SB.mul hok fun t2 k => ⟨.str _, H, I.tok _, ⟨_, rfl⟩, q⟩
theorem ov_mulS {z : Str} {n : Int} (h : MulOk z n) : OV K p (fun x y H Q => ∃ z n, x = .str z ∧ y = .int n ∧ MulOk z n ∧ Q (.str (Txt.mul z n)) H) (.str z) (.int n) (.str (Txt.mul z n)) true c := fun v u H Q dv du hp k => by
  cases dv
  cases du
  exact ⟨z, n, rfl, rfl, h, k _ H (Ext.refl p H) hp (.str _) fun _ => New.sc (by intro a h; cases h)⟩
theorem re_neg {i : Int} (ha : RE X W p ρ c a (.val (.int i) nw c1)) : RE X W p ρ c (.UnaryOp .USub a pos) (.val (.int (-i)) true c1) :=
  pe_imp (pe_un un_neg ha) fun σ H Q ⟨s, k⟩ => ⟨s, fun v H1 e1 p1 dv _ => by
    cases dv
    exact ⟨i, rfl, k _ H1 e1 p1 (.int _) fun _ => New.sc (by intro a h; cases h)⟩⟩
end
/-! ### a list that is changed where it was made -/
section
variable {X : Cx} {W : WX} {p : HD} {ρ : Rho} {c c1 c2 c3 : PC} {e0 ev ei : Expr} {pos pos' pos2 pos3 sp : Pos} {d : D} {nw nw2 : Bool} {x : Str} {g : G} {xs : List D} {vs : List V} {so : SO} {rest : List Stmt}
theorem dvs_scal {K : PySem.W.Frag} {q q2 : HD} {H H2 : Hp} : ∀ {us : List V} {ds : List D}, DVs K q H us ds → (∀ d ∈ ds, ∃ v, scD d = some v) → DVs K q2 H2 us ds
  | _, _, .nil, _ => .nil
  | _, _, .cons (d := d) h r, hs => by
    obtain ⟨v, hv⟩ := hs d List.mem_cons_self
    refine .cons ?_ (dvs_scal r fun d m => hs d (List.mem_cons_of_mem _ m))
    cases h <;> first | (cases hv; done) | constructor
theorem DVs.set {K : PySem.W.Frag} {q : HD} {H : Hp} {v : V} {d : D} (h : DV K q H v d) : ∀ {us : List V} {ds : List D} {j : Nat}, DVs K q H us ds → DVs K q H (us.set j v) (ds.set j d)
  | _, _, _, .nil => .nil
  | _, _, 0, .cons _ r => .cons h r
  | _, _, j + 1, .cons h' r => .cons h' (DVs.set h (j := j) r)
/-- x = [scalars]; x[i] = v; the rest -/
theorem rss_mut (i : Nat) {j : Nat} (hN : X.N.Nodup) (h0 : RE X W p ρ c e0 (.val (.lst g xs) true c1)) (hg : g.t = true) (hsc : ∀ d ∈ xs, ∃ v, scD d = some v) (hv : ∀ a, RE X W (p.also a) (ρ.set i none) c1 ev (.val d nw c2)) (hx : ∀ a, RE X W (p.also a) (ρ.set i none) c2 ei (.val (.int (j : Nat)) nw2 c3))
    (hr : RSs X W p (ρ.set i (some (.lst g (xs.set j d)))) c3 rest so) (hj : j < xs.length) (hrt : ∃ dd n cc, so = .rt dd n cc) (hi : X.N[i]? = some x := by rfl) (hl : Loc X.env.scope x := by first | exact Or.inl rfl | exact Or.inr rfl) (hvis : Vis X.env.scope x := by first | exact Or.inl rfl | exact Or.inr (Or.inl rfl) | exact Or.inr (Or.inr rfl))
    (hs : swapsWith e0 (some (.Name x pos')) pos.line X.env = pure false := by rfl) (hlt : i < ρ.length := by exact Nat.le_of_ble_eq_true rfl)
    (hf : X.fn x = true ∨ X.env.scope.names.lookup x = some .local := by first | exact .inl rfl | exact .inr rfl) (hd : (x == ("__debug__" : Str)) = false := by decide) (hcd : (x == ("__classdict__" : Str)) = false := by decide)
    (hs2 : swapsWithSole [.Subscript (.Name x pos2) ei sp] ev pos3.line X.env = pure false := by rfl) (hw : swappedStores [.Subscript (.Name x pos2) ei sp] ev X.env = pure none := by rfl)
    (h1 : (assignEach [.Subscript (.Name x pos2) ei sp] X.env).map (·.2) = [assign (.Subscript (.Name x pos2) ei sp) X.env] := by rfl)
    (ha : ∀ v, assign (.Subscript (.Name x pos2) ei sp) X.env v = (do
      let ov ← holding [v] (eval (.Name x pos2) X.env)
      let iv ← holding [v, ov] (eval ei X.env)
      standAt sp
      holding [v, ov, iv] (setItem ov iv v)
      release [v, ov, iv] []) := by intro _; rfl) :
    RSs X W p ρ c (.Assign [.Name x pos'] e0 pos :: .Assign [.Subscript (.Name x pos2) ei sp] ev pos3 :: rest) so := by
  obtain ⟨dd, nn, cc, rfl⟩ := hrt
  have PV : PE X ev (fun σ H Q => ∃ a, tE X.K W (p.also a) (ρ.set i none) c1 (.val d nw c2) σ H Q) := ⟨fun pins s σ H Q I ⟨a, h⟩ => (hv a).run pins s σ H Q I h⟩
  have PI' : PE X ei (fun σ H Q => ∃ a, tE X.K W (p.also a) (ρ.set i none) c2 (.val (.int (j : Nat)) nw2 c3) σ H Q) := ⟨fun pins s σ H Q I ⟨a, h⟩ => (hx a).run pins s σ H Q I h⟩
  refine pss_imp (pss_cons (ps_set hN hi hl h0 hs hf) (pss_cons (ps_asg PV (pg_sub (pe_var hi hvis hd hcd) PI' set_list ha) hs2 hw h1) hr)) fun De σ H hh => ⟨hh.1, fun v H1 e1 p1 dv hn => ?_⟩
  cases dv with
  | @lst a us _ _ hb hq r =>
    obtain ⟨na, np⟩ := hn rfl a rfl
    have hA : H1 a = some (.lst us) := (hide_some (hb.2 hg)).1
    have hid : ¬ p.hid a := (hide_some (hb.2 hg)).2
    have pA : PoolAt (p.also a) H1 c1 := ⟨p1.1, fun b z => (List.mem_cons.mp z).elim (fun y => by rw [y]; exact ⟨_, hA⟩) fun y => p1.2 b y⟩
    have sl : (σ.set i (some (V.ref a)))[i]? = some (some (V.ref a)) := by
      rw [List.getElem?_set_self]
      rw [hh.1.len]
      exact hlt
    have sA : SR X.K (p.also a) H1 (σ.set i (some (.ref a))) (ρ.set i none) c1 := by
      refine ⟨by rw [List.length_set, List.length_set]; exact hh.1.len, fun k d' y => ?_, pA⟩
      have ne : i ≠ k := fun z => by
        subst z
        rw [List.getElem?_set_self hlt] at y
        cases y
      rw [List.getElem?_set_ne ne] at y ⊢
      obtain ⟨w, y1, y2⟩ := hh.1.at' k d' y
      exact ⟨w, y1, (y2.also na).mono (ext_also e1)⟩
    refine ⟨a, sA, fun w H2 e2 p2 dw _ => ⟨.ref a, sl, a, sA.mono e2 p2, fun iv H3 e3 p3 di _ => ?_⟩⟩
    cases di
    have e13 : Ext p H1 H3 := fun b o n y => e3 b o n (e2 b o n y)
    have hA3 : H3 a = some (.lst us) := e13 a _ np hA
    have e03 : Ext p H (upd H3 a (.lst (us.set j w))) := fun b o n y => by
      rw [upd_ne (fun z => by rw [z, na] at y; cases y)]
      exact e13 b o n (e1 b o n y)
    have sub : Sub (hide (p.also a) H3) (hide p (upd H3 a (.lst (us.set j w)))) := fun b o y => by
      obtain ⟨y1, y2⟩ := hide_some y
      rw [hide_ne (show ¬ p.hid b from fun z => y2 (z.elim .inl fun m => .inr (List.mem_cons_of_mem _ m))), upd_ne (fun z => y2 (.inr (by rw [z]; exact List.mem_cons_self)))]
      exact y1
    have p4 : PoolAt p (upd H3 a (.lst (us.set j w))) c3 := ⟨fun b z => by
      rw [upd_ne (fun y => np (by rw [← y]; exact z))]
      exact p3.1 b z, fun b z => by
      by_cases y : b = a
      · exact ⟨_, by rw [y]; exact upd_same⟩
      · obtain ⟨o2, y2⟩ := p3.2 b (List.mem_cons_of_mem _ z)
        exact ⟨o2, by rw [upd_ne y]; exact y2⟩⟩
    have hA4 : hide p (upd H3 a (.lst (us.set j w))) a = some (.lst (us.set j w)) := by
      rw [hide_ne hid, upd_same]
    refine ⟨a, us, (j : Nat), j, rfl, rfl, hA3, ?_, ?_⟩
    · unfold ixN
      have : j < us.length := by rw [r.length]; exact hj
      simp [this]
    · refine ⟨?_, fun v4 H4 e4 q4 d4 n4 => hh.2 v4 H4 (e03.trans e4) q4 d4 fun z => (n4 z).back e03⟩
      refine ⟨by rw [List.length_set, List.length_set]; exact hh.1.len, fun k d' y => ?_, p4⟩
      by_cases ne : i = k
      · subst ne
        rw [List.getElem?_set_self hlt] at y
        have y' := Option.some.inj (Option.some.inj y)
        subst y'
        refine ⟨_, sl, .lst ⟨hb.1, fun _ => hA4⟩ (.inl (.inl hA4)) (DVs.set ?_ (dvs_scal r hsc))⟩
        exact (dw.mono e3).sub sub fun _ z => z
      · rw [List.getElem?_set_ne ne] at y ⊢
        obtain ⟨w', y1, y2⟩ := hh.1.at' k d' y
        exact ⟨w', y1, y2.mono e03⟩
end
end LA
namespace LA
open PySem PySem.Spec PyProof.Rows L2
/-! ### equality of ints and of texts -/
section
variable {p : HD} {c : PC} {K : PySem.W.Frag}
theorem dec_v {α : Type} {a b : α} [DecidableEq α] {f : α → V} (hf : ∀ x y, f x = f y → x = y) : decide (f a = f b) = decide (a = b) := by
  by_cases h : a = b
  · subst h
    simp
  · rw [decide_eq_false h, decide_eq_false fun z => h (hf _ _ z)]
theorem ov_eqI {i j : Int} : OV K p rEq (.int i) (.int j) (.bl (decide (i = j))) true c := by
  have h := ov_eqS (K := K) (p := p) (c := c) (x := .int i) (y := .int j) rfl rfl rfl
  rw [dec_v (f := V.int) fun x y e => by cases e; rfl] at h
  exact h
theorem ov_eqIt {i j : Int} (h : i = j) : OV K p rEq (.int i) (.int j) (.bl true) true c := by
  have q := ov_eqI (K := K) (p := p) (c := c) (i := i) (j := j)
  rw [decide_eq_true h] at q
  exact q
theorem ov_eqIf {i j : Int} (h : ¬ i = j) : OV K p rEq (.int i) (.int j) (.bl false) true c := by
  have q := ov_eqI (K := K) (p := p) (c := c) (i := i) (j := j)
  rw [decide_eq_false h] at q
  exact q
theorem ov_neI {i j : Int} : OV K p rNe (.int i) (.int j) (.bl (!decide (i = j))) true c := by
  have h := ov_neS (K := K) (p := p) (c := c) (x := .int i) (y := .int j) rfl rfl rfl
  rw [dec_v (f := V.int) fun x y e => by cases e; rfl] at h
  exact h
theorem ov_eqT {i j : Str} : OV K p rEq (.str i) (.str j) (.bl (decide (i = j))) true c := by
  have h := ov_eqS (K := K) (p := p) (c := c) (x := .str i) (y := .str j) rfl rfl rfl
  rw [dec_v (f := V.str) fun x y e => by cases e; rfl] at h
  exact h
theorem ov_neT {i j : Str} : OV K p rNe (.str i) (.str j) (.bl (!decide (i = j))) true c := by
  have h := ov_neS (K := K) (p := p) (c := c) (x := .str i) (y := .str j) rfl rfl rfl
  rw [dec_v (f := V.str) fun x y e => by cases e; rfl] at h
  exact h
end
/-! ### defs that are called by their names -/
structure Def0 (P : Program) (w : World) (K : PySem.W.Frag) (mg : Str → Option Value) (base : Heap) (k : Nat) (x : Str) (ps : List Str) (R : FSpec) : Prop where
  ex : ∃ (f : Addr) (fd : FuncData), FnOk P w K mg base CX0 k f fd ps (spF K R) ∧ mg x = some (.ref f) ∧ PySem.W.keepIn K (.ref f) = true ∧ Binds K fd ps []
structure Def1 (P : Program) (w : World) (K : PySem.W.Frag) (mg : Str → Option Value) (base : Heap) (k : Nat) (x : Str) (ps : List Str) (R : FSpec) : Prop where
  ex : ∃ (f : Addr) (fd : FuncData), FnOk P w K mg base (L2.CX P w) k f fd ps (spF K R) ∧ mg x = some (.ref f) ∧ PySem.W.keepIn K (.ref f) = true ∧ Binds K fd ps []
section
variable {X : Cx} {W : WX} {p : HD} {ρ : Rho} {c c1 c2 : PC} {e : Expr} {es : List Expr} {pos xp : Pos} {d : D} {nw : Bool} {k : Nat} {x : Str} {ps : List Str} {R : FSpec} {ds : List D} {o : EO}
theorem re_c0 (T : Def0 X.prog X.w X.K X.mg X.base k x ps R) (hr : Room k X.A) (ha : RA X W p ρ c (e :: es) (.val ds c1)) (ho : R ds c1 (.val d nw c2))
    (hg : Gl X x := by rfl) (hdb : (x == ("__debug__" : Str)) = false := by decide) (he : starEach (e :: es) X.env = (false, eval e X.env) :: starEach es X.env := by rfl) (hpl : (backTo pos (starEach es X.env)).any (·.1) = false := by rfl) :
    RE X W p ρ c (.Call (.Name x xp) (e :: es) [] pos) (.val d nw c2) := by
  obtain ⟨f, fd, h1, h2, h3, h4⟩ := T.ex
  exact re_call h1 hr h2 h3 h4 ha ho hg hdb he hpl
theorem re_c1 (tk : Takes X W) (T : Def1 X.prog X.w X.K X.mg X.base k x ps R) (hr : Room k X.A) (ha : RA X W p ρ c (e :: es) (.val ds c1)) (ho : R ds c1 o)
    (hg : Gl X x := by rfl) (hdb : (x == ("__debug__" : Str)) = false := by decide) (he : starEach (e :: es) X.env = (false, eval e X.env) :: starEach es X.env := by rfl) (hpl : (backTo pos (starEach es X.env)).any (·.1) = false := by rfl) :
    RE X W p ρ c (.Call (.Name x xp) (e :: es) [] pos) o := by
  obtain ⟨f, fd, h1, h2, h3, h4⟩ := T.ex
  exact re_callX tk h1 hr h2 h3 h4 ha ho hg hdb he hpl
end
end LA
namespace LA
open PySem PySem.Spec PyProof.Rows L2
/-! ### comprehensions without a test; signs joined -/
section
variable {X : Cx} {W : WX} {p : HD} {ρ : Rho} {c c1 c2 : PC} {e o tg : Expr} {pos apos : Pos} {n1 n2 : Bool}
theorem re_joinC {g : G} {l : List Nat} (ho : RE X W p ρ c o (.val (.str (Str.ofString "")) n1 c1)) (he : RE X W p ρ c1 e (.val (.lst g (l.map fun n => D.str (chr1 n))) n2 c2)) (hl : l.length ≤ 1000)
    (hs : starEach [e] X.env = [(false, eval e X.env)] := by rfl) (hbase : attributeBase o "join" X.env (eval o X.env) = eval o X.env := by rfl) (hline : (apos.endLine == pos.line) = true := by rfl) :
    RE X W p ρ c (.Call (.Attribute o "join" apos) [e] [] pos) (.val (.str (tx l)) true c2) := by
  rw [← join_nil]
  refine re_join (g := g) (n2 := n2) (ss := l.map chr1) ho ?_ ?_ hs hbase hline
  · rw [List.map_map]
    exact he
  · rw [sum_sgn]
    show _ + _ * 0 ≤ _
    omega
theorem pts_all {q : HD} : PTs X [] (tT X.K W q ρ c (.val true c)) := ⟨fun pins s σ H Q I h => pts_nil.run pins s σ H Q I (h.2 H (Ext.refl _ _) h.1.pl)⟩
theorem re_lcA {elt iter : Expr} {scope : Scope} {own : List (Str × Nat)} {xs : List D} {g : TG} (y : Nat → D) (cs : Nat → PC) (ρt : Nat → Rho) (nws : Nat → Bool) (hc : X.calm = true) (hN : X.N.Nodup) (hi : RI X W p ρ c tg iter xs (cs 0)) (ok : BlkOk X.N X.env.scope scope own)
    (hg : ∀ (s : Shared) (H : Hp) (C : Addr) (cl : List (Str × Addr)) (fp : List Addr), PG (X.blk s H scope (compEnvC scope cl C X.env) fp) tg g)
    (htg : ∀ i d, xs[i]? = some d → TgOk X.K g (own.map (·.2)) d (wipeR ρ (own.map (·.2))) (ρt i))
    (he : ∀ i d, xs[i]? = some d → ∀ (q : HD) (s : Shared) (H : Hp) (C : Addr) (cl : List (Str × Addr)) (fp : List Addr), RE (X.blk s H scope (compEnvC scope cl C X.env) fp) Wf q (ρt i) (cs i) elt (.val (y i) (nws i) (cs (i + 1))))
    (hz : xs.length ≤ 100000)
    (hs : ∀ x, foldedSetIterable iter X.env x = pure x := by intro _; rfl) : RE X W p ρ c (.ListComp elt [⟨tg, iter, [], 0⟩] scope pos) (.val (.lst ⟨false, true⟩ ((List.range xs.length).map y)) true (cs xs.length)) := by
  rw [← coll_all]
  exact re_lc (fun _ => true) y cs cs ρt nws hc hN hi ok hg htg (fun i d h q s H C cl fp => pts_all) (fun i d h _ q s H C cl fp => he i d h q s H C cl fp) (fun i d h z => nomatch z) hz hs
end
theorem intsD_at {n i : Nat} {d : D} (h : (intsD n)[i]? = some d) : d = .int (i : Nat) ∧ i < n := by
  unfold intsD at h
  have hl := (List.getElem?_eq_some_iff.mp h).1
  rw [List.length_map, List.length_range] at hl
  rw [List.getElem?_map, List.getElem?_range hl] at h
  exact ⟨(Option.some.inj h).symm, hl⟩
theorem intsD_len (n : Nat) : (intsD n).length = n := by unfold intsD; rw [List.length_map, List.length_range]
theorem signs_at {l : List Nat} {i : Nat} {d : D} (h : (chars (tx l))[i]? = some d) : d = .str (chr1 (l.getD i 0)) ∧ i < l.length ∧ l[i]? = some (l.getD i 0) := by
  rw [chars_tx] at h
  have hl := (List.getElem?_eq_some_iff.mp h).1
  rw [List.length_map] at hl
  rw [List.getElem?_map, List.getElem?_eq_getElem hl] at h
  refine ⟨?_, hl, ?_⟩
  · rw [List.getD_eq_getElem?_getD, List.getElem?_eq_getElem hl]
    exact (Option.some.inj h).symm
  · rw [List.getD_eq_getElem?_getD, List.getElem?_eq_getElem hl]
    rfl
theorem signs_len (l : List Nat) : (chars (tx l)).length = l.length := by rw [chars_tx, List.length_map]
end LA
namespace LA
open PySem PySem.Spec PyProof.Rows L2
/-! ### a flat list against [] -/
def flatOk : D → Bool
  | .non => true
  | .bl _ => true
  | .int _ => true
  | .str x => PyData.strOk x
  | _ => false
section
variable {K : PySem.W.Frag} {p : HD} {H : Hp} {c : PC}
theorem dp_of {v : V} {d : D} (h : DV K p H v d) (e : flatOk d = true) : Dp K H v (toPy d) := by
  cases h <;> first | (cases e; done) | (unfold toPy; constructor)
theorem dps_of : ∀ {vs : List V} {ds : List D}, DVs K p H vs ds → ds.all flatOk = true → DpAll K H vs (toPys ds)
  | _, _, .nil, _ => by
    unfold toPys
    exact .nil
  | _, _, .cons h r, e => by
    rw [List.all_cons, Bool.and_eq_true_iff] at e
    unfold toPys
    exact .cons (dp_of h e.1) (dps_of r e.2)
theorem flat_lay : ∀ {ds : List D}, ds.all flatOk = true → PyData.canLayAll0 (toPys ds) = true ∧ PyData.depthAll (toPys ds) = 0
  | [], _ => ⟨by unfold toPys PyData.canLayAll0; rfl, by unfold toPys PyData.depthAll; rfl⟩
  | d :: r, e => by
    rw [List.all_cons, Bool.and_eq_true_iff] at e
    obtain ⟨h1, h2⟩ := flat_lay e.2
    unfold toPys PyData.canLayAll0 PyData.depthAll
    rw [h1, h2]
    have he := e.1
    cases d <;> first | (cases he; done) | (unfold toPy PyData.canLay0 PyData.depth; exact ⟨by first | rfl | (rw [Bool.and_true]; exact he), rfl⟩)
theorem shaped_flat {ds : List D} (e : ds.all flatOk = true) : SeqAt.shaped (.list (toPys ds)) = true := by
  obtain ⟨h1, h2⟩ := flat_lay e
  unfold SeqAt.shaped PyData.canLay0 PyData.depth
  rw [h1, h2]
  rfl
theorem eqv_nil (ds : List D) : PyData.eqv (.list (toPys ds)) (.list []) = ds.isEmpty := by
  cases ds with
  | nil => unfold toPys PyData.eqv PyData.eqvAll; rfl
  | cons d r => unfold toPys PyData.eqv PyData.eqvAll; rfl
theorem toPy_lst {g : G} {ds : List D} : toPy (.lst g ds) = .list (toPys ds) := by unfold toPy; rfl
theorem two_nil {v u : V} {g g2 : G} {ds : List D} (dv : DV K p H v (.lst g ds)) (du : DV K p H u (.lst g2 [])) (e : ds.all flatOk = true) : Dp K H v (.list (toPys ds)) ∧ Dp K H u (.list []) := by
  cases dv with
  | lst _ hq r =>
    cases du with
    | lst _ hq2 r2 =>
      cases r2
      exact ⟨.lst (un_sqL hq) (dps_of r e), .lst (un_sqL hq2) .nil⟩
theorem ov_eqNil {g g2 : G} {ds : List D} (e : ds.all flatOk = true) : OV K p (rEqD K) (.lst g ds) (.lst g2 []) (.bl ds.isEmpty) true c := fun v u H Q dv du hp k => by
  obtain ⟨h1, h2⟩ := two_nil dv du e
  refine ⟨_, _, h1, h2, shaped_flat e, by decide, ?_⟩
  rw [eqv_nil]
  exact k _ H (Ext.refl p H) hp (.bl _) fun _ => New.sc (by intro a h; cases h)
theorem ov_neNil {g g2 : G} {ds : List D} (e : ds.all flatOk = true) : OV K p (rNeD K) (.lst g ds) (.lst g2 []) (.bl (!ds.isEmpty)) true c := fun v u H Q dv du hp k => by
  obtain ⟨h1, h2⟩ := two_nil dv du e
  refine ⟨_, _, h1, h2, shaped_flat e, by decide, ?_⟩
  rw [eqv_nil]
  exact k _ H (Ext.refl p H) hp (.bl _) fun _ => New.sc (by intro a h; cases h)
end
/-! ### isinstance by the kind of a datum -/
def isStrD : D → Bool
  | .str _ => true
  | _ => false
def isLstD : D → Bool
  | .lst _ _ => true
  | _ => false
theorem isi_str {d : D} {t : String} (h : tyD d = some t) : kitB t "str" = some (isStrD d) := by
  cases d <;> first | (cases h; done) | (cases h; first | exact (show kitB _ "str" = some false by decide +kernel) | exact (show kitB _ "str" = some true by decide +kernel))
theorem isi_list {d : D} {t : String} (h : tyD d = some t) : kitB t "list" = some (isLstD d) := by
  cases d <;> first | (cases h; done) | (cases h; first | exact (show kitB _ "list" = some false by decide +kernel) | exact (show kitB _ "list" = some true by decide +kernel))
end LA
namespace LA
open PySem PySem.Spec PyProof.Rows L2
theorem cv_lenT {K : PySem.W.Frag} {p : HD} {c : PC} {l : List Nat} (h : l.length ≤ 100000) : CV K p (fun xs H Q => ∃ x n, xs = [x] ∧ LenV K x H n ∧ Q (.int n) H) [.str (tx l)] (.int (l.length : Nat)) true c := fun vs H Q dvs hp k => by
  cases dvs with
  | cons h1 r =>
    cases r
    cases h1
    exact ⟨_, l.length, rfl, ⟨by rw [tx_len]; exact sz_le h, (tx_len l).symm⟩, k _ H (Ext.refl p H) hp (.int _) fun _ => New.sc (by intro a h; cases h)⟩
end LA
namespace LA
open PySem PySem.Spec PyProof.Rows L2
theorem zips_at {a b : List Nat} {i : Nat} {d : D} (h : (zips (tx a) (tx b))[i]? = some d) : d = .tup [.str (chr1 (a.getD i 0)), .str (chr1 (b.getD i 0))] ∧ i < min a.length b.length := by
  unfold zips at h
  have hl := (List.getElem?_eq_some_iff.mp h).1
  rw [List.length_map, List.length_range] at hl
  rw [List.getElem?_map, List.getElem?_range hl, tx_list, tx_list] at h
  have ea : (tx a).cps.size = a.length := tx_len a
  have eb : (tx b).cps.size = b.length := tx_len b
  rw [ea, eb] at hl
  exact ⟨(Option.some.inj h).symm, hl⟩
theorem zips_len (a b : List Nat) : (zips (tx a) (tx b)).length = min a.length b.length := by
  unfold zips
  have ea : (tx a).cps.size = a.length := tx_len a
  have eb : (tx b).cps.size = b.length := tx_len b
  rw [List.length_map, List.length_range, ea, eb]
theorem at_get {l : List Nat} {i : Nat} (h : i < l.length) : (tx l).cps.toList[i]? = some (l.getD i 0) := by
  rw [tx_list, List.getD_eq_getElem?_getD, List.getElem?_eq_getElem h]
  rfl
end LA
namespace LA
open PySem PySem.Spec PyProof.Rows L2
theorem rt_lstB {X : Cx} {W : WX} {p : HD} {ρ : Rho} {c c1 : PC} {e : Expr} {nw b : Bool} {g : G} {ds : List D} (h : RE X W p ρ c e (.val (.lst g ds) nw c1)) (hb : (!ds.isEmpty) = b) (he : ∀ whole, isTrue e X.env whole = (do let v ← whole; standAt e.pos; holding [v] (truthy v)) := by intro _; rfl) : RT X W p ρ c e (.val b c1) := by
  subst hb
  exact rt_lst h he
end LA
namespace LA
open PySem PySem.Spec PyProof.Rows L2
/-! ### forgetting; targets; the larger and the smaller -/
section
variable {X : Cx} {W : WX} {p : HD} {ρ ρ' ρ1 : Rho} {c c1 c2 : PC} {e tg : Expr} {pos : Pos} {d : D} {nw : Bool} {sts : List Stmt} {g : TG} {vs : List Nat} {K : PySem.W.Frag}
theorem rss_weak (h : RSs X W p ρ c sts (.nx ρ1 c1)) (hl : ρ'.length = ρ1.length) (hw : ∀ (i : Nat) (d : D), ρ'[i]? = some (some d) → ρ1[i]? = some (some d)) : RSs X W p ρ c sts (.nx ρ' c1) :=
  pss_imp h fun De σ H ⟨s, k⟩ => ⟨s, fun σ2 H2 e2 s2 => k σ2 H2 e2 (s2.weak (by rw [hl]; exact s2.len) hw fun i v d _ z => z)⟩
theorem rs_tg (he : RE X W p ρ c e (.val d nw c1)) (hg : PG X tg g) (htg : TgOk X.K g vs d ρ ρ') (hs : swapsWithSole [tg] e pos.line X.env = pure false := by rfl) (hw : swappedStores [tg] e X.env = pure none := by rfl)
    (h1 : (assignEach [tg] X.env).map (·.2) = [assign tg X.env] := by rfl) : RS X W p ρ c (.Assign [tg] e pos) (.nx ρ' c1) :=
  ps_imp (ps_asg he hg hs hw h1) fun De σ H h => ⟨h.1, fun v H1 e1 p1 dv _ => htg.run p c1 v σ H1 _ dv (h.1.mono e1 p1) p1 fun σ2 s2 _ => h.2 σ2 H1 e1 s2⟩
theorem cv_min2 {i j : Int} : CV K p (fun xs H Q => ∃ i j, xs = [.int i, .int j] ∧ Q (.int (if j < i then j else i)) H) [.int i, .int j] (.int (if j < i then j else i)) true c := fun vs H Q dvs hp k => by
  cases dvs with
  | cons h1 r =>
    cases r with
    | cons h2 r =>
      cases r
      cases h1
      cases h2
      exact ⟨i, j, rfl, k _ H (Ext.refl p H) hp (.int _) fun _ => New.sc (by intro a h; cases h)⟩
theorem cv_max2 {i j : Int} : CV K p (fun xs H Q => ∃ i j, xs = [.int i, .int j] ∧ Q (.int (if i < j then j else i)) H) [.int i, .int j] (.int (if i < j then j else i)) true c := fun vs H Q dvs hp k => by
  cases dvs with
  | cons h1 r =>
    cases r with
    | cons h2 r =>
      cases r
      cases h1
      cases h2
      exact ⟨i, j, rfl, k _ H (Ext.refl p H) hp (.int _) fun _ => New.sc (by intro a h; cases h)⟩
end
/-! ### what repr asks of small data -/
def smallI (i : Int) : Bool := decide (0 ≤ i) && decide (i < 10)
def smallD : D → Bool
  | .non => true
  | .bl _ => true
  | .int i => smallI i
  | .str x => PyData.strOk x && decide (x.length ≤ 100)
  | _ => false
theorem small_int : ∀ k : Nat, k < 10 → (PyData.int ((k : Nat) : Int)).showable = true ∧ PyData.intsShort 13 (.int ((k : Nat) : Int)) = true ∧ (PyData.int ((k : Nat) : Int)).weight ≤ 100 := by
  decide +kernel
theorem small_one {d : D} (h : smallD d = true) : okD false d = true ∧ (toPy d).showable = true ∧ (toPy d).canLay0 = true ∧ PyData.intsShort 13 (toPy d) = true ∧ (toPy d).weight ≤ 100 ∧ (toPy d).depth = 0 ∧ (toPy d).hasDict = false := by
  cases d with
  | non => exact ⟨rfl, by unfold toPy; decide +kernel, by unfold toPy; decide +kernel, by unfold toPy; decide +kernel, by unfold toPy; decide +kernel, by unfold toPy; decide +kernel, by unfold toPy; decide +kernel⟩
  | bl b => cases b <;> exact ⟨rfl, by unfold toPy; decide +kernel, by unfold toPy; decide +kernel, by unfold toPy; decide +kernel, by unfold toPy; decide +kernel, by unfold toPy; decide +kernel, by unfold toPy; decide +kernel⟩
  | int i =>
    obtain ⟨h1, h2⟩ := Bool.and_eq_true_iff.mp (show smallI i = true from h)
    have h1 := of_decide_eq_true h1
    have h2 := of_decide_eq_true h2
    obtain ⟨k, rfl⟩ : ∃ k : Nat, i = (k : Nat) := ⟨i.toNat, (Int.toNat_of_nonneg h1).symm⟩
    obtain ⟨a, b, c⟩ := small_int k (by omega)
    exact ⟨rfl, by unfold toPy; exact a, by unfold toPy PyData.canLay0; rfl, by unfold toPy; exact b, by unfold toPy; exact c, by unfold toPy PyData.depth; rfl, by unfold toPy PyData.hasDict; rfl⟩
  | str x =>
    obtain ⟨h1, h2⟩ := Bool.and_eq_true_iff.mp (show (PyData.strOk x && decide (x.length ≤ 100)) = true from h)
    exact ⟨rfl, by unfold toPy PyData.showable; rfl, by unfold toPy PyData.canLay0; exact h1, by unfold toPy PyData.intsShort; rfl, by unfold toPy PyData.weight; exact of_decide_eq_true h2, by unfold toPy PyData.depth; rfl, by unfold toPy PyData.hasDict; rfl⟩
  | _ => cases h
theorem small_all : ∀ {ds : List D}, ds.all smallD = true → okDs false ds = true ∧ PyData.showableAll (toPys ds) = true ∧ PyData.canLayAll0 (toPys ds) = true ∧ PyData.intsShortAll 13 (toPys ds) = true ∧ PyData.weightAll (toPys ds) ≤ 101 * ds.length ∧ PyData.depthAll (toPys ds) = 0 ∧ PyData.hasDictAll (toPys ds) = false
  | [], _ => ⟨rfl, by unfold toPys; decide +kernel, by unfold toPys; decide +kernel, by unfold toPys; decide +kernel, by unfold toPys; decide +kernel, by unfold toPys; decide +kernel, by unfold toPys; decide +kernel⟩
  | d :: r, h => by
    rw [List.all_cons, Bool.and_eq_true_iff] at h
    obtain ⟨a1, a2, a3, a4, a5, a6, a7⟩ := small_one h.1
    obtain ⟨b1, b2, b3, b4, b5, b6, b7⟩ := small_all h.2
    unfold okDs toPys PyData.showableAll PyData.canLayAll0 PyData.intsShortAll PyData.weightAll PyData.depthAll PyData.hasDictAll
    rw [a1, a2, a3, a4, a6, a7, b1, b2, b3, b4, b6, b7, List.length_cons]
    exact ⟨rfl, rfl, rfl, rfl, by omega, rfl, rfl⟩
theorem sz_of {d : PyData} (h1 : d.canLay0 = true) (h2 : PyData.intsShort 13 d = true) (h3 : d.weight ≤ 10000) : d.shown.length ≤ sizeLine := by
  have h := PyData.shown_le 13 (by decide) d (PyData.leavesShort_of_canLay0 13 d h1 h2)
  have e : sizeLine = 16777216 := by decide
  omega
theorem shows_small {d : D} (h : smallD d = true) : Shows d := by
  obtain ⟨a1, a2, a3, a4, a5, a6, a7⟩ := small_one h
  exact ⟨by rw [a7]; exact a1, a2, by omega, sz_of a3 a4 (by omega)⟩
theorem shows_list {g : G} {ds : List D} (h : ds.all smallD = true) (hl : ds.length ≤ 90) : Shows (.lst g ds) := by
  obtain ⟨b1, b2, b3, b4, b5, b6, b7⟩ := small_all h
  refine ⟨?_, ?_, ?_, sz_of ?_ ?_ ?_⟩
  · unfold toPy PyData.hasDict okD
    rw [b7, b1]
    simp
  · unfold toPy PyData.showable
    exact b2
  · unfold toPy PyData.depth
    omega
  · unfold toPy PyData.canLay0
    exact b3
  · unfold toPy PyData.intsShort
    exact b4
  · unfold toPy PyData.weight
    omega
end LA
namespace LA
open PySem PySem.Spec PyProof.Rows L2
/-- the first knows no more than the second -/
inductive Less : Rho → Rho → Prop
  | nil : Less [] []
  | skip {o : Option D} {r r1 : Rho} : Less r r1 → Less (none :: r) (o :: r1)
  | same {o : Option D} {r r1 : Rho} : Less r r1 → Less (o :: r) (o :: r1)
theorem Less.len : ∀ {r r1 : Rho}, Less r r1 → r.length = r1.length
  | _, _, .nil => rfl
  | _, _, .skip h => by rw [List.length_cons, List.length_cons, Less.len h]
  | _, _, .same h => by rw [List.length_cons, List.length_cons, Less.len h]
theorem Less.get : ∀ {r r1 : Rho}, Less r r1 → ∀ (i : Nat) (d : D), r[i]? = some (some d) → r1[i]? = some (some d)
  | _, _, .nil, _, _, h => h
  | _, _, .skip _, 0, _, h => by cases h
  | _, _, .same _, 0, _, h => h
  | _, _, .skip h, i + 1, d, z => Less.get h i d z
  | _, _, .same h, i + 1, d, z => Less.get h i d z
theorem rss_less {X : Cx} {W : WX} {p : HD} {ρ ρ' ρ1 : Rho} {c c1 : PC} {sts : List Stmt} (h : RSs X W p ρ c sts (.nx ρ1 c1)) (hw : Less ρ' ρ1) : RSs X W p ρ c sts (.nx ρ' c1) := rss_weak h hw.len hw.get
/-- data without the pool -/
inductive OkR : Rho → Prop
  | nil : OkR []
  | non {r : Rho} : OkR r → OkR (none :: r)
  | one {d : D} {r : Rho} : okD false d = true → OkR r → OkR (some d :: r)
theorem OkR.get : ∀ {r : Rho}, OkR r → ∀ (i : Nat) (d : D), r[i]? = some (some d) → okD false d = true
  | _, .nil, _, _, h => by simp at h
  | _, .non _, 0, _, h => by cases h
  | _, .one h _, 0, _, z => by
    cases Option.some.inj (Option.some.inj z)
    exact h
  | _, .non h, i + 1, d, z => OkR.get h i d z
  | _, .one _ h, i + 1, d, z => OkR.get h i d z
end LA
namespace LA
open PySem PySem.Spec PyProof.Rows L2
/-! ### one call from one place, its guards in view -/
/-- a def of the text called from the place pl: its body's reading is wanted there alone -/
theorem call_at {CX : CXT} {P : Program} {w : World} {K : PySem.W.Frag} {mg : Str → Option Value} {base : Heap} {k : Nat} {x qual : Str} {st : Stmt} {f : Addr} {fd : FuncData} {N ps : List Str} (F : Fun K x qual st f fd) (S : FnScope N ps (defScope st))
    {pl : Around} {up : List Env} {sh : Shared} {G : Hp} {ag : Args} {us : List Value} {vs : List V} {R : VK} {Ex : XK} (room : Room (k + 1) pl) (e0 : Env0 P w K mg base pl up sh G) (bind : BindsTo sh fd ag (ps.zip us)) (rv : Vals vs us) (len : vs.length = ps.length)
    (body : ∀ cdv : Value, Room k (pl.deeper (envOfC qual (defScope st) sh.heap.objs.size f cdv)) → ∃ t, PSs (cxOf CX P w K mg base N qual (defScope st) f cdv pl up sh G Ex) (defBody st) t ∧ t { nx := fun _ G' => R .non G', rt := R } (L2.start N vs) G) :
    codeAny (model P w) pl (.call (.ref f) ag) (CR CX up P w G sh R Ex) sh := by
  obtain ⟨oc, od, kV, doc, pm, an, cdv, ct, osl, rfl, look, code⟩ := F.ex
  obtain ⟨t, runs, want⟩ := body cdv (room.deeper _)
  have inK : K.In sh.heap := e0.mod.kin.keeps fun b o y => (e0.bs b o y).1
  have noLim : sh.heap.NoLimit := e0.mod.nolimit.keeps fun b o y => (e0.bs b o y).1
  have kinds : ∀ y ∈ ps.zip us, (defScope st).names.lookup y.1 = some .local ∨ ((defScope st).names.lookup y.1 = some .cell ∧ ((cellsFrom (sh.heap.objs.size + 1) (defScope st).names []).lookup y.1).isSome = true) := fun ⟨n, v⟩ my =>
    (S.par n (List.of_mem_zip my).1).elim (fun q => .inl q) fun q => .inr ⟨q, PySem.W.cellsFrom_some _ _ _ (.inl q)⟩
  refine codeAny_call_function room.depth (inK _ _ look) rfl S.co S.gen rfl (PySem.W.codeRec_of inK code) (bind _ _ _ _ ?_)
  refine wpAny_newFunctionEnv_cells S.kind kinds fun env ee s1 new => ?_
  subst ee
  refine ⟨noLim.keeps new.toInCall.keep, codeAny_func ?_⟩
  have J : Inv (cxOf CX P w K mg base N qual (defScope st) f cdv pl up sh G Ex) [] (L2.start N vs) G s1 := inv_start S room.hd e0 len rv new
  refine wpAny_mono (runs.run [] s1 (L2.start N vs) G _ J want) (fun fl s2 got => ?_) fun e s2 got => got
  match fl, got with
  | .ret u, ⟨v, σ2, G2, J2, r2, q2⟩ => exact ⟨v, G2, J2.os, J2.bare, J2.base, J2.hok, r2, q2⟩
  | .next, ⟨σ2, G2, J2, q2⟩ => exact ⟨V.non, G2, J2.os, J2.bare, J2.base, J2.hok, rfl, q2⟩
  | .brk, ⟨_, _, _, z⟩ => exact z.elim
  | .cont, ⟨_, _, _, z⟩ => exact z.elim
/-- what a law ends in -/
def LawEnd (s0 : Shared) : Result → Shared → Prop := fun r s2 => r = .ok (.ret (.bool true)) ∧ OldK s0.heap s2.heap ∧ s2.os = s0.os ∧ AllBare s2.gens
/-- the law's call, from a run over a heap of which the script alone may be tracked -/
theorem law_at {P : Program} {w : World} {K : PySem.W.Frag} {mg mb : Str → Option Value} {fa a : Addr} {s0 : Shared} {its : List Value} {ns : List Int}
    (kin : K.In s0.heap) (nsM : s0.heap.Ns mainGlobals mg) (nsB : s0.heap.Ns builtinsNs mb) (bi : ∀ x : Str, x ≠ "__name__" → mb x = bootBuiltins x) (noL : s0.heap.NoLimit) (gen : s0.gens = #[])
    (obj : s0.heap.get? a = some { cls := .type "list", data := .seq its.toArray }) (whole : IntsAre its ns) (short : ns.length ≤ sizeLine)
    (run : ∀ (base : Heap) (G : Hp), K.In base → base.Ns mainGlobals mg → Env0 P w K mg base callerA [] s0 G → SqL K G a (ns.map V.int) →
      codeAny (model P w) callerA (.call (.ref fa) ⟨[.ref a], []⟩) (CR CX0 [] P w G s0 (fun v _ => v = .bl true) fun _ _ _ => False) s0) :
    codeAny (model P w) callerA (.call (.ref fa) ⟨[.ref a], []⟩) (LawEnd s0) s0 := by
  have vals := vals_ints whole
  have same := whole.length
  -- G tracks nothing, or the script as it stands
  have step : ∀ G : Hp, (∀ b u, G b = some u → b = a ∧ K.lookup a = none ∧ ∃ o xs, u = .frz o (.lst xs)) → HOk P w G s0.heap → SqL K G a (ns.map V.int) → codeAny (model P w) callerA (.call (.ref fa) ⟨[.ref a], []⟩) (LawEnd s0) s0 := by
    intro G only hok sq
    have free : ∀ {b : Addr}, b ≠ a → G b = none := fun {b} ne => by
      cases y : G b with
      | none => rfl
      | some u => exact absurd (only b u y).1 ne
    have noDict : ∀ {b : Addr} {o : Obj} {es : Array DictEntry} {ep : Nat}, s0.heap.get? b = some o → o.data = .dict es ep → G b = none := fun {b o es ep} y1 y2 => free fun z => by
      rw [z, obj] at y1
      cases y1
      cases (show Data.seq its.toArray _ = Data.dict es ep from y2)
    have kept : ∀ {b : Addr} {m : Str → Option Value}, s0.heap.Ns b m → (hidT s0.heap G).Ns b m := fun {b m} ⟨o, es, ep, y1, y2, y3⟩ => ⟨o, es, ep, hidT_get y1 (noDict y1 y2), y2, y3⟩
    have kinB : K.In (hidT s0.heap G) := fun b o y => hidT_get (kin b o y) (by
      cases z : G b with
      | none => rfl
      | some u =>
        obtain ⟨rfl, no, _⟩ := only b u z
        rw [no] at y
        cases y)
    have env : Env0 P w K mg (hidT s0.heap G) callerA [] s0 G := ⟨rfl, ⟨kinB, kept nsM, ⟨mb, kept nsB, bi⟩, noL.elim fun mc q => ⟨mc, kept q.1, q.2⟩⟩, fun b o y => of_hidT y, Nat.le_of_eq (hidT_size _ _), trivial, fun b m => absurd (show b ∈ ([] : List Addr) from m) (by simp), hok, .of_eq gen⟩
    refine codeAny_mono (run _ G kinB (kept nsM) env sq) fun r s2 got => ?_
    match r, got with
    | .error e, z => exact z.elim
    | .ok .next, z => exact z.elim
    | .ok .brk, z => exact z.elim
    | .ok .cont, z => exact z.elim
    | .ok (.ret u), ⟨v, G2, os, bare, un, hok2, rel, q⟩ =>
      have q : v = .bl true := q
      subst q
      obtain rfl : u = Value.bool true := rel
      refine ⟨rfl, OldK.of_keep fun b o y => ?_, os, bare⟩
      cases z : G b with
      | none => exact un.keep b o y z (fun m => absurd (show b ∈ ([] : List Addr) from m) (by simp)) (by simp)
      | some u =>
        obtain ⟨rfl, _, ob, xs, rfl⟩ := only b u z
        obtain ⟨y1, _⟩ := hok b _ z
        obtain ⟨y2, _⟩ := hok2 b _ (un.frzs b ob _ z)
        rw [y] at y1
        cases y1
        exact y2
  cases lk : K.lookup a with
  | some o =>
    have y := kin a o lk
    rw [obj] at y
    cases y
    exact step (fun _ => none) (fun b u z => nomatch z) (fun b u z => nomatch z) (.inr ⟨_, its.toArray, _, lk, rfl, rfl, rfl, by rw [List.size_toArray, same]; exact short, by simpa using vals⟩)
  | none =>
    refine step (fun b => if b = a then some (.frz { cls := .type "list", data := .seq its.toArray } (.lst (ns.map V.int))) else none) (fun b u z => ?_) (fun b u z => ?_) (.inl (.inr ⟨{ cls := .type "list", data := .seq its.toArray }, if_pos rfl⟩))
    · by_cases y : b = a
      · have z := (if_pos y).symm.trans z
        cases z
        exact ⟨y, lk, _, _, rfl⟩
      · cases (if_neg y).symm.trans z
    · by_cases y : b = a
      · have z := (if_pos y).symm.trans z
        cases z
        subst y
        exact ⟨obj, by rw [List.length_map]; exact short, its, _, vals, obj⟩
      · cases (if_neg y).symm.trans z
end LA
namespace LA
open PySem PySem.Spec PyProof.Rows L2
/-! ### enumerate over a text -/
def iEnumS (ta : TA) : TI := fun σ H R => ta σ H fun vs H1 => ∃ z : Str, vs = [.str z] ∧ R (Itp z.cps.size (fun i => .int (i : Nat)) (sgn z)) H1
theorem pi_enumS {X : Cx} {e : Expr} {ta : TA} {p pos tpos : Pos} {elts : List Expr} {kk : Nat} (hg : Gl X "enumerate") (hm : X.mg "enumerate" = none) (ha : PA X [e] ta) (hs : starEach [e] X.env = [(false, eval e X.env)] := by rfl) :
    PI X (.Tuple elts kk tpos) (.Call (.Name "enumerate" p) [e] [] pos) (iEnumS ta) := by
  refine ⟨fun pins s σ H R I h => ?_⟩
  refine Call_ (ld_blt I hg hm boot_enumerate (PyProof.Rows.callWith_type1 (thn (ha.run pos pins s σ H _ I h) fun us sh ⟨vs, H1, I1, r1, q1⟩ => ?_) hs rfl))
  obtain ⟨z, ex, q⟩ := q1
  subst ex
  cases r1 with
  | cons r rr =>
    cases rr
    obtain ⟨t, rfl⟩ := r
    refine call_enumerate_str fun hp en it sz kp => wpAny_pyIter_enum en ?_
    have I2 : Inv X pins σ H1 { sh with heap := hp } := I1.kept (t' := sh.toks) kp
    have ne : sh.heap.objs.size + 1 ≠ sh.heap.objs.size := Nat.succ_ne_self _
    refine ⟨sh.heap.objs.size + 1, _, _, _, H1, rfl, I2, turn_pair (P1 := fun i x => ∃ t, x = .int (i : Nat) t)
      (fun A hA => (GoesN.enumFrom 0 (Draws.text (A := A.in1) hA sh.heap.objs.size z t) (sh.heap.objs.size + 1) ne (fun m => ne (List.mem_singleton.mp m)) (List.mem_singleton.mpr rfl)).mono fun i h0 v h1 _ ⟨T, u, x, ev, big, px, tup⟩ => ⟨T, _, x, ev, big, ⟨u, by rw [Int.zero_add]⟩, px, tup⟩)
      (fun i x _ hx => by obtain ⟨u, rfl⟩ := hx; exact ⟨u, rfl⟩) (fun i x _ hx => sgn_of hx) (List.mem_cons_self ..) (fun i h st c hc => ?_) (fun A i s Q E st h => by obtain ⟨⟨old, y⟩, _⟩ := st; exact wpAny_pyIter_enum y h), ⟨⟨_, en⟩, it⟩, fun c hc => ?_, q⟩
    · obtain ⟨⟨old, y⟩, y2⟩ := st
      rcases List.mem_cons.mp hc with w | w
      · rw [w]
        exact ⟨_, y, fun v q => nomatch q⟩
      · rw [List.mem_singleton.mp w]
        obtain ⟨o, y3, _, y4⟩ := y2
        exact ⟨o, y3, fun v q => by rw [y4] at q; cases q⟩
    · have le : sh.heap.objs.size ≤ c := by
        rcases List.mem_cons.mp hc with w | w
        · rw [w]; exact Nat.le_add_right _ _
        · rw [List.mem_singleton.mp w]; exact Nat.le_refl _
      exact I1.fpOk le (I1.hok.fresh le)
section
variable {X : Cx} {W : WX} {p : HD} {ρ : Rho} {c c1 c2 c3 : PC} {e a b cc : Expr} {pos : Pos} {d1 d2 d3 : D} {n1 n2 n3 nw : Bool} {K : PySem.W.Frag}
def enums (l : List Nat) : List D := (List.range l.length).map fun i => D.tup [.int (i : Nat), .str (chr1 (l.getD i 0))]
theorem enums_at {l : List Nat} {i : Nat} {d : D} (h : (enums l)[i]? = some d) : d = .tup [.int (i : Nat), .str (chr1 (l.getD i 0))] ∧ i < l.length := by
  unfold enums at h
  have hl := (List.getElem?_eq_some_iff.mp h).1
  rw [List.length_map, List.length_range] at hl
  rw [List.getElem?_map, List.getElem?_range hl] at h
  exact ⟨(Option.some.inj h).symm, hl⟩
theorem enums_len (l : List Nat) : (enums l).length = l.length := by unfold enums; rw [List.length_map, List.length_range]
theorem ri_enumS {ps tpos : Pos} {elts : List Expr} {kk : Nat} {l : List Nat} (hm : X.mg "enumerate" = none) (h : RE X W p ρ c e (.val (.str (tx l)) nw c1)) (hg : Gl X "enumerate" := by rfl) (hs : starEach [e] X.env = [(false, eval e X.env)] := by rfl) :
    RI X W p ρ c (.Tuple elts kk tpos) (.Call (.Name "enumerate" ps) [e] [] pos) (enums l) c1 :=
  pi_imp (pi_enumS hg hm (ra_cons (W := W) h (ra_nil (W := W)) (by rw [hs]; rfl)) hs) fun σ H R ⟨s, k⟩ => ⟨s, fun vs H1 e1 p1 dvs => by
    cases dvs with
    | cons hv hr =>
      cases hr
      cases hv
      have sz : (tx l).cps.size = l.length := tx_len l
      refine ⟨_, rfl, k _ H1 e1 p1 fun q c' H2 qe qs p2 => ⟨?_, fun i d hd => ?_⟩⟩
      · show (enums l).length = (tx l).cps.size
        rw [enums_len, sz]
      · obtain ⟨rfl, hi⟩ := enums_at hd
        refine ⟨by show i < (tx l).cps.size; rw [sz]; exact hi, fun x H3 y => ?_⟩
        obtain ⟨T, rfl, hT, rfl⟩ := y
        refine ⟨Ext.new hT, p2.upd hT, .tup (.inl (.inl (hide_upd p2 hT))) (.cons (.int _) (.cons ?_ .nil))⟩
        have e' : LA.sgn (tx l) i = .str (chr1 (l.getD i 0)) := by
          unfold LA.sgn
          rw [tx_list]
          rfl
        rw [e']
        exact .str _⟩
/-! ### a < b < c -/
theorem re_chain {op op' : CmpOp} {r r' : R2} {k1 k2 : Bool} (ho : OpR X (compareOp op) r) (ho' : OpR X (compareOp op') r') (ha : RE X W p ρ c a (.val d1 n1 c1)) (hb : RE X W p ρ c1 b (.val d2 n2 c2)) (hc : RE X W p ρ c2 cc (.val d3 n3 c2)) (h1 : OV X.K p r d1 d2 (.bl k1) true c2) (h2 : OV X.K p r' d2 d3 (.bl k2) true c2)
    (hm : lastMarks [op, op'] [b, cc] = false := by with_unfolding_all rfl) : RE X W p ρ c (.Compare a [op, op'] [b, cc] pos) (.val (.bl (k1 && k2)) true c2) :=
  pe_imp (pe_chain ho ho' ha hb hc hm) fun σ H Q ⟨s, k⟩ => ⟨s, fun v H1 e1 p1 dv _ => ⟨s.mono e1 p1, fun u H2 e2 p2 du _ => h1 v u H2 _ (dv.mono e2) du p2 fun w H3 e3 p3 dw _ => by
    cases dw
    refine ⟨k1, rfl, ?_⟩
    have e13 : Ext p H H3 := (e1.trans e2).trans e3
    cases k1 with
    | false => exact iteF (k _ H3 e13 p3 (.bl false) fun _ => New.sc (by intro a h; cases h))
    | true => exact iteT ⟨s.mono e13 p3, fun w H4 e4 p4 dw _ => h2 u w H4 Q (du.mono (e3.trans e4)) dw p4 fun z H5 e5 p5 dz _ => k z H5 ((e13.trans e4).trans e5) p5 dz fun _ => by
        cases dz
        exact New.sc (by intro a h; cases h)⟩⟩⟩
end
end LA
namespace LA
open PySem PySem.Spec PyProof.Rows L2
theorem SR.sub {K : PySem.W.Frag} {p : HD} {H H' : Hp} {σ : L2.St} {ρ : Rho} {c c' : PC} (s : SR K p H σ ρ c) (e : Sub (hide p H) (hide p H')) (q : PoolAt p H' c') : SR K p H' σ ρ c' :=
  ⟨s.len, fun i d h => by
    obtain ⟨v, h1, h2⟩ := s.at' i d h
    exact ⟨v, h1, h2.sub e fun _ z => z⟩, q⟩
/-! ### comprehensions with two for -/
def flat2 (zs : Nat → List D) (y : Nat → Nat → D) : Nat → List D
  | 0 => []
  | n + 1 => flat2 zs y n ++ (List.range (zs n).length).map (y n)
def tiU2 (K : PySem.W.Frag) (xs : List D) (zs : Nat → List D) (ρt : Nat → Rho) (c : PC) : TI := fun σ H R => ∃ (q : HD) (i : Nat) (d : D), xs[i]? = some d ∧ tI K Wf q (ρt i) c (zs i) c σ H R
def teU2 (K : PySem.W.Frag) (xs : List D) (zs : Nat → List D) (y : Nat → Nat → D) (ρu : Nat → Nat → Rho) (nw : Bool) (c : PC) : TE := fun σ H Q => ∃ (q : HD) (i j : Nat) (d e : D), xs[i]? = some d ∧ (zs i)[j]? = some e ∧ tE K Wf q (ρu i j) c (.val (y i j) nw c) σ H Q
section
variable {X : Cx} {W : WX} {p : HD} {ρ : Rho} {c : PC} {K : PySem.W.Frag}
theorem app_at {a L : Addr} {o : HO} {H5 : Hp} {u : HO} {p : HD} (h : hide (p.also L) H5 a = some o) : hide (p.also L) (upd H5 L u) a = some o := by
  obtain ⟨h1, h2⟩ := hide_some h
  rw [hide_ne h2, upd_ne (fun z => h2 (.inr (by rw [z]; exact List.mem_cons_self)))]
  exact h1
theorem lc2_read {xs : List D} {zs : Nat → List D} {y : Nat → Nat → D} {g g1 : TG} {vs vs1 : List Nat} {ρt : Nat → Rho} {ρu : Nat → Nat → Rho} {nw : Bool}
    (htg : ∀ i d, xs[i]? = some d → TgOk K g vs d (wipeR ρ vs) (ρt i)) (htg1 : ∀ i j d e, xs[i]? = some d → (zs i)[j]? = some e → TgOk K g1 vs1 e (wipeR (ρt i) vs1) (ρu i j))
    (hz : ∀ i j d, xs[i]? = some d → j < (zs i).length → (flat2 zs y i).length + j < 100000) : ∀ σ H Q, tE K W p ρ c (.val (.lst ⟨false, true⟩ (flat2 zs y xs.length)) true c) σ H Q → tLc2 (tI K W p ρ c xs c) g tYes (tiU2 K xs zs ρt c) g1 tYes (teU2 K xs zs y ρu nw c) vs vs1 σ H Q := by
  refine fun σ H Q ⟨s, k⟩ => ⟨s, fun J H1 e1 p1 yl L nL => ?_⟩
  have nLp : p.pl ≠ some L := fun z => by
    rw [p1.1 L z] at nL
    cases nL
  have s1 : SR K p H1 σ ρ c := s.mono e1 p1
  have pq : ∀ {H2 : Hp} {us : List V}, H2 L = some (.lst us) → PoolAt p H2 c → PoolAt (p.also L) H2 c := fun {H2 us} hL p2 => ⟨p2.1, fun a ha => (List.mem_cons.mp ha).elim (fun z => by rw [z]; exact ⟨_, hL⟩) fun z => p2.2 a z⟩
  refine ⟨fun i m H2 => m = xs.length - i ∧ i ≤ xs.length ∧ Ext p H1 H2 ∧ (∃ us, H2 L = some (.lst us) ∧ DVs K (p.also L) H2 us (flat2 zs y i)) ∧ PoolAt p H2 c, ⟨xs.length, by simp, Nat.zero_le _, Ext.new nL, ⟨[], upd_same, .nil⟩, p1.upd nL⟩, ?_⟩
  rintro i m H2 ⟨rfl, hi', e2, ⟨us, hL, dus⟩, p2⟩
  obtain ⟨hstop, hgo⟩ := yl (p.also L) c H2 rfl (fun b o z => (ext_also e2).hide b o (also_sub nL b o z)) (pq hL p2)
  by_cases hlt : i < xs.length
  · have hd : xs[i]? = some xs[i] := List.getElem?_eq_getElem hlt
    obtain ⟨g1', g2⟩ := hgo i _ hd
    refine .inr ⟨g1', fun H' => ∃ us, H' L = some (.lst us) ∧ DVs K (p.also L) H' us (flat2 zs y (i + 1)) ∧ Ext p H1 H' ∧ PoolAt p H' c, fun H' ⟨us', a1, a2, a3, a4⟩ => ⟨xs.length - (i + 1), by omega, rfl, hlt, a3, ⟨us', a1, a2⟩, a4⟩, fun x H3 hy => ?_⟩
    obtain ⟨e3, p3, dx⟩ := g2 x H3 hy
    have sH : SR K (p.also L) H3 σ ρ c := ⟨s.len, fun j d hj => by
      obtain ⟨v, h1, h2⟩ := s1.at' j d hj
      exact ⟨v, h1, ((h2.also nL).mono (ext_also e2)).mono e3⟩, p3⟩
    refine (htg i _ hd).run (p.also L) c x _ H3 _ dx (sH.wipe _) p3 fun σ2 s2 hw => ⟨hw.trans wipe_wipe, ?_⟩
    simp only [tYes, if_true]
    refine ⟨p.also L, i, _, hd, s2, fun J1 H4 e4 p4 yl1 => ?_⟩
    have e14 : Ext p H1 H4 := fun a o n h => e4 a o n (e3 a o n (e2 a o n h))
    have hL4 : H4 L = some (.lst us) := e4 L _ nLp (e3 L _ nLp hL)
    refine ⟨fun j k' H5 => k' = (zs i).length - j ∧ j ≤ (zs i).length ∧ Ext p H1 H5 ∧ (∃ us, H5 L = some (.lst us) ∧ DVs K (p.also L) H5 us (flat2 zs y i ++ (List.range j).map (y i))) ∧ PoolAt p H5 c ∧ Sub (hide (p.also L) H4) (hide (p.also L) H5), ⟨(zs i).length, by simp, Nat.zero_le _, e14, ⟨us, hL4, ?_⟩, ⟨p4.1, fun a ha => p4.2 a (List.mem_cons_of_mem _ ha)⟩, fun _ _ z => z⟩, ?_⟩
    · show DVs K _ H4 us (flat2 zs y i ++ [])
      rw [List.append_nil]
      exact (dus.mono e3).mono e4
    · rintro j k' H5 ⟨rfl, hj', e5, ⟨ws, hL5, dws⟩, p5, sb5⟩
      obtain ⟨st1, go1⟩ := yl1 (p.also L) c H5 rfl sb5 (pq hL5 p5)
      by_cases hjl : j < (zs i).length
      · have he : (zs i)[j]? = some ((zs i)[j]'hjl) := List.getElem?_eq_getElem _
        obtain ⟨go2, yl2⟩ := go1 j _ he
        refine .inr ⟨go2, fun H' => ∃ us, H' L = some (.lst us) ∧ DVs K (p.also L) H' us (flat2 zs y i ++ (List.range (j + 1)).map (y i)) ∧ Ext p H1 H' ∧ PoolAt p H' c ∧ Sub (hide (p.also L) H4) (hide (p.also L) H'), fun H' ⟨us', a1, a2, a3, a4, a5⟩ => ⟨(zs i).length - (j + 1), by omega, rfl, hjl, a3, ⟨us', a1, a2⟩, a4, a5⟩, fun x1 H6 hy1 => ?_⟩
        obtain ⟨e6, p6, dx1⟩ := yl2 x1 H6 hy1
        have s6 : SR K (p.also L) H6 σ2 (ρt i) c := (((s2.mono e4 p4).sub sb5 (pq hL5 p5)).mono e6 p6)
        refine (htg1 i j _ _ hd he).run (p.also L) c x1 _ H6 _ dx1 (s6.wipe _) p6 fun σ3 s3 hw3 => ⟨hw3.trans wipe_wipe, ?_⟩
        refine ⟨p.also L, i, j, _, _, hd, he, s3, fun v H7 e7 p7 dv _ => ?_⟩
        have e57 : Ext (p.also L) H5 H7 := fun a o n h => e7 a o n (e6 a o n h)
        have hL7 : H7 L = some (.lst ws) := e57 L _ nLp hL5
        have sb : Sub (hide (p.also L) H7) (hide (p.also L) (upd H7 L (.lst (ws ++ [v])))) := fun a o h => app_at h
        refine ⟨ws, hL7, ?_, ws ++ [v], upd_same, ?_, ?_, ?_, fun b o z => sb b o (e57.hide b o (sb5 b o z))⟩
        · rw [dws.length, List.length_append, List.length_map, List.length_range]
          exact sz_lt (hz i j _ hd hjl)
        · rw [List.range_succ, List.map_append, ← List.append_assoc]
          exact DVs.app ((dws.mono e57).sub sb fun _ z => z) (.cons (dv.sub sb fun _ z => z) .nil)
        · intro a o n h
          rw [upd_ne (ne_of_none h nL)]
          exact e57 a o n (e5 a o n h)
        · exact ⟨fun a z => by
            rw [upd_ne (fun q => nLp (by rw [← q]; exact z))]
            exact p7.1 a z, fun a ha => by
            obtain ⟨o, ho⟩ := p7.2 a (List.mem_cons_of_mem _ ha)
            by_cases hn : a = L
            · exact ⟨_, by rw [hn]; exact upd_same⟩
            · exact ⟨o, by rw [upd_ne hn]; exact ho⟩⟩
      · have ej : j = (zs i).length := by omega
        subst ej
        exact .inl ⟨st1, ws, hL5, dws, e5, p5⟩
  · have e : i = xs.length := by omega
    subst e
    have hh : hide p H2 L = some (.lst us) := by
      rw [hide_ne]
      · exact hL
      · rintro (z | z)
        · exact nLp z
        · obtain ⟨o, ho⟩ := p1.2 L z
          rw [nL] at ho
          cases ho
    exact .inl ⟨hstop, k (.ref L) H2 (e1.trans e2) p2 (.lst ⟨(fun z => nomatch z), fun _ => hh⟩ (.inl (.inl hh)) (dus.sub sub_also fun _ z => z)) fun _ => (New.of p1 nL).back e1⟩
/-- name = [e for x in xs for y in ys] -/
theorem rs_lc2 {elt iter iter1 tg tg1 : Expr} {scope : Scope} {own : List (Str × Nat)} {vs1 : List Nat} {xs : List D} {g g1 : TG} {yn : Str} {py pos spos : Pos} (j : Nat) (zs : Nat → List D) (y : Nat → Nat → D) (ρt : Nat → Rho) (ρu : Nat → Nat → Rho) (nw : Bool) (hc : X.calm = true) (hN : X.N.Nodup) (hi : RI X W p ρ c tg iter xs c) (ok : BlkOk X.N X.env.scope scope own) (hv : ∀ i ∈ vs1, i ∈ own.map (·.2))
    (hg : ∀ (s : Shared) (H : Hp) (C : Addr) (cl : List (Str × Addr)) (fp : List Addr), PG (X.blk s H scope (compEnvC scope cl C X.env) fp) tg g) (hg1 : ∀ (s : Shared) (H : Hp) (C : Addr) (cl : List (Str × Addr)) (fp : List Addr), PG (X.blk s H scope (compEnvC scope cl C X.env) fp) tg1 g1)
    (hi1 : ∀ i d, xs[i]? = some d → ∀ (q : HD) (s : Shared) (H : Hp) (C : Addr) (cl : List (Str × Addr)) (fp : List Addr), RI (X.blk s H scope (compEnvC scope cl C X.env) fp) Wf q (ρt i) c tg1 iter1 (zs i) c)
    (htg : ∀ i d, xs[i]? = some d → TgOk X.K g (own.map (·.2)) d (wipeR ρ (own.map (·.2))) (ρt i)) (htg1 : ∀ i j d e, xs[i]? = some d → (zs i)[j]? = some e → TgOk X.K g1 vs1 e (wipeR (ρt i) vs1) (ρu i j))
    (he : ∀ i j d e, xs[i]? = some d → (zs i)[j]? = some e → ∀ (q : HD) (s : Shared) (H : Hp) (C : Addr) (cl : List (Str × Addr)) (fp : List Addr), RE (X.blk s H scope (compEnvC scope cl C X.env) fp) Wf q (ρu i j) c elt (.val (y i j) nw c))
    (hz : ∀ i j d, xs[i]? = some d → j < (zs i).length → (flat2 zs y i).length + j < 100000) (hy : X.N[j]? = some yn := by rfl) (hyl : X.env.scope.names.lookup yn = some .local := by rfl)
    (hsw : swapsWith (.ListComp elt [⟨tg, iter, [], 0⟩, ⟨tg1, iter1, [], 0⟩] scope pos) (some (.Name yn py)) spos.line X.env = pure true := by exact sw_true rfl rfl rfl (by decide +kernel))
    (hs : ∀ x, foldedSetIterable iter X.env x = pure x := by intro _; rfl) (hs1 : ∀ env x, foldedSetIterable iter1 env x = pure x := by intro _ _; rfl) :
    RS X W p ρ c (.Assign [.Name yn py] (.ListComp elt [⟨tg, iter, [], 0⟩, ⟨tg1, iter1, [], 0⟩] scope pos) spos) (.nx (ρ.set j (some (.lst ⟨false, true⟩ (flat2 zs y xs.length)))) c) :=
  ps_imp (ps_setLc2 (wi1 := tiU2 X.K xs zs ρt c) (te := teU2 X.K xs zs y ρu nw c) hc hN hy hyl hsw hi ok hv hg (fun _ _ _ _ _ => pts_nil) (fun s H C cl fp => ⟨fun pins s' σ H' Q I ⟨q, i, d, hd, h⟩ => (hi1 i d hd q s H C cl fp).run pins s' σ H' Q I h⟩) hg1 (fun _ _ _ _ _ => pts_nil)
    (fun s H C cl fp => ⟨fun pins s' σ H' Q I ⟨q, i, j, d, e, hd, he', h⟩ => (he i j d e hd he' q s H C cl fp).run pins s' σ H' Q I h⟩) hs hs1) fun De σ H h => lc2_read htg htg1 hz σ H _ ⟨h.1, fun v H1 e1 p1 dv _ => h.2 _ H1 e1 ((h.1.mono e1 p1).set j dv)⟩
end
/-! ### a list that grows in a loop -/
section
variable {X : Cx} {W : WX} {p : HD} {ρ : Rho} {c : PC} {tg it t e : Expr} {pos pos' pos0 pos1 pos2 pos3 pos4 pos5 pos6 posE : Pos} {x : Str} {xs : List D} {g : TG} {vs : List Nat} {so : SO} {rest : List Stmt}
/-- x = []; for tg in it: if t: x.append(e); the rest -/
theorem rss_grow (i : Nat) (b : Nat → Bool) (y : Nat → D) (nws : Nat → Bool) (ρs : Addr → Rho) (ρt : Addr → Nat → Rho) (hp : PassesOwn (model X.prog X.w) X.A X.env X.xe) (hc : X.calm = true) (hN : X.N.Nodup)
    (h0 : ∀ L, Less (ρs L) (ρ.set i (some (.cls L)))) (hi : ∀ L, RI X W (p.also L) (ρs L) c tg it xs c) (hg : PG X tg g) (htg : ∀ L j d, xs[j]? = some d → TgOk X.K g vs d (ρs L) (ρt L j))
    (ht : ∀ L j d, xs[j]? = some d → RT X W (p.also L) (ρt L j) c t (.val (b j) c)) (he : ∀ L j d, xs[j]? = some d → b j = true → RE X W (p.also L) (ρt L j) c e (.val (y j) (nws j) c)) (hl : ∀ L j, Less (ρs L) (ρt L j)) (hsl : ∀ L, (ρs L)[i]? = some (some (.cls L)))
    (hr : ∀ L, RSs X W p ((ρs L).set i (some (.lst ⟨true, true⟩ (coll b y xs.length)))) c rest so) (hz : xs.length < 100000) (hlen : ∀ L, (ρs L).length = ρ.length := by intro L; rfl) (hx : X.N[i]? = some x := by rfl) (hloc : Loc X.env.scope x := by first | exact Or.inl rfl | exact Or.inr rfl) (hvis : Vis X.env.scope x := by first | exact Or.inl rfl | exact Or.inr (Or.inl rfl) | exact Or.inr (Or.inr rfl))
    (hs0 : swapsWith (.List [] pos0) (some (.Name x pos')) pos.line X.env = pure false := by rfl) (hf : X.fn x = true ∨ X.env.scope.names.lookup x = some .local := by first | exact .inl rfl | exact .inr rfl) (hd : (x == ("__debug__" : Str)) = false := by decide) (hcd : (x == ("__classdict__" : Str)) = false := by decide)
    (hs : ∀ x, foldedSetIterable it X.env x = pure x := by intro _; rfl) (hline : (pos4.endLine == pos5.line) = true := by rfl) (hsw : swapsWith (.Call (.Attribute (.Name x pos3) "append" pos4) [e] [] pos5) none pos6.line X.env = pure false := by rfl)
    (hbase : attributeBase (.Name x pos3) "append" X.env (eval (.Name x pos3) X.env) = eval (.Name x pos3) X.env := by rfl) (hst : starEach [e] X.env = (false, eval e X.env) :: starEach [] X.env := by rfl)
    (hfew : ((backTo pos5 (starEach [e] X.env)).all (fun x => !x.1) && (backToKw pos5 (keywordEach [] X.env)).all (fun x => x.1.isSome)
      && decide (([e] : List Expr).length + ([] : List Keyword).length + (if ([] : List Keyword).isEmpty then 0 else 1) < 30)) = true := by rfl) :
    RSs X W p ρ c (.Assign [.Name x pos'] (.List [] pos0) pos :: .For tg it [.If t [.Expr (.Call (.Attribute (.Name x pos3) "append" pos4) [e] [] pos5) pos6] [] pos2] [] pos1 :: rest) so := by
  have PIU : PI X tg it (fun σ H R => ∃ L, tI X.K W (p.also L) (ρs L) c xs c σ H R) := ⟨fun pins s σ H Q I ⟨L, h⟩ => (hi L).run pins s σ H Q I h⟩
  have PTU : PT X t (fun σ H Q => ∃ L j d, xs[j]? = some d ∧ tT X.K W (p.also L) (ρt L j) c (.val (b j) c) σ H Q) := ⟨fun pins s σ H Q I ⟨L, j, d, h1, h2⟩ => (ht L j d h1).run pins s σ H Q I h2⟩
  have PEU : PE X e (fun σ H Q => ∃ L j d, xs[j]? = some d ∧ b j = true ∧ tE X.K W (p.also L) (ρt L j) c (.val (y j) (nws j) c) σ H Q) := ⟨fun pins s σ H Q I ⟨L, j, d, h1, h2, h3⟩ => (he L j d h1 h2).run pins s σ H Q I h3⟩
  have PRU : PSs X rest (fun De σ H => ∃ L, tSt X.K W p ((ρs L).set i (some (.lst ⟨true, true⟩ (coll b y xs.length)))) c so De σ H) := ⟨fun pins s σ H De I ⟨L, h⟩ => (hr L).run pins s σ H De I h⟩
  have PB := pe_bm (cpos := pos5) (apos := pos4) PySem.F.plainAttrs_list PySem.F.slot_list_append PySem.F.type_list_append mt_append (pe_var (pos := pos3) hx hvis hd hcd) (pa_cons PEU (pa_nil (X := X)) hst) hbase hfew hline hst
  refine pss_imp (pss_cons (ps_set hN hx hloc (pe_lstB (pa_nil (X := X))) hs0 hf) (pss_cons (ps_for hp hc PIU hg (pss_one (ps_if PTU (pss_one (ps_expr PB hsw)) pss_nil)) hs) PRU)) fun De σ H hh => ?_
  have sr := st_sr hh
  refine ⟨Nat.zero_le _, fun L nL nS => ?_⟩
  have nLp : p.pl ≠ some L := fun z => by
    rw [sr.pl.1 L z] at nL
    cases nL
  have e01 : Ext p H (upd H L (.lst [])) := Ext.new nL
  have sL : SR X.K (p.also L) (upd H L (.lst [])) (σ.set i (some (.ref L))) (ρs L) c := by
    have a : SR X.K (p.also L) (upd H L (.lst [])) (σ.set i (some (.ref L))) (ρ.set i (some (.cls L))) c := by
      refine SR.set ⟨sr.len, fun j d hj => ?_, ?_⟩ i (.cls L)
      · obtain ⟨v, h1, h2⟩ := sr.at' j d hj
        exact ⟨v, h1, (h2.also nL).mono (ext_also e01)⟩
      · exact ⟨(sr.pl.upd nL).1, fun a ha => (List.mem_cons.mp ha).elim (fun z => by rw [z]; exact ⟨_, upd_same⟩) fun z => (sr.pl.upd nL).2 a z⟩
    exact a.weak (by rw [(h0 L).len]; exact a.len) (h0 L).get fun i v d _ z => z
  refine ⟨L, sL, fun J H1 e1 p1 yl => ?_⟩
  have hL1 : H1 L = some (.lst []) := e1 L _ nLp upd_same
  have e1' : Ext p H H1 := e01.trans e1
  refine ⟨fun j m σ2 H2 => m = xs.length - j ∧ j ≤ xs.length ∧ Ext p H H2 ∧ (∃ us, H2 L = some (.lst us) ∧ DVs X.K (p.also L) H2 us (coll b y j)) ∧ SR X.K (p.also L) H2 σ2 (ρs L) c ∧ Sub (hide (p.also L) H1) (hide (p.also L) H2), ⟨xs.length, by simp, Nat.zero_le _, e1', ⟨[], hL1, .nil⟩, sL.mono e1 p1, fun _ _ z => z⟩, ?_⟩
  rintro j m σ2 H2 ⟨rfl, hj', e2, ⟨us, hL, dus⟩, s2, sb2⟩
  obtain ⟨hstop, hgo⟩ := yl (p.also L) c H2 rfl sb2 s2.pl
  by_cases hlt : j < xs.length
  · have hd' : xs[j]? = some xs[j] := List.getElem?_eq_getElem hlt
    obtain ⟨g1, g2⟩ := hgo j _ hd'
    refine .inr ⟨g1, fun σ' H' => Ext p H H' ∧ (∃ us, H' L = some (.lst us) ∧ DVs X.K (p.also L) H' us (coll b y (j + 1))) ∧ SR X.K (p.also L) H' σ' (ρs L) c ∧ Sub (hide (p.also L) H1) (hide (p.also L) H'), fun σ' H' ⟨a1, a2, a3, a4⟩ => ⟨xs.length - (j + 1), by omega, rfl, hlt, a1, a2, a3, a4⟩, fun v H3 hy => ?_⟩
    obtain ⟨e3, p3, dx⟩ := g2 v H3 hy
    refine (htg L j _ hd').run (p.also L) c v _ H3 _ dx (s2.mono e3 p3) p3 fun σ3 s3 _ => ⟨L, j, _, hd', s3, fun H4 e4 p4 => ?_⟩
    have e24 : Ext (p.also L) H2 H4 := fun a o n h => e4 a o n (e3 a o n h)
    have hL4 : H4 L = some (.lst us) := e24 L _ nLp hL
    have s4 : SR X.K (p.also L) H4 σ3 (ρt L j) c := s3.mono e4 p4
    have back : ∀ {H5 : Hp}, SR X.K (p.also L) H5 σ3 (ρt L j) c → SR X.K (p.also L) H5 σ3 (ρs L) c := fun {H5} s5 => s5.weak (by rw [(hl L j).len]; exact s5.len) (hl L j).get fun i v d _ z => z
    cases hb : b j with
    | false =>
      refine iteF ⟨fun a o n h => e24 a o n (e2 a o n h), ⟨us, hL4, ?_⟩, back s4, fun q o z => e24.hide q o (sb2 q o z)⟩
      show DVs X.K (p.also L) H4 us (coll b y j ++ if b j then [y j] else [])
      rw [hb, if_neg Bool.false_ne_true, List.append_nil]
      exact dus.mono e24
    | true =>
      obtain ⟨v0, q1, q2⟩ := (back s4).at' i _ (hsl L)
      cases q2
      refine iteT ⟨_, q1, Or.inl ⟨rfl, _, Or.inl (Or.inl hL4)⟩, L, j, _, hd', hb, s4, fun v H5 e5 p5 dv _ => ?_⟩
      have e25 : Ext (p.also L) H2 H5 := e24.trans e5
      have hL5 : H5 L = some (.lst us) := e25 L _ nLp hL
      have sb : Sub (hide (p.also L) H5) (hide (p.also L) (upd H5 L (.lst (us ++ [v])))) := fun a o h => app_at h
      have p6 : PoolAt (p.also L) (upd H5 L (.lst (us ++ [v]))) c := ⟨fun a z => by
        rw [upd_ne (fun q => nLp (by rw [← q]; exact z))]
        exact p5.1 a z, fun a ha => by
        obtain ⟨o, ho⟩ := p5.2 a ha
        by_cases hn : a = L
        · exact ⟨_, by rw [hn]; exact upd_same⟩
        · exact ⟨o, by rw [upd_ne hn]; exact ho⟩⟩
      refine ⟨L, us, v, rfl, rfl, hL5, ?_, ?_, ⟨us ++ [v], upd_same, ?_⟩, back ((s4.mono e5 p5).sub sb p6), fun q o z => sb q o (e25.hide q o (sb2 q o z))⟩
      · rw [dus.length]
        have := coll_len b y j
        exact sz_lt (by omega)
      · intro a o n h
        rw [upd_ne (ne_of_none h nL)]
        exact e25 a o n (e2 a o n h)
      · show DVs X.K (p.also L) _ (us ++ [v]) (coll b y j ++ if b j then [y j] else [])
        rw [hb, if_pos rfl]
        exact DVs.app ((dus.mono e25).sub sb fun _ z => z) (.cons (dv.sub sb fun _ z => z) .nil)
  · have e : j = xs.length := by omega
    subst e
    refine .inl ⟨hstop, L, ?_⟩
    have p2 : PoolAt p H2 c := ⟨s2.pl.1, fun a ha => s2.pl.2 a (List.mem_cons_of_mem _ ha)⟩
    have nh : ¬ p.hid L := by
      rintro (z | z)
      · exact nLp z
      · obtain ⟨o, ho⟩ := sr.pl.2 L z
        rw [nL] at ho
        cases ho
    have hh2 : hide p H2 L = some (.lst us) := by
      rw [hide_ne nh]
      exact hL
    obtain ⟨v0, q1, q2⟩ := s2.at' i _ (hsl L)
    cases q2
    have s6 : SR X.K p H2 σ2 ((ρs L).set i (some (.lst ⟨true, true⟩ (coll b y xs.length)))) c := by
      refine ⟨by rw [List.length_set]; exact s2.len, fun k d hk => ?_, p2⟩
      by_cases ki : i = k
      · subst ki
        have hlt' : i < (ρs L).length := (List.getElem?_eq_some_iff.mp (hsl L)).1
        rw [List.getElem?_set_self hlt'] at hk
        cases Option.some.inj (Option.some.inj hk)
        exact ⟨_, q1, .lst ⟨fun _ => nS, fun _ => hh2⟩ (.inl (.inl hh2)) (dus.sub sub_also fun _ z => z)⟩
      · rw [List.getElem?_set_ne ki] at hk
        obtain ⟨v1, h1, h2⟩ := s2.at' k d hk
        exact ⟨v1, h1, h2.less⟩
    cases so with
    | nx ρ' c' => exact ⟨s6, fun σ5 H5 e5 s5 => hh.2 σ5 H5 (e2.trans e5) s5⟩
    | rt d nw c' => exact ⟨s6, fun v H5 e5 p5 dv hn => hh.2 v H5 (e2.trans e5) p5 dv fun q => (hn q).back e2⟩
    | ex C fs c' => exact ⟨s6, fun ρ' dx fv σ5 H5 e5 s5 hl' hx' hf' => hh.2 ρ' dx fv σ5 H5 (e2.trans e5) s5 (by rw [hl', List.length_set]; exact hlen L) hx' hf'⟩
end
end LA
namespace LA
open PySem PySem.Spec PyProof.Rows L2
/-! ### defs with default values -/
structure Def1D (P : Program) (w : World) (K : PySem.W.Frag) (mg : Str → Option Value) (base : Heap) (k : Nat) (x : Str) (ps : List Str) (R : FSpec) (dvs : List V) : Prop where
  ex : ∃ (f : Addr) (fd : FuncData) (ds : List Value), FnOk P w K mg base (L2.CX P w) k f fd ps (spF K R) ∧ mg x = some (.ref f) ∧ PySem.W.keepIn K (.ref f) = true ∧ Vals dvs ds ∧ Binds K fd ps ds
section
variable {X : Cx} {W : WX} {p : HD} {ρ : Rho} {c c1 c2 : PC} {e : Expr} {es : List Expr} {pos xp : Pos} {d : D} {nw : Bool} {k : Nat} {x : Str} {ps : List Str} {R : FSpec} {ds es' : List D} {o : EO} {dvs : List V}
theorem re_c1D (tk : Takes X W) (T : Def1D X.prog X.w X.K X.mg X.base k x ps R dvs) (hr : Room k X.A) (ha : RA X W p ρ c (e :: es) (.val ds c1)) (hd : ∀ q H, DVs X.K q H dvs es') (ho : R (ds ++ es') c1 o)
    (hg : Gl X x := by rfl) (hdb : (x == ("__debug__" : Str)) = false := by decide) (he : starEach (e :: es) X.env = (false, eval e X.env) :: starEach es X.env := by rfl) (hpl : (backTo pos (starEach es X.env)).any (·.1) = false := by rfl) :
    RE X W p ρ c (.Call (.Name x xp) (e :: es) [] pos) o := by
  obtain ⟨f, fd, us, G, hm, hk, hv, hb⟩ := T.ex
  exact pe_imp (pe_callSD G hr hg hm hk hb hv (fun σ => passAt tk σ) ha hdb he hpl) fun σ H Q h => ⟨tE_sr h, fun vs H1 e1 p1 dvs' => ⟨p, c1, ds ++ es', o, DVs.app dvs' (hd p H1), p1, ho, fo_at h e1⟩⟩
end
section
variable {P : Program} {w : World} {K : PySem.W.Frag} {mg : Str → Option Value} {base : Heap} {x qual : Str} {f : Addr} {fd : FuncData} {N ps : List Str} {k : Nat} {R : FSpec} {params : Arguments} {body : List Stmt} {scope : Scope} {dvs : List V} {kws : List (Str × V)}
theorem fn_excD (F : FunD K x qual params body scope dvs kws f fd) (S : FnScope N ps scope) (hl : ∀ ds c o, R ds c o → ds.length = ps.length)
    (bd : ∀ (cdv : Value) (A : Around) (outer : List Env) (s : Shared) (H : Hp) (E : XK), Room k (A.deeper (envOfC qual scope s.heap.objs.size f cdv)) → ∀ (p : HD) (ds : List D) (c : PC) (o : EO), R ds c o →
      Takes (cxOf (L2.CX P w) P w K mg base N qual scope f cdv A outer s H E) (fun cls d _ H => E cls d H) →
      BodyOk (cxOf (L2.CX P w) P w K mg base N qual scope f cdv A outer s H E) (fun cls d _ H => E cls d H) p (startR N ds) c body o) : FnOk P w K mg base (L2.CX P w) (k + 1) f fd ps (spF K R) := by
  refine F.ok S (fun vs H Q E h => spF_len hl h) (fun cdv A outer s H vs Q E hr h => ?_)
  obtain ⟨p, c, ds, o, h1, h2, h3, h4⟩ := h
  have b := bd cdv A outer s H E hr p ds c o h3 (takes_of rfl rfl rfl rfl)
  cases o with
  | val d nw c' =>
    rcases b with b | ⟨rfl, ρ', b⟩
    · exact ⟨_, b, sr_start h1 h2, fun v H1 e1 p1 dv hn => h4 v H1 e1 p1 dv hn⟩
    · exact ⟨_, b, sr_start h1 h2, fun σ' H1 e1 s1 => h4 .non H1 e1 s1.pl .non fun _ => New.sc (by intro a q; cases q)⟩
  | ex C fs c' => exact ⟨_, b, sr_start h1 h2, fun ρ' dx fv σ' H1 e1 s1 _ hx hf => h4 dx fv H1 e1 s1.pl hx hf⟩
end
/-! ### a pool that is made for one call -/
section
variable {X : Cx} {W : WX} {z : List Addr} {ρ : Rho} {c c1 c2 c3 : PC} {e : Expr} {es : List Expr} {pos xp : Pos} {d : D} {k : Nat} {x : Str} {ps : List Str} {R : FSpec} {ds : List D}
theorem re_pcall (T : Def0 X.prog X.w X.K X.mg X.base k x ps R) (hr : Room k X.A) (ha : RE X W ⟨none, z⟩ ρ c e (.val (.lst ⟨true, true⟩ c1.ds) true c3)) (hs : ∀ q : HD, RA X W q ρ c3 es (.val ds c3)) (hsc : ∀ d ∈ ds, ∃ v, scD d = some v) (hd : ∃ v, scD d = some v) (ho : R (.pool :: ds) c1 (.val d false c2))
    (hg : Gl X x := by rfl) (hdb : (x == ("__debug__" : Str)) = false := by decide) (he : starEach (e :: es) X.env = (false, eval e X.env) :: starEach es X.env := by rfl) (hpl : (backTo pos (starEach es X.env)).any (·.1) = false := by rfl) :
    RE X W ⟨none, z⟩ ρ c (.Call (.Name x xp) (e :: es) [] pos) (.val d false c3) := by
  obtain ⟨f, fd, G, hm, hk, hb⟩ := T.ex
  refine pe_imp (pe_call G hr hg hm hk hb .nil pass0 (pa_cons ha (hs ⟨none, z⟩) he) hdb he hpl) fun σ H Q ⟨s, kk⟩ => ⟨s, fun v H1 e1 p1 dv hn => ⟨s.mono e1 p1, fun us H2 e2 p2 dus => ?_⟩⟩
  cases dv with
  | @lst a vs _ _ hb' hq r =>
    have ev := pool_vals r
    subst ev
    obtain ⟨na, _⟩ := hn rfl a rfl
    have ha1 : H1 a = some (.lst c1.vals) := (hide_some (hb'.2 rfl)).1
    have ha2 : H2 a = some (.lst c1.vals) := e2 a _ (by intro y; cases y) ha1
    show spF X.K R ((V.ref a :: us) ++ []) H2 Q E0
    rw [List.append_nil]
    have p2' : PoolAt ⟨some a, z⟩ H2 c1 := ⟨fun b y => by
      cases y
      exact ha2, p2.2⟩
    refine ⟨⟨some a, z⟩, c1, _, .val d false c2, .cons (.pool rfl) (dvs_scal dus hsc), p2', ho, fun v3 H3 e3 p3 dv3 _ => ?_⟩
    have eo : Ext ⟨none, z⟩ H H3 := fun b o _ q => e3 b o (fun y => by cases y; rw [na] at q; cases q) (e2 b o (by intro y; cases y) (e1 b o (by intro y; cases y) q))
    refine kk v3 H3 eo ⟨(fun b y => by cases y), p3.2⟩ ?_ fun y => nomatch y
    obtain ⟨w, hw⟩ := hd
    cases dv3 <;> first | (cases hw; done) | constructor
end
end LA
namespace LA
open PySem PySem.Spec PyProof.Rows L2
section
variable {X : Cx} {W : WX} {p : HD} {ρ ρ' : Rho} {c c1 : PC} {e a : Expr} {pos : Pos} {d : D} {nw k : Bool} {K : PySem.W.Frag}
theorem re_not (h : RE X W p ρ c a (.val (.bl k) nw c1)) : RE X W p ρ c (.UnaryOp .Not a pos) (.val (.bl (!k)) true c1) :=
  pe_imp (pe_not h) fun σ H Q ⟨s, kk⟩ => ⟨s, fun v H1 e1 p1 dv _ => by
    cases dv
    exact ⟨k, rfl, kk _ H1 e1 p1 (.bl _) fun _ => New.sc (by intro a h; cases h)⟩⟩
theorem ov_neB {i j : Bool} : OV K p rNe (.bl i) (.bl j) (.bl (!decide (i = j))) true c := by
  have h := ov_neS (K := K) (p := p) (c := c) (x := .bl i) (y := .bl j) rfl rfl rfl
  rw [dec_v (f := V.bl) fun x y e => by cases e; rfl] at h
  exact h
/-! lists added, repeated -/
theorem ov_cat {g1 g2 : G} {xs ys : List D} (h1 : g1.t = true) (h2 : g2.t = true) (hz : xs.length + ys.length ≤ 100000) : OV K p rCat (.lst g1 xs) (.lst g2 ys) (.lst ⟨false, true⟩ (xs ++ ys)) true c := fun v u H Q dv du hp k => by
  cases dv with
  | lst hb hq r =>
    cases du with
    | lst hb2 hq2 r2 =>
      refine ⟨_, _, _, _, rfl, rfl, (hide_some (hb.2 h1)).1, (hide_some (hb2.2 h2)).1, by rw [r.length, r2.length]; exact sz_le hz, fun q hn => ?_⟩
      exact k _ _ (Ext.new hn) (hp.upd hn) (.lst ⟨(fun z => nomatch z), fun _ => hide_upd hp hn⟩ (.inl (.inl (hide_upd hp hn))) ((r.mono (Ext.new hn)).app (r2.mono (Ext.new hn)))) fun _ => New.of hp hn
theorem dvs_rep {H : Hp} {us : List V} {ds : List D} (h : DVs K p H us ds) : ∀ n : Nat, DVs K p H (List.replicate n us).flatten (List.replicate n ds).flatten
  | 0 => .nil
  | n + 1 => by
    rw [List.replicate_succ, List.replicate_succ, List.flatten_cons, List.flatten_cons]
    exact h.app (dvs_rep h n)
theorem ov_rep {g1 : G} {xs : List D} {n : Int} (h1 : g1.t = true) (hn0 : -100000 ≤ n) (hn1 : n ≤ 100000) (hz : xs.length * n.toNat ≤ 100000) : OV K p L2.rRep (.lst g1 xs) (.int n) (.lst ⟨false, true⟩ (List.replicate n.toNat xs).flatten) true c := fun v u H Q dv du hp k => by
  cases du
  cases dv with
  | lst hb hq r =>
    have e1 : (-(2 ^ 63) : Int) = -9223372036854775808 := by decide
    have e2 : (2 ^ 63 : Int) = 9223372036854775808 := by decide
    refine ⟨_, n, _, rfl, rfl, (hide_some (hb.2 h1)).1, by omega, by omega, by rw [r.length]; exact sz_le hz, fun q hn => ?_⟩
    exact k _ _ (Ext.new hn) (hp.upd hn) (.lst ⟨(fun z => nomatch z), fun _ => hide_upd hp hn⟩ (.inl (.inl (hide_upd hp hn))) ((dvs_rep r _).mono (Ext.new hn))) fun _ => New.of hp hn
end
/-! isinstance -/
def isIntD : D → Bool
  | .int _ => true
  | .bl _ => true
  | _ => false
def isBlD : D → Bool
  | .bl _ => true
  | _ => false
theorem isi_int {d : D} {t : String} (h : tyD d = some t) : kitB t "int" = some (isIntD d) := by
  cases d <;> first | (cases h; done) | (cases h; first | exact (show kitB _ "int" = some false by decide +kernel) | exact (show kitB _ "int" = some true by decide +kernel))
theorem isi_bool {d : D} {t : String} (h : tyD d = some t) : kitB t "bool" = some (isBlD d) := by
  cases d <;> first | (cases h; done) | (cases h; first | exact (show kitB _ "bool" = some false by decide +kernel) | exact (show kitB _ "bool" = some true by decide +kernel))
/-! ### a name that is made anew in each turn -/
def tNew (K : PySem.W.Frag) (p : HD) (ρ : Rho) (c : PC) (i : Nat) (d : D) : TS := fun De σ H => SR K p H σ ρ c ∧ ∀ v H', Ext p H H' → PoolAt p H' c → DV K p H' v d → New p H v → De.nx (σ.set i (some v)) H'
section
variable {X : Cx} {W : WX} {p : HD} {ρ : Rho} {c : PC} {K : PySem.W.Frag}
theorem rs_lc2N {elt iter iter1 tg tg1 : Expr} {scope : Scope} {own : List (Str × Nat)} {vs1 : List Nat} {xs : List D} {g g1 : TG} {yn : Str} {py pos spos : Pos} (j : Nat) (zs : Nat → List D) (y : Nat → Nat → D) (ρt : Nat → Rho) (ρu : Nat → Nat → Rho) (nw : Bool) (hc : X.calm = true) (hN : X.N.Nodup) (hi : RI X W p ρ c tg iter xs c) (ok : BlkOk X.N X.env.scope scope own) (hv : ∀ i ∈ vs1, i ∈ own.map (·.2))
    (hg : ∀ (s : Shared) (H : Hp) (C : Addr) (cl : List (Str × Addr)) (fp : List Addr), PG (X.blk s H scope (compEnvC scope cl C X.env) fp) tg g) (hg1 : ∀ (s : Shared) (H : Hp) (C : Addr) (cl : List (Str × Addr)) (fp : List Addr), PG (X.blk s H scope (compEnvC scope cl C X.env) fp) tg1 g1)
    (hi1 : ∀ i d, xs[i]? = some d → ∀ (q : HD) (s : Shared) (H : Hp) (C : Addr) (cl : List (Str × Addr)) (fp : List Addr), RI (X.blk s H scope (compEnvC scope cl C X.env) fp) Wf q (ρt i) c tg1 iter1 (zs i) c)
    (htg : ∀ i d, xs[i]? = some d → TgOk X.K g (own.map (·.2)) d (wipeR ρ (own.map (·.2))) (ρt i)) (htg1 : ∀ i j d e, xs[i]? = some d → (zs i)[j]? = some e → TgOk X.K g1 vs1 e (wipeR (ρt i) vs1) (ρu i j))
    (he : ∀ i j d e, xs[i]? = some d → (zs i)[j]? = some e → ∀ (q : HD) (s : Shared) (H : Hp) (C : Addr) (cl : List (Str × Addr)) (fp : List Addr), RE (X.blk s H scope (compEnvC scope cl C X.env) fp) Wf q (ρu i j) c elt (.val (y i j) nw c))
    (hz : ∀ i j d, xs[i]? = some d → j < (zs i).length → (flat2 zs y i).length + j < 100000) (hy : X.N[j]? = some yn := by rfl) (hyl : X.env.scope.names.lookup yn = some .local := by rfl)
    (hsw : swapsWith (.ListComp elt [⟨tg, iter, [], 0⟩, ⟨tg1, iter1, [], 0⟩] scope pos) (some (.Name yn py)) spos.line X.env = pure true := by exact sw_true rfl rfl rfl (by decide +kernel))
    (hs : ∀ x, foldedSetIterable iter X.env x = pure x := by intro _; rfl) (hs1 : ∀ env x, foldedSetIterable iter1 env x = pure x := by intro _ _; rfl) :
    PS X (.Assign [.Name yn py] (.ListComp elt [⟨tg, iter, [], 0⟩, ⟨tg1, iter1, [], 0⟩] scope pos) spos) (tNew X.K p ρ c j (.lst ⟨false, true⟩ (flat2 zs y xs.length))) :=
  ps_imp (ps_setLc2 (wi1 := tiU2 X.K xs zs ρt c) (te := teU2 X.K xs zs y ρu nw c) hc hN hy hyl hsw hi ok hv hg (fun _ _ _ _ _ => pts_nil) (fun s H C cl fp => ⟨fun pins s' σ H' Q I ⟨q, i, d, hd, h⟩ => (hi1 i d hd q s H C cl fp).run pins s' σ H' Q I h⟩) hg1 (fun _ _ _ _ _ => pts_nil)
    (fun s H C cl fp => ⟨fun pins s' σ H' Q I ⟨q, i, j, d, e, hd, he', h⟩ => (he i j d e hd he' q s H C cl fp).run pins s' σ H' Q I h⟩) hs hs1) fun De σ H h => lc2_read htg htg1 hz σ H _ ⟨h.1, fun v H1 e1 p1 dv hn => h.2 v H1 e1 p1 dv (hn rfl)⟩
theorem rss_renew {tg it e0 : Expr} {st : Stmt} {pos pos' pos1 pos2 pos3 : Pos} {x : Str} {xs : List D} {g : TG} {vs : List Nat} (i : Nat) (dd : Nat → D) (ρs ρt : Nat → Rho) (hp : PassesOwn (model X.prog X.w) X.A X.env X.xe) (hc : X.calm = true) (hN : X.N.Nodup)
    (h0 : RE X W p ρ c e0 (.val (dd 0) true c)) (hr0 : Less (ρs 0) (ρ.set i (some (dd 0)))) (hi : RI X W p (ρs 0) c tg it xs c) (hg : PG X tg g) (htg : ∀ j d, xs[j]? = some d → TgOk X.K g vs d (ρs j) (ρt j))
    (hst : ∀ j d, xs[j]? = some d → PS X st (tNew X.K p (ρt j) c i (dd (j + 1)))) (hrt : ∀ j, Less (ρs (j + 1)) ((ρt j).set i (some (dd (j + 1))))) (hsl : ∀ j, (ρs j)[i]? = some (some (dd j))) (hlt : i < ρ.length := by exact Nat.le_of_ble_eq_true rfl)
    (hx : X.N[i]? = some x := by rfl) (hloc : Loc X.env.scope x := by first | exact Or.inl rfl | exact Or.inr rfl) (hvis : Vis X.env.scope x := by first | exact Or.inl rfl | exact Or.inr (Or.inl rfl) | exact Or.inr (Or.inr rfl)) (hs0 : swapsWith e0 (some (.Name x pos')) pos.line X.env = pure false := by rfl)
    (hf : X.fn x = true ∨ X.env.scope.names.lookup x = some .local := by first | exact .inl rfl | exact .inr rfl) (hd : (x == ("__debug__" : Str)) = false := by decide) (hcd : (x == ("__classdict__" : Str)) = false := by decide) (hs : ∀ x, foldedSetIterable it X.env x = pure x := by intro _; rfl) :
    RSs X W p ρ c [.Assign [.Name x pos'] e0 pos, .For tg it [st] [] pos1, .Return (some (.Name x pos2)) pos3] (.rt (dd xs.length) true c) := by
  have PB : PSs X [st] (fun De σ H => ∃ j d, xs[j]? = some d ∧ tNew X.K p (ρt j) c i (dd (j + 1)) De σ H) := pss_one ⟨fun pins s σ H De I ⟨j, d, h1, h2⟩ => (hst j d h1).run pins s σ H De I h2⟩
  refine pss_imp (pss_cons (ps_set hN hx hloc h0 hs0 hf) (pss_cons (ps_for hp hc hi hg PB hs) (pss_one (ps_ret (pe_var hx hvis hd hcd))))) fun De σ H hh => ⟨hh.1, fun v H1 e1 p1 dv hn => ?_⟩
  have sA : SR X.K p H1 (σ.set i (some v)) (ρs 0) c := by
    have a := (hh.1.mono e1 p1).set i dv
    exact a.weak (by rw [hr0.len]; exact a.len) hr0.get fun _ _ _ _ z => z
  have il : i < σ.length := by rw [hh.1.len]; exact hlt
  refine ⟨sA, fun J H2 e2 p2 yl => ?_⟩
  have e02 : Ext p H H2 := e1.trans e2
  refine ⟨fun j m σ3 H3 => m = xs.length - j ∧ j ≤ xs.length ∧ Ext p H2 H3 ∧ SR X.K p H3 σ3 (ρs j) c ∧ ∃ u, σ3[i]? = some (some u) ∧ New p H u, ⟨xs.length, by simp, Nat.zero_le _, Ext.refl _ _, sA.mono e2 p2, v, by rw [List.getElem?_set_self il], hn rfl⟩, ?_⟩
  rintro j m σ3 H3 ⟨rfl, hj', e3, s3, u, hu, nu⟩
  obtain ⟨hstop, hgo⟩ := yl p c H3 rfl e3.hide s3.pl
  by_cases hlt' : j < xs.length
  · have hd' : xs[j]? = some xs[j] := List.getElem?_eq_getElem hlt'
    obtain ⟨g1, g2⟩ := hgo j _ hd'
    refine .inr ⟨g1, fun σ' H' => Ext p H2 H' ∧ SR X.K p H' σ' (ρs (j + 1)) c ∧ ∃ u, σ'[i]? = some (some u) ∧ New p H u, fun σ' H' ⟨a1, a2, a3⟩ => ⟨xs.length - (j + 1), by omega, rfl, hlt', a1, a2, a3⟩, fun y H4 hy => ?_⟩
    obtain ⟨e4, p4, dx⟩ := g2 y H4 hy
    refine (htg j _ hd').run p c y _ H4 _ dx (s3.mono e4 p4) p4 fun σ5 s5 _ => ⟨j, _, hd', s5, fun w H6 e6 p6 dw nw => ?_⟩
    have e04 : Ext p H H4 := (e02.trans e3).trans e4
    have i5 : i < σ5.length := by
      rw [s5.len]
      have := (List.getElem?_eq_some_iff.mp (hsl (j + 1))).1
      rw [(hrt j).len, List.length_set] at this
      exact this
    refine ⟨(e3.trans e4).trans e6, ?_, w, by rw [List.getElem?_set_self i5], nw.back e04⟩
    have a := (s5.mono e6 p6).set i dw
    exact a.weak (by rw [(hrt j).len]; exact a.len) (hrt j).get fun _ _ _ _ z => z
  · have e : j = xs.length := by omega
    subst e
    refine .inl ⟨hstop, u, hu, ?_⟩
    obtain ⟨u', h1, h2⟩ := s3.at' i _ (hsl _)
    rw [hu] at h1
    cases Option.some.inj (Option.some.inj h1)
    exact hh.2 _ H3 (e02.trans e3) s3.pl h2 fun _ => nu
end
/-! ### collected lists, more -/
theorem range_get {α : Type} (l : List Nat) (f : Nat → α) : (List.range l.length).map (fun i => f (l.getD i 0)) = l.map f := by
  refine List.ext_getElem? fun i => ?_
  by_cases hi : i < l.length
  · simp [hi, List.getElem?_range]
  · simp [hi]
theorem all_get (l : List Nat) (f : Nat → Bool) : ((List.range l.length).all fun i => f (l.getD i 0)) = l.all f := by
  have h := congrArg (fun x : List Bool => x.all id) (range_get l f)
  rw [List.all_map, List.all_map] at h
  exact h
theorem coll_none (b : Nat → Bool) (y : Nat → D) (n : Nat) : (coll b y n).isEmpty = (List.range n).all fun i => !b i := by
  rw [coll_some, List.isEmpty_map]
  induction (List.range n) with
  | nil => rfl
  | cons a r ih =>
    rw [List.filter_cons, List.all_cons]
    cases b a <;> simp [ih]
theorem coll_congr {b b' : Nat → Bool} {y : Nat → D} : ∀ {n : Nat}, (∀ i, i < n → b i = b' i) → coll b y n = coll b' y n
  | 0, _ => rfl
  | n + 1, h => by
    show coll b y n ++ (if b n then [y n] else []) = coll b' y n ++ (if b' n then [y n] else [])
    rw [coll_congr fun i hi => h i (by omega), h n (by omega)]
theorem ints_flat (b : Nat → Bool) (n : Nat) : (coll b (fun i => D.int (i : Nat)) n).all flatOk = true := by
  rw [coll_some, List.all_map, List.all_eq_true]
  intro i _
  rfl
/-! ### what raises within arguments -/
section
variable {X : Cx} {W : WX} {p : HD} {ρ : Rho} {c c1 : PC} {e : Expr} {es : List Expr} {pos ps : Pos} {C : Addr} {fs : List (Str × D)} {nw : Bool} {g : G} {xs : List D}
theorem ra_ex (h : RE X W p ρ c e (.ex C fs c1)) (hs : starEach (e :: es) X.env = (false, eval e X.env) :: starEach es X.env := by rfl) : RA X W p ρ c (e :: es) (.ex C fs c1) :=
  pa_imp (pa_cons h (⟨fun _ _ _ _ _ _ _ z => z.elim⟩ : PA X es (fun _ _ _ => False)) hs) fun σ H Q h => h
theorem re_callBX {id : String} {x : Str} {r : List V → Hp → VK → Prop} (hc : CallR X (.builtin id) r) (hm : X.mg x = none) (hv : bootBuiltins x = some (.builtin id)) (ha : RA X W p ρ c (e :: es) (.ex C fs c1))
    (hg : Gl X x := by rfl) (hn : x ≠ "__name__" := by decide) (hdb : (x == ("__debug__" : Str)) = false := by decide)
    (he : starEach (e :: es) X.env = (false, eval e X.env) :: starEach es X.env := by rfl) (hpl : (backTo pos (starEach es X.env)).any (·.1) = false := by rfl) : RE X W p ρ c (.Call (.Name x ps) (e :: es) [] pos) (.ex C fs c1) :=
  pe_imp (pe_callB hc hg hm hv ha hn hdb he hpl) fun σ H Q h => h
/-- a list of which no more is told than that it may be written -/
theorem re_dull (h : RE X W p ρ c e (.val (.lst g xs) nw c1)) : RE X W p ρ c e (.val (.lst ⟨false, g.t⟩ xs) nw c1) := pe_imp h fun σ H Q ⟨s, k⟩ => ⟨s, fun v H1 e1 p1 dv hn => k v H1 e1 p1 (by
  cases dv with
  | lst hb hq r => exact .lst ⟨(fun z => nomatch z), hb.2⟩ hq r) hn⟩
end
/-! ### defs whose guards are in view -/
structure FnG (P : Program) (w : World) (K : PySem.W.Frag) (mg : Str → Option Value) (base : Heap) (k : Nat) (f : Addr) (fd : FuncData) (ps : List Str) (sp : Sp) : Prop where
  len : ∀ (vs : List V) (Hs : Hp) (R : VK) (Ex : XK), sp vs Hs R Ex → vs.length = ps.length
  run : ∀ (pl : Around) (up : List Env) (sh : Shared) (Hs : Hp) (ag : Args) (us : List Value) (vs : List V) (R : VK), pl.guards = some [] → Room k pl → Env0 P w K mg base pl up sh Hs → BindsTo sh fd ag (ps.zip us) → Vals vs us → sp vs Hs R E0 →
    codeAny (model P w) pl (.call (.ref f) ag) (CR CX0 up P w Hs sh R E0) sh
structure DefG (P : Program) (w : World) (K : PySem.W.Frag) (mg : Str → Option Value) (base : Heap) (k : Nat) (x : Str) (ps : List Str) (R : FSpec) : Prop where
  ex : ∃ (f : Addr) (fd : FuncData), FnG P w K mg base k f fd ps (spF K R) ∧ mg x = some (.ref f) ∧ PySem.W.keepIn K (.ref f) = true ∧ Binds K fd ps []
section
variable {P : Program} {w : World} {K : PySem.W.Frag} {mg : Str → Option Value} {base : Heap} {x qual : Str} {st : Stmt} {f : Addr} {fd : FuncData} {N ps : List Str} {k : Nat} {R : FSpec}
theorem fn_g (F : Fun K x qual st f fd) (S : FnScope N ps (defScope st)) (hl : ∀ ds c o, R ds c o → ds.length = ps.length) (hv : ∀ ds c o, R ds c o → ∃ d nw c', o = .val d nw c')
    (body : ∀ (cdv : Value) (A : Around) (outer : List Env) (s : Shared) (H : Hp), A.guards = some [] → Room k (A.deeper (envOfC qual (defScope st) s.heap.objs.size f cdv)) → ∀ (p : HD) (ds : List D) (c : PC) (o : EO), R ds c o →
      BodyOk (cxOf CX0 P w K mg base N qual (defScope st) f cdv A outer s H E0).nox Wf p (startR N ds) c (defBody st) o) : FnG P w K mg base (k + 1) f fd ps (spF K R) := by
  refine ⟨fun vs Hs Q Ex h => spF_len hl h, fun pl up sh Hs ag us vs Q gu room e0 bind rv h => ?_⟩
  refine call_at F S room e0 bind rv (spF_len hl h) fun cdv hr => ?_
  obtain ⟨p, c, ds, o, h1, h2, h3, h4⟩ := h
  have b := body cdv pl up sh Hs gu hr p ds c o h3
  obtain ⟨d, nw, c', rfl⟩ := hv _ _ _ h3
  rcases b with b | ⟨rfl, ρ', b⟩
  · exact ⟨_, b.nox, sr_start h1 h2, fun v H1 e1 p1 dv hn => h4 v H1 e1 p1 dv hn⟩
  · exact ⟨_, b.nox, sr_start h1 h2, fun σ' H1 e1 s1 => h4 .non H1 e1 s1.pl .non fun _ => New.sc (by intro a q; cases q)⟩
end
section
variable {X : Cx} {W : WX} {p : HD} {ρ : Rho} {c c1 c2 : PC} {e : Expr} {es : List Expr} {pos xp : Pos} {d : D} {nw : Bool} {k : Nat} {x : Str} {ps : List Str} {R : FSpec} {ds : List D}
theorem re_cG (T : DefG X.prog X.w X.K X.mg X.base k x ps R) (hr : Room k X.A) (gu : X.A.guards = some []) (ha : RA X W p ρ c (e :: es) (.val ds c1)) (ho : R ds c1 (.val d nw c2))
    (hg : Gl X x := by rfl) (hdb : (x == ("__debug__" : Str)) = false := by decide) (he : starEach (e :: es) X.env = (false, eval e X.env) :: starEach es X.env := by rfl) (hpl : (backTo pos (starEach es X.env)).any (·.1) = false := by rfl) :
    RE X W p ρ c (.Call (.Name x xp) (e :: es) [] pos) (.val d nw c2) := by
  obtain ⟨f, fd, F, hm, hk, hb⟩ := T.ex
  have P1 : PE X (.Call (.Name x xp) (e :: es) [] pos) (fun σ H Q => tA X.K W p ρ c (.val ds c1) σ H fun vs H1 => spF X.K R vs H1 Q E0) := by
    refine ⟨fun pins s σ H Q I h => ?_⟩
    refine wpAny_Call_Name_kw (ld_glob I hg hm ?_ hdb)
    refine PySem.W.callWith_K (h₀ := X.base) I.ok.mod.kin hk (thn (ha.run pos pins s σ H _ I h) fun us sh ⟨vs, H1, I1, r, q⟩ => ⟨I1.kIn, ?_⟩) he hpl
    have bd := hb sh us I1.kIn (by rw [List.append_nil, ← r.length]; exact F.len _ _ _ _ q)
    rw [List.append_nil] at bd
    refine wpAny_call (codeAny_mono (F.run X.A X.stack sh H1 ⟨us, []⟩ us vs Q gu hr I1.env0 bd r q) fun rs s' hq => ?_)
    cases rs with
    | error ev =>
      exact False.elim hq
    | ok fl =>
      cases fl with
      | ret u => exact I1.after hq
      | next => exact False.elim hq
      | brk => exact False.elim hq
      | cont => exact False.elim hq
  exact pe_imp P1 fun σ H Q ⟨s, kk⟩ => ⟨s, fun vs H1 e1 p1 dvs => ⟨p, c1, ds, .val d nw c2, dvs, p1, ho, fun v H2 e2 p2 dv hn => kk v H2 (e1.trans e2) p2 dv fun q => (hn q).back e1⟩⟩
end
section
variable {X : Cx} {W : WX} {p : HD} {ρ : Rho} {c c1 c2 : PC} {a b cc : Expr} {pos : Pos} {d1 d2 d3 : D} {n1 n2 n3 : Bool}
theorem rt_chain {op op' : CmpOp} {r r' : R2} {k1 k2 : Bool} (ho : OpR X (compareOp op) r) (ho' : OpR X (compareOp op') r') (ha : RE X W p ρ c a (.val d1 n1 c1)) (hb : RE X W p ρ c1 b (.val d2 n2 c2)) (hc : RE X W p ρ c2 cc (.val d3 n3 c2)) (h1 : OV X.K p r d1 d2 (.bl k1) true c2) (h2 : OV X.K p r' d2 d3 (.bl k2) true c2)
    (hm : lastMarks [op, op'] [b, cc] = false := by with_unfolding_all rfl) : RT X W p ρ c (.Compare a [op, op'] [b, cc] pos) (.val (k1 && k2) c2) :=
  pt_imp (pt_chain ho ho' ha hb hc hm) fun σ H Q ⟨s, k⟩ => ⟨s, fun v H1 e1 p1 dv _ => ⟨s.mono e1 p1, fun u H2 e2 p2 du _ => h1 v u H2 _ (dv.mono e2) du p2 fun w H3 e3 p3 dw _ => by
    cases dw
    refine ⟨k1, rfl, ?_⟩
    have e13 : Ext p H H3 := (e1.trans e2).trans e3
    cases k1 with
    | false => exact iteF ⟨false, rfl, k H3 e13 p3⟩
    | true => exact iteT ⟨s.mono e13 p3, fun w H4 e4 p4 dw _ => h2 u w H4 _ (du.mono (e3.trans e4)) dw p4 fun z H5 e5 p5 dz _ => by
        cases dz
        exact ⟨k2, rfl, k H5 ((e13.trans e4).trans e5) p5⟩⟩⟩⟩
end
section
variable {X : Cx} {W : WX} {p : HD} {ρ : Rho} {c c1 c2 c3 : PC} {e t t2 : Expr} {A : List Stmt} {pos pos' pos2 pos3 pos4 pos5 pos6 pos7 pos8 : Pos} {d : D} {k : Bool} {iN : Nat}
/-- x = e; if t: ..; if t2: x.append(0) -/
theorem rss_foundC (i : Nat) {x : Str} {ca : Const} {va : V} (hca : PE X (.Constant ca iN pos7) (tC va)) (hN : X.N.Nodup) (h : RE X W p ρ c e (.val d true c1)) (ht : RT X W p (ρ.set i (some d)) c1 t (.val false c2)) (ht2 : RT X W p (ρ.set i (some d)) c2 t2 (.val k c3))
    (hl : k = true → ∃ g xs, d = .lst g xs ∧ g.t = true ∧ xs.length < 100000) (hi : X.N[i]? = some x := by rfl) (hx : Loc X.env.scope x := by first | exact Or.inl rfl | exact Or.inr rfl) (hv : Vis X.env.scope x := by first | exact Or.inl rfl | exact Or.inr (Or.inl rfl) | exact Or.inr (Or.inr rfl)) (hs : swapsWith e (some (.Name x pos')) pos.line X.env = pure false := by rfl)
    (hf : X.fn x = true ∨ X.env.scope.names.lookup x = some .local := by first | exact .inl rfl | exact .inr rfl) (hd : (x == ("__debug__" : Str)) = false := by decide) (hcd : (x == ("__classdict__" : Str)) = false := by decide) (hline : (pos4.endLine == pos5.line) = true := by rfl)
    (hsw : swapsWith (.Call (.Attribute (.Name x pos3) "append" pos4) [.Constant ca iN pos7] [] pos5) none pos6.line X.env = pure false := by rfl) (hlt : i < ρ.length := by exact Nat.le_of_ble_eq_true rfl)
    (hbase : attributeBase (.Name x pos3) "append" X.env (eval (.Name x pos3) X.env) = eval (.Name x pos3) X.env := by rfl)
    (hfew : ((backTo pos5 (starEach [.Constant ca iN pos7] X.env)).all (fun x => !x.1) && (backToKw pos5 (keywordEach [] X.env)).all (fun x => x.1.isSome)
      && decide (([.Constant ca iN pos7] : List Expr).length + ([] : List Keyword).length + (if ([] : List Keyword).isEmpty then 0 else 1) < 30)) = true := by rfl) :
    RSs X W p ρ c [.Assign [.Name x pos'] e pos, .If t A [] pos2, .If t2 [.Expr (.Call (.Attribute (.Name x pos3) "append" pos4) [.Constant ca iN pos7] [] pos5) pos6] [] pos8] (.nx (ρ.set i none) c3) := by
  have PA' := pe_bm (cpos := pos5) (apos := pos4) PySem.F.plainAttrs_list PySem.F.slot_list_append PySem.F.type_list_append mt_append (pe_var (pos := pos3) hi hv hd hcd) (pa_cons hca (pa_nil (X := X))) hbase hfew hline
  refine pss_imp (pss_cons (ps_set hN hi hx h hs hf) (pss_cons (ps_if ht pss_never pss_nil) (pss_one (ps_if ht2 (pss_one (ps_expr PA' hsw)) pss_nil)))) fun De σ H hh => ⟨hh.1, fun v H1 e1 p1 dv hn => ?_⟩
  have s1 := (hh.1.mono e1 p1).set i dv
  refine ⟨s1, fun H2 e2 p2 => iteF ⟨s1.mono e2 p2, fun H3 e3 p3 => ?_⟩⟩
  have s3 : SR X.K p H3 σ ρ c3 := hh.1.mono ((e1.trans e2).trans e3) p3
  have done : ∀ H4, H4 = H3 ∨ (∃ a o, H a = none ∧ p.pl ≠ some a ∧ H3 a = some o ∧ ∃ u, H4 = upd H3 a u) → De.nx (σ.set i (some v)) H4 := fun H4 q => by
    have eo : Ext p H H4 := by
      rcases q with rfl | ⟨a, o, na, _, _, u, rfl⟩
      · exact (e1.trans e2).trans e3
      · intro b o n y
        rw [upd_ne (fun z => by rw [z, na] at y; cases y)]
        exact ((e1.trans e2).trans e3) b o n y
    have po : PoolAt p H4 c3 := by
      rcases q with rfl | ⟨a, o, na, np, ho, u, rfl⟩
      · exact p3
      · refine ⟨fun b z => ?_, fun b z => ?_⟩
        · rw [upd_ne (fun y => np (by rw [← y]; exact z))]
          exact p3.1 b z
        · by_cases y : b = a
          · exact ⟨u, by rw [y]; exact upd_same⟩
          · obtain ⟨o2, q2⟩ := p3.2 b z
            exact ⟨o2, by rw [upd_ne y]; exact q2⟩
    refine hh.2 _ H4 eo ⟨by rw [List.length_set, List.length_set]; exact hh.1.len, fun j d' y => ?_, po⟩
    have ne : i ≠ j := fun z => by
      subst z
      rw [List.getElem?_set_self hlt] at y
      cases y
    rw [List.getElem?_set_ne ne] at y ⊢
    obtain ⟨w, y1, y2⟩ := hh.1.at' j d' y
    exact ⟨w, y1, y2.mono eo⟩
  cases k with
  | false => exact iteF (done H3 (.inl rfl))
  | true =>
    obtain ⟨g, xs, rfl, hg, hz⟩ := hl rfl
    cases dv with
    | @lst a vs _ _ hb hq r =>
      obtain ⟨na, np⟩ := hn rfl a rfl
      have ha : H1 a = some (.lst vs) := (hide_some (hb.2 hg)).1
      have ha3 : H3 a = some (.lst vs) := e3 a _ np (e2 a _ np ha)
      have hs' : (σ.set i (some (V.ref a)))[i]? = some (some (V.ref a)) := by
        rw [List.getElem?_set_self]
        rw [hh.1.len]
        exact hlt
      refine iteT ⟨.ref a, hs', Or.inl ⟨rfl, _, Or.inl (Or.inl ha3)⟩, a, vs, va, rfl, rfl, ha3, ?_, done _ (.inr ⟨a, _, na, np, ha3, _, rfl⟩)⟩
      rw [r.length]
      exact sz_lt hz
end
/-! ### longer lists shown -/
theorem sz_big {d : PyData} (h1 : d.canLay0 = true) (h2 : PyData.intsShort 13 d = true) (h3 : d.weight ≤ 1000000) : d.shown.length ≤ sizeLine := by
  have h := PyData.shown_le 13 (by decide) d (PyData.leavesShort_of_canLay0 13 d h1 h2)
  have e : sizeLine = 16777216 := by decide
  omega
theorem shows_big {g : G} {ds : List D} (h : ds.all smallD = true) (hl : ds.length ≤ 5000) : Shows (.lst g ds) := by
  obtain ⟨b1, b2, b3, b4, b5, b6, b7⟩ := small_all h
  refine ⟨?_, ?_, ?_, sz_big ?_ ?_ ?_⟩
  · unfold toPy PyData.hasDict okD
    rw [b7, b1]
    simp
  · unfold toPy PyData.showable
    exact b2
  · unfold toPy PyData.depth
    omega
  · unfold toPy PyData.canLay0
    exact b3
  · unfold toPy PyData.intsShort
    exact b4
  · unfold toPy PyData.weight
    omega
theorem small_text {l : List Nat} (hl : l.length ≤ 100) (h : ∀ n ∈ l, n < 0x110000) : smallD (.str (tx l)) = true := by
  have ok : PyData.strOk (tx l) = true := by
    unfold PyData.strOk
    rw [← Array.all_toList, tx_list, List.all_eq_true]
    intro n hn
    exact decide_eq_true (h n hn)
  show (PyData.strOk (tx l) && decide ((tx l).length ≤ 100)) = true
  rw [ok, tx_len, decide_eq_true hl]
  rfl
end LA
namespace K12
open PySem PySem.Spec PyProof.Rows L2 LA
def top (i : Nat) : Stmt := PySem.Challenge.pw_leastlooks_k12_inputs_and_patterns.main.body.getD i (.Pass ⟨0, 0, 0, 0⟩)
abbrev sPool : Stmt := top 21
abbrev sDraw : Stmt := top 22
/-! ### the draws as functions of the pool -/
def cellOf (ns : List Int) (k : Int) : Int := ns.getD k.toNat 0
def bigOf (x : Int) : Bool := decide (x ≥ 10 ^ 18)
def poolOf (ns : List Int) (k : Int) : PC := ⟨cellOf ns k, 0, bigOf (cellOf ns k), k⟩
def drawV (c : PC) (m : Int) : Int := if c.big then c.cell % m else (((((c.cell * 48271 + (c.cnt + 1) * 104729 + c.k * 8191 + 11) % 2147483647) ^ (3 : Int).toNat + (c.cnt + 1) * 7919) % 2147483629) ^ (5 : Int).toNat % 2147483587) / 16 % m
def drawC (c : PC) (m : Int) : PC := ⟨if c.big then c.cell / m else c.cell, c.cnt + 1, c.big, c.k⟩
theorem drawV_in {c : PC} {m : Int} (h : 0 < m) : 0 ≤ drawV c m ∧ drawV c m < m := by
  unfold drawV
  split
  · exact ⟨Int.emod_nonneg _ (by omega), Int.emod_lt_of_pos _ h⟩
  · exact ⟨Int.emod_nonneg _ (by omega), Int.emod_lt_of_pos _ h⟩
def poolR : FSpec := fun ds c o => ∃ (g : G) (ns : List Int) (k : Nat), ds = [.lst g (ns.map D.int), .int (k : Nat)] ∧ o = .val (.lst ⟨true, true⟩ (poolOf ns k).ds) true c
def drawR : FSpec := fun ds c o => ∃ m : Int, ds = [.pool, .int m] ∧ 0 < m ∧ m < 1073741824 ∧ o = .val (.int (drawV c m)) false (drawC c m)
/-- built-in names that the text leaves alone -/
structure Glb (mg : Str → Option Value) : Prop where
  len : mg "len" = none
  int : mg "int" = none
  range : mg "range" = none
  list : mg "list" = none
  str : mg "str" = none
  isi : mg "isinstance" = none
  all : mg "all" = none
  zip : mg "zip" = none
  repr : mg "repr" = none
  min : mg "min" = none
  max : mg "max" = none
  enu : mg "enumerate" = none
  bool : mg "bool" = none
section
variable {P : Program} {w : World} {K : PySem.W.Frag} {mg : Str → Option Value} {base : Heap}
theorem scPool : FnScope ["_law_script", "_law_k", "_law_cell"] ["_law_script", "_law_k"] (defScope sPool) := ⟨rfl, rfl, rfl, by decide +kernel, rfl, by decide +kernel, by decide +kernel⟩
theorem ok_pool {f : Addr} {fd : FuncData} (G : Glb mg) (F : Fun K "_law_pool" "_law_pool" sPool f fd) : FnOk P w K mg base CX0 1 f fd ["_law_script", "_law_k"] (spF K poolR) := by
  refine fn_val F scPool (fun ds c o h => ?_) (fun ds c o h => ?_) (fun cdv A outer s H E hr p ds c o h => ?_)
  · obtain ⟨g, ns, k, rfl, _⟩ := h
    rfl
  · obtain ⟨g, ns, k, _, rfl⟩ := h
    exact ⟨_, _, _, rfl⟩
  · obtain ⟨g, ns, k, rfl, rfl⟩ := h
    refine .inl ?_
    refine rss_cons (ρ1 := [some (.lst g (ns.map D.int)), some (.int (k : Nat)), some (.int (cellOf ns k))]) (c1 := c) (rs_set (nw := false) 2 scPool.nd (re_if (k := decide ((k : Int) < ((ns.map D.int).length : Nat))) (rt_cmp op_lt (re_var 1) (re_callB call_len G.len PySem.boot_len (ra_cons (re_var 0) ra_nil) cv_lenL) ov_ib) (fun hk => ?_) (fun hk => ?_))) ?_
    · refine re_ix ix_seq (re_var 0) (re_var 1) (ov_ixL rfl ?_)
      have hk := of_decide_eq_true hk
      rw [List.length_map] at hk
      rw [List.getElem?_map]
      unfold cellOf
      rw [List.getD_eq_getElem?_getD]
      have : k < ns.length := by omega
      simp [this]
    · have hk := of_decide_eq_false hk
      rw [List.length_map] at hk
      have e : cellOf ns k = 0 := by
        unfold cellOf
        rw [List.getD_eq_getElem?_getD, List.getElem?_eq_none (by simp; omega)]
        rfl
      rw [e]
      exact re_old re_int
    · exact rss_ret (rs_ret (re_lst (ra_cons (re_var 2) (ra_cons re_int (ra_cons (re_cmp op_ge (re_var 2) (re_bin op_pow re_int re_int (ov_cii (by show (0 : Int) ≤ 18 ∧ (18 : Int) ≤ 1000000 ∧ _; decide))) ov_ib) (ra_cons (re_var 1) ra_nil)))) (by show 4 ≤ 100000; decide)))
theorem scDraw : FnScope ["_law_pool_here", "_law_limit", "_law_digit", "_law_seed", "_law_mixed"] ["_law_pool_here", "_law_limit"] (defScope sDraw) := ⟨rfl, rfl, rfl, by decide +kernel, rfl, by decide +kernel, by decide +kernel⟩
theorem small_pow {x m : Int} (h : 0 < m) (hm : m ≤ 2147483648) : (x % m).natAbs < 2 ^ 64 := by
  have h1 := Int.emod_nonneg x (show m ≠ 0 by omega)
  have h2 := Int.emod_lt_of_pos x h
  have : (2 : Nat) ^ 64 = 18446744073709551616 := by decide
  omega
theorem cmul_r {i j : Int} (h1 : -1000000000 < j) (h2 : j < 1000000000) : CMul i j := by
  have e1 : (-(2 ^ 64) : Int) = -18446744073709551616 := by decide
  have e2 : (2 ^ 64 : Int) = 18446744073709551616 := by decide
  exact .inr ⟨by omega, by omega⟩
theorem ok_draw {f : Addr} {fd : FuncData} (G : Glb mg) (F : Fun K "_law_draw" "_law_draw" sDraw f fd) : FnOk P w K mg base CX0 1 f fd ["_law_pool_here", "_law_limit"] (spF K drawR) := by
  refine fn_val F scDraw (fun ds c o h => ?_) (fun ds c o h => ?_) (fun cdv A outer s H E hr p ds c o h => ?_)
  · obtain ⟨m, rfl, _⟩ := h
    rfl
  · obtain ⟨m, _, _, _, rfl⟩ := h
    exact ⟨_, _, _, rfl⟩
  · obtain ⟨m, rfl, h0, h1, rfl⟩ := h
    obtain ⟨cell, cnt, big, k⟩ := c
    refine .inl (rss_cons (c1 := ⟨cell, cnt + 1, big, k⟩) (rs_pool 0 1 (re_bin op_add (re_pool 0 1 rfl) re_int ov_ii) (by decide) rfl) ?_)
    cases big with
    | true =>
      refine rss_ret (rs_if (kb := true) (rt_val (re_pool 0 2 rfl)) (fun _ => ?_) fun z => nomatch z)
      refine rss_cons (rs_set 2 scDraw.nd (re_bin op_mod (re_callT call_int1 G.int PyProof.Rows.boot_int (ra_cons (re_pool 0 0 rfl) ra_nil) cv_int) (re_var 1) (ov_cii h0))) ?_
      refine rss_cons (c1 := ⟨cell / m, cnt + 1, true, k⟩) (rs_pool 0 0 (re_bin op_fdiv (re_callT call_int1 G.int PyProof.Rows.boot_int (ra_cons (re_pool 0 0 rfl) ra_nil) cv_int) (re_var 1) (ov_cii ⟨h0, h1⟩)) (by decide) rfl) ?_
      exact rss_ret (rs_ret (re_var 2))
    | false =>
      refine rss_cons (rs_if (kb := false) (rt_val (re_pool 0 2 rfl)) (fun z => nomatch z) fun _ => rss_nil) ?_
      refine rss_cons (rs_set 3 scDraw.nd (re_bin op_add (re_bin op_add (re_bin op_add (re_bin op_mul (re_pool 0 0 rfl) re_int (ov_cii (cmul_r (by decide) (by decide)))) (re_bin op_mul (re_pool 0 1 rfl) re_int (ov_cii (cmul_r (by decide) (by decide)))) ov_ii)
        (re_bin op_mul (re_pool 0 3 rfl) re_int (ov_cii (cmul_r (by decide) (by decide)))) ov_ii) re_int ov_ii)) ?_
      refine rss_cons (rs_set 4 scDraw.nd (re_bin op_mod (re_callT call_int1 G.int PyProof.Rows.boot_int (ra_cons (re_var 3) ra_nil) cv_int) re_int (ov_cii (by show (0 : Int) < _; decide)))) ?_
      refine rss_cons (rs_set 4 scDraw.nd (re_bin op_mod (re_callT call_int1 G.int PyProof.Rows.boot_int (ra_cons (re_bin op_add (re_bin op_pow (re_var 4) re_int (ov_cii ⟨by decide, by decide, small_pow (by decide) (by decide)⟩)) (re_bin op_mul (re_pool 0 1 rfl) re_int (ov_cii (cmul_r (by decide) (by decide)))) ov_ii) ra_nil) cv_int) re_int (ov_cii (by show (0 : Int) < _; decide)))) ?_
      refine rss_ret (rs_ret (re_old (re_bin op_mod (re_bin op_fdiv (re_callT call_int1 G.int PyProof.Rows.boot_int (ra_cons (re_bin op_mod (re_bin op_pow (re_var 4) re_int (ov_cii ⟨by decide, by decide, small_pow (by decide) (by decide)⟩)) re_int (ov_cii (by show (0 : Int) < _; decide))) ra_nil) cv_int) re_int (ov_cii ⟨by decide, by decide⟩)) (re_var 1) (ov_cii h0))))
end
abbrev sOdd : Stmt := top 24
def oddL : List D := [.non, .bl true, .bl false, .int (-1), .int 7, .int ((10 : Int) ^ (30 : Int).toNat), .str "2", .str "0110010", .str " 01", .lst ⟨true, true⟩ [.str "0"], .tup [.str "0", .str "1"], .dct [(.inr "0", .int 1)], .lst ⟨true, true⟩ [.non], .str "x"]
def oddV (c : PC) : D := oddL.getD (drawV c 14).toNat .non
def oddR : FSpec := fun ds c o => ds = [.pool] ∧ o = .val (oddV c) false (drawC c 14)
section
variable {P : Program} {w : World} {K : PySem.W.Frag} {mg : Str → Option Value} {base : Heap}
abbrev DrawD (P : Program) (w : World) (K : PySem.W.Frag) (mg : Str → Option Value) (base : Heap) := Def0 P w K mg base 1 "_law_draw" ["_law_pool_here", "_law_limit"] drawR
section
variable {X : Cx} {W : WX} {p : HD} {ρ : Rho} {c : PC} {p1 p2 p3 p4 p5 p6 : Pos} {n1 n2 : Nat}
theorem re_draw (i : Nat) {m : Int} (T : DrawD X.prog X.w X.K X.mg X.base) (hr : Room 1 X.A) (h0 : 0 < m) (h1 : m < 1073741824) (hN : X.N[i]? = some ("_law_pool_here" : Str) := by rfl) (hρ : ρ[i]? = some (some .pool) := by rfl) (hv : Vis X.env.scope ("_law_pool_here" : Str) := by first | exact Or.inl rfl | exact Or.inr (Or.inl rfl) | exact Or.inr (Or.inr rfl))
    (hg : Gl X "_law_draw" := by rfl) : RE X W p ρ c (.Call (.Name "_law_draw" p2) [.Name "_law_pool_here" p3, .Constant (.int m) n2 p4] [] p5) (.val (.int (drawV c m)) false (drawC c m)) :=
  re_c0 T hr (ra_cons (re_var i hN hρ hv) (ra_cons re_int ra_nil rfl) rfl) ⟨m, rfl, h0, h1, rfl⟩ hg
end
theorem scOdd : FnScope ["_law_pool_here", "_law_some"] ["_law_pool_here"] (defScope sOdd) := ⟨rfl, rfl, rfl, by decide +kernel, rfl, by decide +kernel, by decide +kernel⟩
theorem ok_odd {f : Addr} {fd : FuncData} (G : Glb mg) (T : DrawD P w K mg base) (F : Fun K "_law_odd" "_law_odd" sOdd f fd) : FnOk P w K mg base CX0 2 f fd ["_law_pool_here"] (spF K oddR) := by
  refine fn_val F scOdd (fun ds c o h => ?_) (fun ds c o h => ?_) (fun cdv A outer s H E hr p ds c o h => ?_)
  · obtain ⟨rfl, _⟩ := h
    rfl
  · obtain ⟨_, rfl⟩ := h
    exact ⟨_, _, _, rfl⟩
  · obtain ⟨rfl, rfl⟩ := h
    have hd := drawV_in (c := c) (show (0 : Int) < 14 by decide)
    refine .inl (rss_cons (c1 := c) (ρ1 := [some .pool, some (.lst ⟨true, true⟩ oddL)]) (rs_set 1 scOdd.nd (re_lst (ra_cons re_non (ra_cons re_bl (ra_cons re_bl (ra_cons (re_neg re_int) (ra_cons re_int
      (ra_cons (re_bin op_pow re_int re_int (ov_cii (by show (0 : Int) ≤ 30 ∧ (30 : Int) ≤ 1000000 ∧ _; decide))) (ra_cons re_str (ra_cons re_str (ra_cons re_str (ra_cons (re_lst (ra_cons re_str ra_nil) (by show 1 ≤ 100000; decide)) (ra_cons (re_tup (ra_cons re_str (ra_cons re_str ra_nil)) (by show 2 ≤ 100000; decide))
      (ra_cons (re_dct1 fun q => re_int) (ra_cons (re_lst (ra_cons re_non ra_nil) (by show 1 ≤ 100000; decide)) (ra_cons re_str ra_nil)))))))))))))) (by show 14 ≤ 100000; decide))) ?_)
    refine rss_ret (rs_ret (re_ix ix_seq (re_var 1) (re_c0 T hr (ra_cons (re_var 0) (ra_cons (re_callB call_len G.len PySem.boot_len (ra_cons (re_var 1) ra_nil) cv_lenL) ra_nil)) ⟨14, rfl, by decide, by decide, rfl⟩) (ov_ixL (j := (drawV c 14).toNat) (Int.toNat_of_nonneg hd.1).symm ?_)))
    unfold oddV
    rw [List.getD_eq_getElem?_getD]
    have hl : (drawV c 14).toNat < oddL.length := by show _ < 14; omega
    rw [List.getElem?_eq_getElem hl]
    rfl
end
/-- what the law may hand in -/
structure Fit (d : D) : Prop where
  ty : ∃ t, tyD d = some t
  len : ∀ l, d = .str (tx l) → l.length ≤ 100
  ok : ∀ l, d = .str (tx l) → ∀ n ∈ l, n < 0x110000
  sh : Shows (.lst ⟨true, true⟩ [.str "pattern", d])
  sh2 : Shows (.lst ⟨true, true⟩ [.str "count", d])
def cds : D → List Nat
  | .str s => s.cps.toList
  | _ => []
theorem cds_tx (l : List Nat) : cds (.str (tx l)) = l := tx_list l
theorem ok_pats {l : List Nat} (h : ∀ n ∈ l, n < 0x110000) : PyData.strOk (tx l) = true := by
  unfold PyData.strOk
  rw [← Array.all_toList, tx_list, List.all_eq_true]
  intro n hn
  exact decide_eq_true (h n hn)
theorem fit_text {l : List Nat} (hl : l.length ≤ 100) (h : ∀ n ∈ l, n < 0x110000) : Fit (.str (tx l)) := by
  refine ⟨⟨_, rfl⟩, fun l' e => ?_, fun l' e => ?_, shows_list (ds := [.str "pattern", .str (tx l)]) ?_ (by show 2 ≤ 90; decide), shows_list (ds := [.str "count", .str (tx l)]) ?_ (by show 2 ≤ 90; decide)⟩
  · injection e with e
    rw [← tx_inj e]
    exact hl
  · injection e with e
    rw [← tx_inj e]
    exact h
  · show (smallD _ && (smallD _ && true)) = true
    have e : smallD (.str (tx l)) = true := by
      show (PyData.strOk (tx l) && decide ((tx l).length ≤ 100)) = true
      rw [ok_pats h, tx_len, decide_eq_true hl]
      rfl
    rw [e]
    decide +kernel
  · show (smallD _ && (smallD _ && true)) = true
    have e : smallD (.str (tx l)) = true := by
      show (PyData.strOk (tx l) && decide ((tx l).length ≤ 100)) = true
      rw [ok_pats h, tx_len, decide_eq_true hl]
      rfl
    rw [e]
    decide +kernel
theorem odd_fit : ∀ d ∈ oddL, Fit d := by
  have key : ∀ (s : Str), PyData.strOk s = true → s.length ≤ 100 → Fit (.str s) := fun s h1 h2 => by
    obtain ⟨l, rfl⟩ := str_tx s
    refine fit_text (by rw [tx_len] at h2; exact h2) fun n hn => ?_
    unfold PyData.strOk at h1
    rw [← Array.all_toList, tx_list, List.all_eq_true] at h1
    exact of_decide_eq_true (h1 n hn)
  have plain : ∀ d, (∃ t, tyD d = some t) → (∀ s, d ≠ .str s) → Shows (.lst ⟨true, true⟩ [.str "pattern", d]) → Shows (.lst ⟨true, true⟩ [.str "count", d]) → Fit d := fun d h1 h2 h3 h4 => ⟨h1, fun l e => absurd e (h2 _), fun l e => absurd e (h2 _), h3, h4⟩
  intro d hd
  simp only [oddL, List.mem_cons, List.not_mem_nil, or_false] at hd
  rcases hd with rfl | rfl | rfl | rfl | rfl | rfl | rfl | rfl | rfl | rfl | rfl | rfl | rfl | rfl
  · exact plain _ ⟨_, rfl⟩ (by intro s e; cases e) ⟨by decide +kernel, by decide +kernel, by decide +kernel, by decide +kernel⟩ ⟨by decide +kernel, by decide +kernel, by decide +kernel, by decide +kernel⟩
  · exact plain _ ⟨_, rfl⟩ (by intro s e; cases e) ⟨by decide +kernel, by decide +kernel, by decide +kernel, by decide +kernel⟩ ⟨by decide +kernel, by decide +kernel, by decide +kernel, by decide +kernel⟩
  · exact plain _ ⟨_, rfl⟩ (by intro s e; cases e) ⟨by decide +kernel, by decide +kernel, by decide +kernel, by decide +kernel⟩ ⟨by decide +kernel, by decide +kernel, by decide +kernel, by decide +kernel⟩
  · exact plain _ ⟨_, rfl⟩ (by intro s e; cases e) ⟨by decide +kernel, by decide +kernel, by decide +kernel, by decide +kernel⟩ ⟨by decide +kernel, by decide +kernel, by decide +kernel, by decide +kernel⟩
  · exact plain _ ⟨_, rfl⟩ (by intro s e; cases e) ⟨by decide +kernel, by decide +kernel, by decide +kernel, by decide +kernel⟩ ⟨by decide +kernel, by decide +kernel, by decide +kernel, by decide +kernel⟩
  · exact plain _ ⟨_, rfl⟩ (by intro s e; cases e) ⟨by decide +kernel, by decide +kernel, by decide +kernel, by decide +kernel⟩ ⟨by decide +kernel, by decide +kernel, by decide +kernel, by decide +kernel⟩
  · exact key _ (by decide +kernel) (by decide +kernel)
  · exact key _ (by decide +kernel) (by decide +kernel)
  · exact key _ (by decide +kernel) (by decide +kernel)
  · exact plain _ ⟨_, rfl⟩ (by intro s e; cases e) ⟨by decide +kernel, by decide +kernel, by decide +kernel, by decide +kernel⟩ ⟨by decide +kernel, by decide +kernel, by decide +kernel, by decide +kernel⟩
  · exact plain _ ⟨_, rfl⟩ (by intro s e; cases e) ⟨by decide +kernel, by decide +kernel, by decide +kernel, by decide +kernel⟩ ⟨by decide +kernel, by decide +kernel, by decide +kernel, by decide +kernel⟩
  · exact plain _ ⟨_, rfl⟩ (by intro s e; cases e) ⟨by decide +kernel, by decide +kernel, by decide +kernel, by decide +kernel⟩ ⟨by decide +kernel, by decide +kernel, by decide +kernel, by decide +kernel⟩
  · exact plain _ ⟨_, rfl⟩ (by intro s e; cases e) ⟨by decide +kernel, by decide +kernel, by decide +kernel, by decide +kernel⟩ ⟨by decide +kernel, by decide +kernel, by decide +kernel, by decide +kernel⟩
  · exact key _ (by decide +kernel) (by decide +kernel)
theorem oddV_fit (c : PC) : Fit (oddV c) := by
  have h := drawV_in (c := c) (show (0 : Int) < 14 by decide)
  unfold oddV
  refine odd_fit _ ?_
  have hl : (drawV c 14).toNat < oddL.length := by show _ < 14; omega
  rw [List.getD_eq_getElem?_getD, List.getElem?_eq_getElem hl]
  exact List.getElem_mem _
abbrev OddD (P : Program) (w : World) (K : PySem.W.Frag) (mg : Str → Option Value) (base : Heap) := Def0 P w K mg base 2 "_law_odd" ["_law_pool_here"] oddR
end K12
namespace K12
open PySem PySem.Spec PyProof.Rows L2 LA
def isW (a : List Nat) (d : D) : Bool := isStrD d && (decide ((cds d).length ≤ 6) && (cds d).all fun n => decide (n ∈ a))
def pats : List Nat := (Str.ofString "-01").cps.toList
def bins : List Nat := (Str.ofString "01").cps.toList
def wholeD : D → Bool
  | .int _ => true
  | _ => false
def posD (d : D) (n : Int) : Bool := match d with
  | .int i => decide (0 ≤ i) && decide (i < n)
  | _ => false
def wordR : FSpec := fun ds c o => ∃ d s, ds = [d, .str s] ∧ Fit d ∧ o = .val (.bl (isW s.cps.toList d)) true c
def isInR (s : Str) : FSpec := fun ds c o => ∃ d, ds = [d] ∧ Fit d ∧ o = .val (.bl (isW s.cps.toList d)) true c
def wholeR : FSpec := fun ds c o => ∃ d, ds = [d] ∧ Fit d ∧ o = .val (.bl (wholeD d)) true c
def posR : FSpec := fun ds c o => ∃ d n, ds = [d, .int n] ∧ Fit d ∧ o = .val (.bl (posD d n)) true c
section
variable {P : Program} {w : World} {K : PySem.W.Frag} {mg : Str → Option Value} {base : Heap} {B Cn fB fC : Addr}
theorem scWord : FnScope ["value", "letters", "one"] ["value", "letters"] (defScope (top 17)) := ⟨rfl, rfl, rfl, by decide +kernel, rfl, by decide +kernel, by decide +kernel⟩
theorem ok_word {f : Addr} {fd : FuncData} {tk : Tok} (G : Glb mg) (hM : mg "MOST" = some (.int 6 tk)) (F : Fun K "_is_word" "_is_word" (top 17) f fd) : FnOk P w K mg base CX0 1 f fd ["value", "letters"] (spF K wordR) := by
  refine fn_val F scWord (fun ds c o h => ?_) (fun ds c o h => ?_) (fun cdv A outer s H E hr p ds c o h => ?_)
  · obtain ⟨d, s, rfl, _⟩ := h
    rfl
  · obtain ⟨d, s, _, _, rfl⟩ := h
    exact ⟨_, _, _, rfl⟩
  · obtain ⟨d, z, rfl, fd', rfl⟩ := h
    obtain ⟨t, ht⟩ := fd'.ty
    obtain ⟨a, rfl⟩ := str_tx z
    rw [tx_list]
    refine .inl (rss_ret (rs_ret (re_and (k1 := isStrD d) (re_callB call_isi G.isi PyProof.Rows.boot_isinstance (ra_cons (re_var 0) (ra_cons (re_ty G.str PyProof.Rows.boot_str) ra_nil)) (cv_isi ht (isi_str ht))) (fun hk => ?_))))
    cases d with
    | str s =>
      obtain ⟨l, rfl⟩ := str_tx s
      have hl := fd'.len l rfl
      rw [cds_tx]
      refine re_and (n1 := true) (k1 := decide (l.length ≤ 6)) ?_ (fun hk => re_and1 ?_)
      · have e : decide (l.length ≤ 6) = decide (((l.length : Nat) : Int) ≤ 6) := by
          rw [Bool.eq_iff_iff]
          simp
          omega
        rw [e]
        exact re_cmp op_le (re_callB call_len G.len PySem.boot_len (ra_cons (re_var 0) ra_nil) (cv_lenT (by omega))) (re_gint hM) ov_ib
      · have key : ((List.range (chars (tx l)).length).map fun i => D.bl (decide (l.getD i 0 ∈ a))) = (l.map fun n => decide (n ∈ a)).map D.bl := by
          rw [signs_len]
          refine List.ext_getElem? fun i => ?_
          by_cases hi : i < l.length
          · simp [hi, List.getElem?_range]
          · simp [hi]
        have e : (l.all fun n => decide (n ∈ a)) = (l.map fun n => decide (n ∈ a)).all id := by rw [List.all_map]; rfl
        rw [e]
        refine re_callB (ds := [.lst ⟨false, true⟩ ((l.map fun n => decide (n ∈ a)).map D.bl)]) (cr_all rfl) G.all PyProof.Rows.boot_all (ra_cons (nw := true) ?_ ra_nil) cv_all
        rw [← key]
        refine re_lcA (own := [("one", 2)]) (g := gName 2) _ (fun _ => c) (fun i => [some (.str (tx l)), some (.str (tx a)), some (.str (chr1 (l.getD i 0)))]) (fun _ => true) rfl scWord.nd (ri_str (re_var 0)) (blkOk_by (N := ["value", "letters", "one"]) (sc := defScope (top 17)) (by decide +kernel)) (fun _ _ _ _ _ => pg_name (i := 2) scWord.nd rfl (Or.inl rfl)) (fun i d h => ?_) (fun i d h q s H C cl fp => ?_) (by rw [signs_len]; omega)
        · obtain ⟨rfl, _⟩ := signs_at h
          exact tg_name (by decide)
        · have q := ov_inC (K := K) (p := q) (c := c) (ch := l.getD i 0) (z := tx a)
          rw [tx_list] at q
          exact re_cmp op_in_sign (re_var 2) (re_var 1) q
    | _ => cases hk
abbrev WordD (P : Program) (w : World) (K : PySem.W.Frag) (mg : Str → Option Value) (base : Heap) := Def0 P w K mg base 1 "_is_word" ["value", "letters"] wordR
abbrev IsInD (P : Program) (w : World) (K : PySem.W.Frag) (mg : Str → Option Value) (base : Heap) := Def0 P w K mg base 2 "is_input" ["value"] (isInR "01")
abbrev IsPatD (P : Program) (w : World) (K : PySem.W.Frag) (mg : Str → Option Value) (base : Heap) := Def0 P w K mg base 2 "is_pattern" ["value"] (isInR "-01")
theorem ok_isIn {f : Addr} {fd : FuncData} (T : WordD P w K mg base) (F : Fun K "is_input" "is_input" (top 10) f fd) : FnOk P w K mg base CX0 2 f fd ["value"] (spF K (isInR "01")) := by
  refine fn_val F (N := ["value"]) ⟨rfl, rfl, rfl, by decide +kernel, rfl, by decide +kernel, by decide +kernel⟩ (fun ds c o h => ?_) (fun ds c o h => ?_) (fun cdv A outer s H E hr p ds c o h => ?_)
  · obtain ⟨d, rfl, _⟩ := h
    rfl
  · obtain ⟨d, _, _, rfl⟩ := h
    exact ⟨_, _, _, rfl⟩
  · obtain ⟨d, rfl, fd', rfl⟩ := h
    exact .inl (rss_ret (rs_ret (re_c0 T hr (ra_cons (re_var 0) (ra_cons re_str ra_nil)) ⟨d, _, rfl, fd', rfl⟩)))
theorem ok_isPat {f : Addr} {fd : FuncData} (T : WordD P w K mg base) (F : Fun K "is_pattern" "is_pattern" (top 11) f fd) : FnOk P w K mg base CX0 2 f fd ["value"] (spF K (isInR "-01")) := by
  refine fn_val F (N := ["value"]) ⟨rfl, rfl, rfl, by decide +kernel, rfl, by decide +kernel, by decide +kernel⟩ (fun ds c o h => ?_) (fun ds c o h => ?_) (fun cdv A outer s H E hr p ds c o h => ?_)
  · obtain ⟨d, rfl, _⟩ := h
    rfl
  · obtain ⟨d, _, _, rfl⟩ := h
    exact ⟨_, _, _, rfl⟩
  · obtain ⟨d, rfl, fd', rfl⟩ := h
    exact .inl (rss_ret (rs_ret (re_c0 T hr (ra_cons (re_var 0) (ra_cons re_str ra_nil)) ⟨d, _, rfl, fd', rfl⟩)))
theorem ok_whole {f : Addr} {fd : FuncData} (G : Glb mg) (F : Fun K "is_whole" "is_whole" (top 6) f fd) : FnOk P w K mg base CX0 1 f fd ["value"] (spF K wholeR) := by
  refine fn_val F (N := ["value"]) ⟨rfl, rfl, rfl, by decide +kernel, rfl, by decide +kernel, by decide +kernel⟩ (fun ds c o h => ?_) (fun ds c o h => ?_) (fun cdv A outer s H E hr p ds c o h => ?_)
  · obtain ⟨d, rfl, _⟩ := h
    rfl
  · obtain ⟨d, _, _, rfl⟩ := h
    exact ⟨_, _, _, rfl⟩
  · obtain ⟨d, rfl, fd', rfl⟩ := h
    obtain ⟨t, ht⟩ := fd'.ty
    have e : wholeD d = (isIntD d && !isBlD d) := by cases d <;> rfl
    rw [e]
    exact .inl (rss_ret (rs_ret (re_and (re_callB call_isi G.isi PyProof.Rows.boot_isinstance (ra_cons (re_var 0) (ra_cons (re_ty G.int PyProof.Rows.boot_int) ra_nil)) (cv_isi ht (isi_int ht))) fun _ => re_and1 (re_not (re_callB call_isi G.isi PyProof.Rows.boot_isinstance (ra_cons (re_var 0) (ra_cons (re_ty G.bool PyProof.Rows.boot_bool) ra_nil)) (cv_isi ht (isi_bool ht)))))))
abbrev WholeD (P : Program) (w : World) (K : PySem.W.Frag) (mg : Str → Option Value) (base : Heap) := Def0 P w K mg base 1 "is_whole" ["value"] wholeR
abbrev PosD (P : Program) (w : World) (K : PySem.W.Frag) (mg : Str → Option Value) (base : Heap) := Def0 P w K mg base 2 "is_position" ["value", "many"] posR
theorem ok_pos {f : Addr} {fd : FuncData} (T : WholeD P w K mg base) (F : Fun K "is_position" "is_position" (top 7) f fd) : FnOk P w K mg base CX0 2 f fd ["value", "many"] (spF K posR) := by
  refine fn_val F (N := ["value", "many"]) ⟨rfl, rfl, rfl, by decide +kernel, rfl, by decide +kernel, by decide +kernel⟩ (fun ds c o h => ?_) (fun ds c o h => ?_) (fun cdv A outer s H E hr p ds c o h => ?_)
  · obtain ⟨d, n, rfl, _⟩ := h
    rfl
  · obtain ⟨d, n, _, _, rfl⟩ := h
    exact ⟨_, _, _, rfl⟩
  · obtain ⟨d, n, rfl, fd', rfl⟩ := h
    have e : posD d n = (wholeD d && posD d n) := by cases d <;> rfl
    rw [e]
    refine .inl (rss_ret (rs_ret (re_and (re_c0 T hr (ra_cons (re_var 0) ra_nil) ⟨d, rfl, fd', rfl⟩) fun hk => re_and1 ?_)))
    cases d with
    | int i => exact re_chain op_le op_lt re_int (re_var 0) (re_var 1) ov_ib ov_ib
    | _ => cases hk
end
end K12
namespace K12
open PySem PySem.Spec PyProof.Rows L2 LA
/-- the two error classes as the text has made them -/
structure Err (K : PySem.W.Frag) (mg : Str → Option Value) (B Cn fB fC : Addr) : Prop where
  tB : OexC K B
  xB : XfC K B
  nB : PySem.W.findIn K (.ref B) "given" = some none
  iB : PySem.W.findIn K (.ref B) "__init__" = some (some (.ref fB))
  fB : PySem.W.typeIn K (.ref fB) = some (.type "function")
  mB : mg "BadPattern" = some (.ref B)
  tC : OexC K Cn
  xC : XfC K Cn
  nC : PySem.W.findIn K (.ref Cn) "given" = some none
  iC : PySem.W.findIn K (.ref Cn) "__init__" = some (some (.ref fC))
  fC : PySem.W.typeIn K (.ref fC) = some (.type "function")
  mC : mg "BadCount" = some (.ref Cn)
abbrev Ini1 (P : Program) (w : World) (K : PySem.W.Frag) (mg : Str → Option Value) (base : Heap) (f : Addr) : Prop := ∃ fd, FnOk P w K mg base CX0 1 f fd ["self", "given"] (spIni1 K "given") ∧ Binds K fd ["self", "given"] []
def chkR (B : Addr) : FSpec := fun ds c o => ∃ d, ds = [d] ∧ Fit d ∧ o = if isW pats d then .val .non true c else .ex B [("given", d)] c
def cntR (Cn : Addr) : FSpec := fun ds c o => ∃ d, ds = [d, .int 6] ∧ Fit d ∧ o = if posD d 7 then .val .non true c else .ex Cn [("given", d)] c
/-! ### words -/
def step (ws : List (List Nat)) (ls : List Nat) : List (List Nat) := ws.flatMap fun w => ls.map fun a => w ++ [a]
def wordsV : List (List Nat) → List (List Nat) → List (List Nat)
  | ws, [] => ws
  | ws, l :: r => wordsV (step ws l) r
def wD (ws : List (List Nat)) : List D := ws.map fun w => D.str (tx w)
theorem wordsV_app (ws : List (List Nat)) : ∀ (a b : List (List Nat)), wordsV ws (a ++ b) = wordsV (wordsV ws a) b := by
  intro a
  induction a generalizing ws with
  | nil => intro b; rfl
  | cons l r ih => intro b; exact ih (step ws l) b
theorem step_len (ws : List (List Nat)) (ls : List Nat) : (step ws ls).length = ws.length * ls.length := by
  unfold step
  induction ws with
  | nil => simp
  | cons a r ih => rw [List.flatMap_cons, List.length_append, ih, List.length_map, List.length_cons]; rw [Nat.add_mul]; omega
theorem step_all {ws : List (List Nat)} {ls : List Nat} {n : Nat} (h : ∀ w ∈ ws, w.length = n) : ∀ w ∈ step ws ls, w.length = n + 1 := by
  intro w hw
  unfold step at hw
  obtain ⟨a, ha, hb⟩ := List.mem_flatMap.mp hw
  obtain ⟨x, _, rfl⟩ := List.mem_map.mp hb
  rw [List.length_append, h a ha]
  rfl
theorem words_all : ∀ (cs : List (List Nat)) {ws : List (List Nat)} {n : Nat}, (∀ w ∈ ws, w.length = n) → ∀ w ∈ wordsV ws cs, w.length = n + cs.length
  | [], _, _, h => h
  | l :: r, ws, n, h => fun w hw => by
    have := words_all r (step_all (ls := l) h) w hw
    rw [this, List.length_cons]
    omega
theorem words_len : ∀ (cs : List (List Nat)) {ws : List (List Nat)}, (∀ l ∈ cs, l.length ≤ 3) → (wordsV ws cs).length ≤ ws.length * 3 ^ cs.length
  | [], ws, _ => by simp [wordsV]
  | l :: r, ws, h => by
    have a := words_len r (ws := step ws l) fun m hm => h m (List.mem_cons_of_mem _ hm)
    rw [step_len] at a
    have b := h l List.mem_cons_self
    show (wordsV (step ws l) r).length ≤ _
    rw [List.length_cons, Nat.pow_succ]
    have c : ws.length * l.length * 3 ^ r.length ≤ ws.length * 3 * 3 ^ r.length := Nat.mul_le_mul_right _ (Nat.mul_le_mul_left _ b)
    have d : ws.length * 3 * 3 ^ r.length = ws.length * (3 ^ r.length * 3) := by rw [Nat.mul_assoc, Nat.mul_comm 3]
    omega
theorem flat2_words (ws : List (List Nat)) (l : List Nat) : ∀ n, n ≤ ws.length → flat2 (fun _ => chars (tx l)) (fun i m => D.str (tx (ws.getD i []) ++ chr1 (l.getD m 0))) n = wD (step (ws.take n) l)
  | 0, _ => by simp [flat2, step, wD]
  | n + 1, h => by
    have ih := flat2_words ws l n (by omega)
    unfold flat2
    rw [ih]
    have e : ws.take (n + 1) = ws.take n ++ [ws.getD n []] := by
      rw [List.take_add_one, List.getD_eq_getElem?_getD, List.getElem?_eq_getElem (by omega)]
      rfl
    rw [e]
    unfold step wD
    rw [List.flatMap_append, List.map_append]
    congr 1
    rw [signs_len, List.flatMap_cons, List.flatMap_nil, List.append_nil, List.map_map]
    have q := range_get l (fun a => D.str (tx (ws.getD n []) ++ chr1 a))
    rw [show ((List.range l.length).map fun m => D.str (tx (ws.getD n []) ++ chr1 (l.getD m 0))) = l.map fun a => D.str (tx (ws.getD n []) ++ chr1 a) from q]
    refine List.map_congr_left fun a _ => ?_
    show D.str (tx _ ++ tx [a]) = D.str (tx (_ ++ [a]))
    rw [tx_app]
def wordsR : FSpec := fun ds c o => ∃ (g : G) (cs : List (List Nat)), ds = [.lst g (wD cs)] ∧ cs.length ≤ 6 ∧ (∀ l ∈ cs, l.length ≤ 3) ∧ o = .val (.lst ⟨decide (cs.length = 0), true⟩ (wD (wordsV [[]] cs))) true c
section
variable {P : Program} {w : World} {K : PySem.W.Frag} {mg : Str → Option Value} {base : Heap} {B Cn fB fC : Addr}
theorem ok_chk {f : Addr} {fd : FuncData} (T : IsPatD P w K mg base) (Er : Err K mg B Cn fB fC) (iB : Ini1 P w K mg base fB) (F : Fun K "_check_pattern" "_check_pattern" (top 19) f fd) : FnOk P w K mg base (L2.CX P w) 3 f fd ["pattern"] (spF K (chkR B)) := by
  obtain ⟨fdB, FB, bB⟩ := iB
  refine fn_exc F (N := ["pattern"]) ⟨rfl, rfl, rfl, by decide +kernel, rfl, by decide +kernel, by decide +kernel⟩ (fun ds c o h => ?_) (fun cdv A outer s H E hr p ds c o h tk => ?_)
  · obtain ⟨d, rfl, _⟩ := h
    rfl
  · obtain ⟨d, rfl, fd', rfl⟩ := h
    cases h : isW pats d with
    | true =>
      rw [if_pos rfl]
      exact .inr ⟨rfl, _, rss_cons (rs_if (kb := false) (rt_not (rt_val (re_c0 (d := .bl true) T hr (ra_cons (re_var 0) ra_nil) ⟨d, rfl, fd', by rw [← h]; rfl⟩))) (fun z => nomatch z) fun _ => rss_nil) rss_nil⟩
    | false =>
      rw [if_neg Bool.false_ne_true]
      exact rss_ex (rs_if (kb := true) (rt_not (rt_val (re_c0 (d := .bl false) T hr (ra_cons (re_var 0) ra_nil) ⟨d, rfl, fd', by rw [← h]; rfl⟩))) (fun _ => rss_ex (rs_raise1 rfl tk Er.tB Er.nB Er.iB Er.fB FB hr bB Er.mB (re_var 0))) fun z => nomatch z)
theorem ok_cnt {f : Addr} {fd : FuncData} (T : PosD P w K mg base) (Er : Err K mg B Cn fB fC) (iC : Ini1 P w K mg base fC) (F : FunD K "check_count" "check_count" (defArgs (top 8)) (defBody (top 8)) (defScope (top 8)) [.int 6] [] f fd) : FnOk P w K mg base (L2.CX P w) 3 f fd ["many", "most"] (spF K (cntR Cn)) := by
  obtain ⟨fdC, FC, bC⟩ := iC
  refine fn_excD F (N := ["many", "most"]) ⟨rfl, rfl, rfl, by decide +kernel, rfl, by decide +kernel, by decide +kernel⟩ (fun ds c o h => ?_) (fun cdv A outer s H E hr p ds c o h tk => ?_)
  · obtain ⟨d, rfl, _⟩ := h
    rfl
  · obtain ⟨d, rfl, fd', rfl⟩ := h
    cases h : posD d 7 with
    | true =>
      rw [if_pos rfl]
      exact .inr ⟨rfl, _, rss_cons (rs_if (kb := false) (rt_not (rt_val (re_c0 (d := .bl true) T hr (ra_cons (re_var 0) (ra_cons (re_bin op_add (re_var 1) re_int ov_ii) ra_nil)) ⟨d, 7, rfl, fd', by rw [← h]⟩))) (fun z => nomatch z) fun _ => rss_nil) rss_nil⟩
    | false =>
      rw [if_neg Bool.false_ne_true]
      exact rss_ex (rs_if (kb := true) (rt_not (rt_val (re_c0 (d := .bl false) T hr (ra_cons (re_var 0) (ra_cons (re_bin op_add (re_var 1) re_int ov_ii) ra_nil)) ⟨d, 7, rfl, fd', by rw [← h]⟩))) (fun _ => rss_ex (rs_raise1 rfl tk Er.tC Er.nC Er.iC Er.fC FC hr bC Er.mC (re_var 0))) fun z => nomatch z)
abbrev nWords : List Str := ["choices", "words", "letters", "word", "letter"]
theorem scWords : FnScope nWords ["choices"] (defScope (top 18)) := ⟨rfl, rfl, rfl, by decide +kernel, rfl, by decide +kernel, by decide +kernel⟩
theorem ok_words {f : Addr} {fd : FuncData} (F : Fun K "_words" "_words" (top 18) f fd) : FnOk P w K mg base CX0 1 f fd ["choices"] (spF K wordsR) := by
  refine fn_val F scWords (fun ds c o h => ?_) (fun ds c o h => ?_) (fun cdv A outer s H E hr p ds c o h => ?_)
  · obtain ⟨g, cs, rfl, _⟩ := h
    rfl
  · obtain ⟨g, cs, _, _, _, rfl⟩ := h
    exact ⟨_, _, _, rfl⟩
  · obtain ⟨g, cs, rfl, h6, h3, rfl⟩ := h
    refine .inl ?_
    have lz : (wD cs).length = cs.length := by unfold wD; rw [List.length_map]
    have fin : (.lst ⟨decide (cs.length = 0), true⟩ (wD (wordsV [[]] cs)) : D) = .lst ⟨decide ((wD cs).length = 0), true⟩ (wD (wordsV [[]] (cs.take (wD cs).length))) := by rw [lz, List.take_length]
    rw [fin]
    have at' : ∀ {j : Nat} {d : D}, (wD cs)[j]? = some d → d = .str (tx (cs.getD j [])) ∧ j < cs.length := fun {j d} h => by
      unfold wD at h
      rw [List.getElem?_map] at h
      by_cases hj : j < cs.length
      · rw [List.getElem?_eq_getElem hj] at h
        rw [List.getD_eq_getElem?_getD, List.getElem?_eq_getElem hj]
        exact ⟨(Option.some.inj h).symm, hj⟩
      · rw [List.getElem?_eq_none (by omega)] at h
        cases h
    refine rss_renew (X := (cxOf CX0 P w K mg base nWords "_words" (defScope (top 18)) f cdv A outer s H E).nox) 1 (fun j => .lst ⟨decide (j = 0), true⟩ (wD (wordsV [[]] (cs.take j)))) (fun j => [some (.lst g (wD cs)), some (.lst ⟨decide (j = 0), true⟩ (wD (wordsV [[]] (cs.take j)))), none, none, none]) (fun j => [some (.lst g (wD cs)), some (.lst ⟨decide (j = 0), true⟩ (wD (wordsV [[]] (cs.take j)))), some (.str (tx (cs.getD j []))), none, none]) (vs := [2]) (g := gName 2) PassesOwn.never rfl scWords.nd (re_lst (ra_cons re_str ra_nil) (by show 1 ≤ 100000; decide)) (by repeat (first | exact Less.nil | apply Less.same | apply Less.skip)) (ri_lst (re_var 0)) (pg_name (i := 2) scWords.nd rfl (Or.inr rfl)) (fun j d h => ?_) (fun j d h => ?_) (fun j => ?_) (fun j => rfl)
    · obtain ⟨rfl, _⟩ := at' h
      exact tg_name (by decide)
    · obtain ⟨rfl, hj⟩ := at' h
      have wl := words_all (cs.take j) (ws := [[]]) (n := 0) (fun w hw => by rcases List.mem_cons.mp hw with rfl | hw; rfl; cases hw)
      have wn := words_len (cs.take j) (ws := [[]]) fun l hl => h3 l (List.mem_of_mem_take hl)
      generalize hws : wordsV [[]] (cs.take j) = ws at *
      have tj : (cs.take j).length ≤ 6 := by rw [List.length_take]; omega
      have wn' : ws.length ≤ 729 := by
        have : 3 ^ (cs.take j).length ≤ 3 ^ 6 := Nat.pow_le_pow_right (by decide) tj
        have e : (3 : Nat) ^ 6 = 729 := by decide
        simp only [List.length_cons, List.length_nil] at wn
        omega
      have l3 : (cs.getD j []).length ≤ 3 := h3 _ (by rw [List.getD_eq_getElem?_getD, List.getElem?_eq_getElem hj]; exact List.getElem_mem _)
      generalize hl : cs.getD j [] = l at *
      have wz : (wD ws).length = ws.length := by unfold wD; rw [List.length_map]
      have next : (.lst ⟨decide (j + 1 = 0), true⟩ (wD (wordsV [[]] (cs.take (j + 1)))) : D) = .lst ⟨false, true⟩ (flat2 (fun _ => chars (tx l)) (fun i m => D.str (tx (ws.getD i []) ++ chr1 (l.getD m 0))) (wD ws).length) := by
        rw [wz, flat2_words ws l _ (Nat.le_refl _), List.take_length]
        have e : cs.take (j + 1) = cs.take j ++ [l] := by
          rw [List.take_add_one, ← hl, List.getD_eq_getElem?_getD, List.getElem?_eq_getElem hj]
          rfl
        rw [e, wordsV_app, hws]
        rfl
      rw [next]
      have wat : ∀ {i : Nat} {d : D}, (wD ws)[i]? = some d → d = .str (tx (ws.getD i [])) ∧ (ws.getD i []).length ≤ 6 := fun {i d} h => by
        unfold wD at h
        rw [List.getElem?_map] at h
        by_cases hi : i < ws.length
        · rw [List.getElem?_eq_getElem hi] at h
          have m : ws.getD i [] ∈ ws := by
            rw [List.getD_eq_getElem?_getD, List.getElem?_eq_getElem hi]
            exact List.getElem_mem _
          refine ⟨?_, by rw [wl _ m]; omega⟩
          rw [List.getD_eq_getElem?_getD, List.getElem?_eq_getElem hi]
          exact (Option.some.inj h).symm
        · rw [List.getElem?_eq_none (by omega)] at h
          cases h
      refine rs_lc2N (W := Wf) (own := [("word", 3), ("letter", 4)]) (vs1 := [4]) (g := gName 3) (g1 := gName 4) 1 (fun _ => chars (tx l)) (fun i m => D.str (tx (ws.getD i []) ++ chr1 (l.getD m 0))) (fun i => [some (.lst g (wD cs)), some (.lst ⟨decide (j = 0), true⟩ (wD ws)), some (.str (tx l)), some (.str (tx (ws.getD i []))), none]) (fun i m => [some (.lst g (wD cs)), some (.lst ⟨decide (j = 0), true⟩ (wD ws)), some (.str (tx l)), some (.str (tx (ws.getD i []))), some (.str (chr1 (l.getD m 0)))]) true rfl scWords.nd (ri_lst (re_var 1)) (blkOk_by (N := nWords) (sc := defScope (top 18)) (by decide +kernel)) (by decide) (fun _ _ _ _ _ => pg_name (i := 3) scWords.nd rfl (Or.inl rfl)) (fun _ _ _ _ _ => pg_name (i := 4) scWords.nd rfl (Or.inl rfl)) (fun i d h q s H C cl fp => ri_str (re_var 2)) (fun i d h => ?_) (fun i m d e h h' => ?_) (fun i m d e h h' q s H C cl fp => ?_) (fun i m d h hm => ?_)
      · obtain ⟨rfl, _⟩ := wat h
        exact tg_name (by decide)
      · obtain ⟨rfl, _⟩ := signs_at h'
        exact tg_name (by decide)
      · obtain ⟨_, hw⟩ := wat h
        exact re_bin op_add_str (re_var 3) (re_var 4) (ov_addS (sz_le (by rw [tx_len]; show _ + 1 ≤ _; omega)))
      · have hi : i < ws.length := by have := (List.getElem?_eq_some_iff.mp h).1; rw [wz] at this; exact this
        rw [flat2_words ws l i (by omega)]
        unfold wD
        rw [List.length_map, step_len, List.length_take]
        rw [signs_len] at hm
        have : min i ws.length * l.length ≤ 729 * 3 := Nat.mul_le_mul (by omega) l3
        omega
    · repeat (first | exact Less.nil | apply Less.same | apply Less.skip)
end
end K12
namespace K12
open PySem PySem.Spec PyProof.Rows L2 LA
theorem tx_of (s : Str) : tx s.cps.toList = s := by unfold tx; simp
def cntN : D → Nat
  | .int i => i.toNat
  | _ => 0
def allV (a : List Nat) (n : Nat) : D := .lst ⟨decide (n = 0), true⟩ (wD (wordsV [[]] (List.replicate n a)))
def allR (Cn : Addr) (a : List Nat) : FSpec := fun ds c o => ∃ d, ds = [d] ∧ Fit d ∧ o = if posD d 7 then .val (allV a (cntN d)) true c else .ex Cn [("given", d)] c
def knownL (l : List Nat) : List D := coll (fun i => !decide (chr1 (l.getD i 0) = Str.ofString "-")) (fun i => .int (i : Nat)) l.length
def opt (n : Nat) : List Nat := if chr1 n = Str.ofString "-" then bins else [n]
def fitsL (l : List Nat) : List (List Nat) := wordsV [[]] (l.map opt)
def patR (B : Addr) (v : List Nat → D) : FSpec := fun ds c o => ∃ d, ds = [d] ∧ Fit d ∧ o = if isW pats d then .val (v (cds d)) true c else .ex B [("given", d)] c
def knownV (l : List Nat) : D := .lst ⟨false, true⟩ (knownL l)
def sizeV (l : List Nat) : D := .int ((knownL l).length : Nat)
def fitsV (l : List Nat) : D := .lst ⟨decide (l.length = 0), true⟩ (wD (fitsL l))
theorem rep_wD (a : List Nat) : ∀ n : Nat, (List.replicate n [D.str (tx a)]).flatten = wD (List.replicate n a)
  | 0 => rfl
  | n + 1 => by
    rw [List.replicate_succ, List.replicate_succ, List.flatten_cons, rep_wD a n]
    rfl
theorem isW_str {a : List Nat} {d : D} (h : isW a d = true) : ∃ l, d = .str (tx l) ∧ l.length ≤ 6 ∧ ∀ n ∈ l, n ∈ a := by
  unfold isW at h
  rw [Bool.and_eq_true_iff, Bool.and_eq_true_iff] at h
  obtain ⟨a1, a2, a3⟩ := h
  cases d with
  | str s =>
    obtain ⟨l, rfl⟩ := str_tx s
    rw [cds_tx] at a2 a3
    exact ⟨l, rfl, of_decide_eq_true a2, fun n hn => of_decide_eq_true (List.all_eq_true.mp a3 n hn)⟩
  | _ => cases a1
section
variable {P : Program} {w : World} {K : PySem.W.Frag} {mg : Str → Option Value} {base : Heap} {B Cn fB fC : Addr}
abbrev ChkD (P : Program) (w : World) (K : PySem.W.Frag) (mg : Str → Option Value) (base : Heap) (B : Addr) := Def1 P w K mg base 3 "_check_pattern" ["pattern"] (chkR B)
abbrev CntD (P : Program) (w : World) (K : PySem.W.Frag) (mg : Str → Option Value) (base : Heap) (Cn : Addr) := Def1D P w K mg base 3 "check_count" ["many", "most"] (cntR Cn) [.int 6]
abbrev WordsD (P : Program) (w : World) (K : PySem.W.Frag) (mg : Str → Option Value) (base : Heap) := Def0 P w K mg base 1 "_words" ["choices"] wordsR
abbrev AllD (P : Program) (w : World) (K : PySem.W.Frag) (mg : Str → Option Value) (base : Heap) (Cn : Addr) (x : Str) (a : List Nat) := Def1 P w K mg base 4 x ["many"] (allR Cn a)
abbrev PatD (P : Program) (w : World) (K : PySem.W.Frag) (mg : Str → Option Value) (base : Heap) (B : Addr) (k : Nat) (x : Str) (v : List Nat → D) := Def1 P w K mg base k x ["pattern"] (patR B v)
theorem sixes {q : HD} {H : Hp} : DVs K q H [V.int 6] [D.int 6] := .cons (.int 6) .nil
theorem ok_inputs {f : Addr} {fd : FuncData} (TC : CntD P w K mg base Cn) (TW : WordsD P w K mg base) (F : Fun K "inputs" "inputs" (top 12) f fd) : FnOk P w K mg base (L2.CX P w) 4 f fd ["many"] (spF K (allR Cn bins)) := by
  refine fn_exc F (N := ["many"]) ⟨rfl, rfl, rfl, by decide +kernel, rfl, by decide +kernel, by decide +kernel⟩ (fun ds c o h => ?_) (fun cdv A outer s H E hr p ds c o h tk => ?_)
  · obtain ⟨d, rfl, _⟩ := h
    rfl
  · obtain ⟨d, rfl, fd', rfl⟩ := h
    cases h : posD d 7 with
    | false =>
      rw [if_neg Bool.false_ne_true]
      exact rss_ex (rs_exprX (re_c1D (es' := [.int 6]) tk TC hr (ra_cons (re_var 0) ra_nil) (fun q H => sixes) ⟨d, rfl, fd', by rw [h, if_neg Bool.false_ne_true]⟩))
    | true =>
      rw [if_pos rfl]
      refine .inl (rss_cons (rs_expr (re_c1D (es' := [.int 6]) (o := .val .non true c) tk TC hr (ra_cons (re_var 0) ra_nil) (fun q H => sixes) ⟨d, rfl, fd', by rw [h, if_pos rfl]⟩)) ?_)
      cases d with
      | int i =>
        obtain ⟨i0, i1⟩ := Bool.and_eq_true_iff.mp (show (decide (0 ≤ i) && decide (i < 7)) = true from h)
        have i0 := of_decide_eq_true i0
        have i1 := of_decide_eq_true i1
        refine rss_ret (rs_ret (re_c0 (ds := [.lst ⟨false, true⟩ (List.replicate i.toNat [D.str (tx bins)]).flatten]) TW (hr.mono (by decide)) (ra_cons (re_bin op_rep (re_lst (ra_cons re_str ra_nil) (by show 1 ≤ 100000; decide)) (re_var 0) (ov_rep rfl (by omega) (by omega) (by show 1 * _ ≤ _; omega))) ra_nil) ⟨⟨false, true⟩, List.replicate i.toNat bins, by rw [rep_wD], by rw [List.length_replicate]; omega, fun l hl => by rw [List.eq_of_mem_replicate hl]; decide, ?_⟩))
        rw [List.length_replicate]
        rfl
      | _ => cases h
theorem ok_patterns {f : Addr} {fd : FuncData} (TC : CntD P w K mg base Cn) (TW : WordsD P w K mg base) (F : Fun K "patterns" "patterns" (top 13) f fd) : FnOk P w K mg base (L2.CX P w) 4 f fd ["many"] (spF K (allR Cn pats)) := by
  refine fn_exc F (N := ["many"]) ⟨rfl, rfl, rfl, by decide +kernel, rfl, by decide +kernel, by decide +kernel⟩ (fun ds c o h => ?_) (fun cdv A outer s H E hr p ds c o h tk => ?_)
  · obtain ⟨d, rfl, _⟩ := h
    rfl
  · obtain ⟨d, rfl, fd', rfl⟩ := h
    cases h : posD d 7 with
    | false =>
      rw [if_neg Bool.false_ne_true]
      exact rss_ex (rs_exprX (re_c1D (es' := [.int 6]) tk TC hr (ra_cons (re_var 0) ra_nil) (fun q H => sixes) ⟨d, rfl, fd', by rw [h, if_neg Bool.false_ne_true]⟩))
    | true =>
      rw [if_pos rfl]
      refine .inl (rss_cons (rs_expr (re_c1D (es' := [.int 6]) (o := .val .non true c) tk TC hr (ra_cons (re_var 0) ra_nil) (fun q H => sixes) ⟨d, rfl, fd', by rw [h, if_pos rfl]⟩)) ?_)
      cases d with
      | int i =>
        obtain ⟨i0, i1⟩ := Bool.and_eq_true_iff.mp (show (decide (0 ≤ i) && decide (i < 7)) = true from h)
        have i0 := of_decide_eq_true i0
        have i1 := of_decide_eq_true i1
        refine rss_ret (rs_ret (re_c0 (ds := [.lst ⟨false, true⟩ (List.replicate i.toNat [D.str (tx pats)]).flatten]) TW (hr.mono (by decide)) (ra_cons (re_bin op_rep (re_lst (ra_cons re_str ra_nil) (by show 1 ≤ 100000; decide)) (re_var 0) (ov_rep rfl (by omega) (by omega) (by show 1 * _ ≤ _; omega))) ra_nil) ⟨⟨false, true⟩, List.replicate i.toNat pats, by rw [rep_wD], by rw [List.length_replicate]; omega, fun l hl => by rw [List.eq_of_mem_replicate hl]; decide, ?_⟩))
        rw [List.length_replicate]
        rfl
      | _ => cases h
abbrev nKnown : List Str := ["pattern", "at", "letter"]
theorem scKnown : FnScope nKnown ["pattern"] (defScope (top 14)) := ⟨rfl, rfl, rfl, by decide +kernel, rfl, by decide +kernel, by decide +kernel⟩
theorem ok_known {f : Addr} {fd : FuncData} (G : Glb mg) (T : ChkD P w K mg base B) (F : Fun K "known" "known" (top 14) f fd) : FnOk P w K mg base (L2.CX P w) 4 f fd ["pattern"] (spF K (patR B knownV)) := by
  refine fn_exc F scKnown (fun ds c o h => ?_) (fun cdv A outer s H E hr p ds c o h tk => ?_)
  · obtain ⟨d, rfl, _⟩ := h
    rfl
  · obtain ⟨d, rfl, fd', rfl⟩ := h
    cases h : isW pats d with
    | false =>
      rw [if_neg Bool.false_ne_true]
      exact rss_ex (rs_exprX (re_c1 tk T hr (ra_cons (re_var 0) ra_nil) ⟨d, rfl, fd', by rw [h, if_neg Bool.false_ne_true]⟩))
    | true =>
      rw [if_pos rfl]
      obtain ⟨l, rfl, h6, _⟩ := isW_str h
      rw [cds_tx]
      refine .inl (rss_cons (rs_expr (re_c1 (o := .val .non true c) tk T hr (ra_cons (re_var 0) ra_nil) ⟨_, rfl, fd', by rw [h, if_pos rfl]⟩)) (rss_ret (rs_ret ?_)))
      unfold knownV knownL
      rw [← enums_len l]
      refine re_lc (own := [("at", 1), ("letter", 2)]) (g := gTup K 2 (gCons (gName 1) (gCons (gName 2) gNil))) _ _ (fun _ => c) (fun _ => c) (fun i => [some (.str (tx l)), some (.int (i : Nat)), some (.str (chr1 (l.getD i 0)))]) (fun _ => false) rfl scKnown.nd (ri_enumS G.enu (re_var 0)) (blkOk_by (N := nKnown) (sc := defScope (top 14)) (by decide +kernel)) (fun _ _ _ _ _ => pg_tup rfl (pgs_cons (pg_name (i := 1) scKnown.nd rfl (Or.inl rfl)) (pgs_cons (pg_name (i := 2) scKnown.nd rfl (Or.inl rfl)) pgs_nil))) (fun i d h => ?_) (fun i d h q s H C cl fp => ?_) (fun i d h hb q s H C cl fp => ?_) (fun i d h hb => rfl) (by rw [enums_len]; omega)
      · obtain ⟨rfl, _⟩ := enums_at h
        exact tg_two (by decide) (by decide)
      · exact pts_one (rt_cmp op_ne (re_var 2) re_str ov_neT)
      · exact re_var 1
theorem ok_size {f : Addr} {fd : FuncData} (G : Glb mg) (T : PatD P w K mg base B 4 "known" knownV) (F : Fun K "size" "size" (top 15) f fd) : FnOk P w K mg base (L2.CX P w) 5 f fd ["pattern"] (spF K (patR B sizeV)) := by
  refine fn_exc F (N := ["pattern"]) ⟨rfl, rfl, rfl, by decide +kernel, rfl, by decide +kernel, by decide +kernel⟩ (fun ds c o h => ?_) (fun cdv A outer s H E hr p ds c o h tk => ?_)
  · obtain ⟨d, rfl, _⟩ := h
    rfl
  · obtain ⟨d, rfl, fd', rfl⟩ := h
    cases h : isW pats d with
    | false =>
      rw [if_neg Bool.false_ne_true]
      exact rss_ex (rs_retX (re_callBX call_len G.len PySem.boot_len (ra_ex (re_c1 tk T hr (ra_cons (re_var 0) ra_nil) ⟨d, rfl, fd', by rw [h, if_neg Bool.false_ne_true]⟩))))
    | true =>
      rw [if_pos rfl]
      exact .inl (rss_ret (rs_ret (re_callB (ds := [knownV (cds d)]) call_len G.len PySem.boot_len (ra_cons (re_c1 (o := .val (knownV (cds d)) true c) tk T hr (ra_cons (re_var 0) ra_nil) ⟨d, rfl, fd', by rw [h, if_pos rfl]⟩) ra_nil) cv_lenL)))
abbrev nFitting : List Str := ["pattern", "letter"]
theorem scFitting : FnScope nFitting ["pattern"] (defScope (top 16)) := ⟨rfl, rfl, rfl, by decide +kernel, rfl, by decide +kernel, by decide +kernel⟩
theorem ok_fitting {f : Addr} {fd : FuncData} (T : ChkD P w K mg base B) (TW : WordsD P w K mg base) (F : Fun K "fitting" "fitting" (top 16) f fd) : FnOk P w K mg base (L2.CX P w) 4 f fd ["pattern"] (spF K (patR B fitsV)) := by
  refine fn_exc F scFitting (fun ds c o h => ?_) (fun cdv A outer s H E hr p ds c o h tk => ?_)
  · obtain ⟨d, rfl, _⟩ := h
    rfl
  · obtain ⟨d, rfl, fd', rfl⟩ := h
    cases h : isW pats d with
    | false =>
      rw [if_neg Bool.false_ne_true]
      exact rss_ex (rs_exprX (re_c1 tk T hr (ra_cons (re_var 0) ra_nil) ⟨d, rfl, fd', by rw [h, if_neg Bool.false_ne_true]⟩))
    | true =>
      rw [if_pos rfl]
      obtain ⟨l, rfl, h6, _⟩ := isW_str h
      rw [cds_tx]
      refine .inl (rss_cons (rs_expr (re_c1 (o := .val .non true c) tk T hr (ra_cons (re_var 0) ra_nil) ⟨_, rfl, fd', by rw [h, if_pos rfl]⟩)) (rss_ret (rs_ret (re_c0 (ds := [.lst ⟨false, true⟩ (wD (l.map opt))]) TW (hr.mono (by decide)) (ra_cons (nw := true) ?_ ra_nil) ⟨⟨false, true⟩, l.map opt, rfl, by rw [List.length_map]; exact h6, fun m hm => ?_, by rw [List.length_map]; rfl⟩))))
      · have key : (List.range (chars (tx l)).length).map (fun i => D.str (tx (opt (l.getD i 0)))) = wD (l.map opt) := by
          rw [signs_len, range_get l fun n => D.str (tx (opt n))]
          unfold wD
          rw [List.map_map]
          rfl
        rw [← key]
        refine re_lcA (own := [("letter", 1)]) (g := gName 1) _ (fun _ => c) (fun i => [some (.str (tx l)), some (.str (chr1 (l.getD i 0)))]) (fun _ => false) rfl scFitting.nd (ri_str (re_var 0)) (blkOk_by (N := nFitting) (sc := defScope (top 16)) (by decide +kernel)) (fun _ _ _ _ _ => pg_name (i := 1) scFitting.nd rfl (Or.inl rfl)) (fun i d h => ?_) (fun i d h q s H C cl fp => ?_) (by rw [signs_len]; omega)
        · obtain ⟨rfl, _⟩ := signs_at h
          exact tg_name (by decide)
        · refine re_if (k := decide (chr1 (l.getD i 0) = Str.ofString "-")) (rt_cmp op_eq (re_var 1) re_str ov_eqT) (fun hk => ?_) (fun hk => ?_)
          · unfold opt
            rw [if_pos (of_decide_eq_true hk)]
            exact re_old re_str
          · unfold opt
            rw [if_neg (of_decide_eq_false hk)]
            exact re_var 1
      · obtain ⟨n, _, rfl⟩ := List.mem_map.mp hm
        unfold opt
        split
        · decide
        · show 1 ≤ 3
          decide
end
end K12
namespace K12
open PySem PySem.Spec PyProof.Rows L2 LA
/-! ### the law's own strings -/
def strsV (a : List Nat) (n : Nat) : List (List Nat) := wordsV [[]] (List.replicate n a)
def strsR : FSpec := fun ds c o => ∃ (a : List Nat) (n : Nat), ds = [.int (n : Nat), .str (tx a)] ∧ n ≤ 6 ∧ a.length ≤ 3 ∧ a ≠ [] ∧ o = .val (.lst ⟨false, true⟩ (wD (strsV a n))) false c
theorem wD_len (ws : List (List Nat)) : (wD ws).length = ws.length := by unfold wD; rw [List.length_map]
theorem wD_at {ws : List (List Nat)} {i : Nat} {d : D} (h : (wD ws)[i]? = some d) : d = .str (tx (ws.getD i [])) ∧ i < ws.length ∧ ws.getD i [] ∈ ws := by
  unfold wD at h
  rw [List.getElem?_map] at h
  by_cases hi : i < ws.length
  · rw [List.getElem?_eq_getElem hi] at h
    rw [List.getD_eq_getElem?_getD, List.getElem?_eq_getElem hi]
    exact ⟨(Option.some.inj h).symm, hi, List.getElem_mem _⟩
  · rw [List.getElem?_eq_none (by omega)] at h
    cases h
theorem strs_all (a : List Nat) (n : Nat) : ∀ w ∈ strsV a n, w.length = n := fun w hw => by
  have := words_all (List.replicate n a) (ws := [[]]) (n := 0) (fun w hw => by rcases List.mem_cons.mp hw with rfl | hw; rfl; cases hw) w hw
  rw [List.length_replicate] at this
  omega
theorem strs_len {a : List Nat} (h : a.length ≤ 3) {n : Nat} (hn : n ≤ 6) : (strsV a n).length ≤ 729 := by
  have wn := words_len (List.replicate n a) (ws := [[]]) fun l hl => by rw [List.eq_of_mem_replicate hl]; exact h
  rw [List.length_replicate] at wn
  have : 3 ^ n ≤ 3 ^ 6 := Nat.pow_le_pow_right (by decide) hn
  have e : (3 : Nat) ^ 6 = 729 := by decide
  simp only [List.length_cons, List.length_nil] at wn
  unfold strsV
  omega
theorem strs_next (a : List Nat) (n : Nat) : strsV a (n + 1) = step (strsV a n) a := by
  unfold strsV
  rw [List.replicate_succ', wordsV_app]
  rfl
section
variable {P : Program} {w : World} {K : PySem.W.Frag} {mg : Str → Option Value} {base : Heap} {B Cn fB fC : Addr}
abbrev nStrs : List Str := ["_law_many", "_law_signs", "_law_found", "_law_k", "_law_longer", "_law_text_here", "_law_sign"]
theorem scStrs : FnScope nStrs ["_law_many", "_law_signs"] (defScope (top 23)) := ⟨rfl, rfl, rfl, by decide +kernel, rfl, by decide +kernel, by decide +kernel⟩
theorem ok_strs {f : Addr} {fd : FuncData} (G : Glb mg) (F : Fun K "_law_strings" "_law_strings" (top 23) f fd) : FnOk P w K mg base CX0 1 f fd ["_law_many", "_law_signs"] (spF K strsR) := by
  refine fn_val F scStrs (fun ds c o h => ?_) (fun ds c o h => ?_) (fun cdv A outer s H E hr p ds c o h => ?_)
  · obtain ⟨a, n, rfl, _⟩ := h
    rfl
  · obtain ⟨a, n, _, _, _, _, rfl⟩ := h
    exact ⟨_, _, _, rfl⟩
  · obtain ⟨a, n, rfl, h6, h3, hne, rfl⟩ := h
    refine .inl ?_
    refine rss_cons (c1 := c) (ρ1 := [some (.int (n : Nat)), some (.str (tx a)), some (.lst ⟨false, true⟩ (wD (strsV a 0))), none, none, none, none]) (rs_set (nw := true) 2 scStrs.nd (re_dull (g := ⟨true, true⟩) (re_lst (ra_cons re_str ra_nil) (by show 1 ≤ 100000; decide)))) ?_
    have hn : (intsD ((n : Nat) : Int).toNat).length = n := by rw [intsD_len, Int.toNat_natCast]
    refine rss_cons (c1 := c) (ρ1 := [some (.int (n : Nat)), some (.str (tx a)), some (.lst ⟨false, true⟩ (wD (strsV a n))), none, none, none, none]) ?_ (rss_ret (rs_ret (re_var 2)))
    have main := rs_for_all (X := (cxOf CX0 P w K mg base nStrs "_law_strings" (defScope (top 23)) f cdv A outer s H E).nox) (W := Wf) (p := p) (c := c) (ρ := [some (.int (n : Nat)), some (.str (tx a)), some (.lst ⟨false, true⟩ (wD (strsV a 0))), none, none, none, none]) (xs := intsD ((n : Nat) : Int).toNat) (vs := [3]) (g := gName 3)
      (tg := match (defBody (top 23)) with | [_, .For t _ _ _ _, _] => t | _ => .Constant .none 0 ⟨0, 0, 0, 0⟩) (it := match (defBody (top 23)) with | [_, .For _ t _ _ _, _] => t | _ => .Constant .none 0 ⟨0, 0, 0, 0⟩) (body := match (defBody (top 23)) with | [_, .For _ _ b _ _, _] => b | _ => []) (pos := match (defBody (top 23)) with | [_, .For _ _ _ _ q, _] => q | _ => ⟨0, 0, 0, 0⟩)
      (fun j => [some (.int (n : Nat)), some (.str (tx a)), some (.lst ⟨false, true⟩ (wD (strsV a j))), none, none, none, none]) (fun j => [some (.int (n : Nat)), some (.str (tx a)), some (.lst ⟨false, true⟩ (wD (strsV a j))), some (.int (j : Nat)), none, none, none]) (fun _ => c) PassesOwn.never rfl rfl
      (ri_range G.range (re_var 0) (by omega) (by omega)) (pg_name (i := 3) scStrs.nd rfl (Or.inl rfl)) (fun i d h => by
        obtain ⟨rfl, _⟩ := intsD_at h
        exact tg_name (by decide)) (fun j d h => ?_)
    · rw [hn] at main
      exact main
    · obtain ⟨_, hj⟩ := intsD_at h
      rw [Int.toNat_natCast] at hj
      have wl := strs_all a j
      have wz := strs_len h3 (show j ≤ 6 by omega)
      rw [strs_next]
      generalize strsV a j = ws at *
      refine rss_less (ρ1 := [some (.int (n : Nat)), some (.str (tx a)), some (.lst ⟨false, true⟩ (wD (step ws a))), some (.int (j : Nat)), some (.lst ⟨false, true⟩ (wD (step ws a))), none, none]) ?_ (by repeat (first | exact Less.nil | apply Less.same | apply Less.skip))
      refine rss_cons (c1 := c) (ρ1 := [some (.int (n : Nat)), some (.str (tx a)), some (.lst ⟨false, true⟩ (wD ws)), some (.int (j : Nat)), some (.lst ⟨false, true⟩ (wD (step (ws.take 0) a))), none, none]) (rs_set (nw := true) 4 scStrs.nd (re_dull (g := ⟨true, true⟩) (re_lst ra_nil (by show 0 ≤ 100000; decide)))) ?_
      refine rss_cons (c1 := c) (ρ1 := [some (.int (n : Nat)), some (.str (tx a)), some (.lst ⟨false, true⟩ (wD ws)), some (.int (j : Nat)), some (.lst ⟨false, true⟩ (wD (step ws a))), none, none]) ?_ (rss_cons (rs_set 2 scStrs.nd (re_var 4)) rss_nil)
      have inner := rs_for_all (X := (cxOf CX0 P w K mg base nStrs "_law_strings" (defScope (top 23)) f cdv A outer s H E).nox) (W := Wf) (p := p) (c := c) (ρ := [some (.int (n : Nat)), some (.str (tx a)), some (.lst ⟨false, true⟩ (wD ws)), some (.int (j : Nat)), some (.lst ⟨false, true⟩ (wD (step (ws.take 0) a))), none, none]) (xs := wD ws) (vs := [5]) (g := gName 5)
        (tg := match (defBody (top 23)) with | [_, .For _ _ [_, .For t _ _ _ _, _] _ _, _] => t | _ => .Constant .none 0 ⟨0, 0, 0, 0⟩) (it := match (defBody (top 23)) with | [_, .For _ _ [_, .For _ t _ _ _, _] _ _, _] => t | _ => .Constant .none 0 ⟨0, 0, 0, 0⟩) (body := match (defBody (top 23)) with | [_, .For _ _ [_, .For _ _ b _ _, _] _ _, _] => b | _ => []) (pos := match (defBody (top 23)) with | [_, .For _ _ [_, .For _ _ _ _ q, _] _ _, _] => q | _ => ⟨0, 0, 0, 0⟩)
        (fun i => [some (.int (n : Nat)), some (.str (tx a)), some (.lst ⟨false, true⟩ (wD ws)), some (.int (j : Nat)), some (.lst ⟨false, true⟩ (wD (step (ws.take i) a))), none, none]) (fun i => [some (.int (n : Nat)), some (.str (tx a)), some (.lst ⟨false, true⟩ (wD ws)), some (.int (j : Nat)), some (.lst ⟨false, true⟩ (wD (step (ws.take i) a))), some (.str (tx (ws.getD i []))), none]) (fun _ => c) PassesOwn.never rfl rfl
        (ri_lst (re_var 2)) (pg_name (i := 5) scStrs.nd rfl (Or.inr rfl)) (fun i d h => by
          obtain ⟨rfl, _⟩ := wD_at h
          exact tg_name (by decide)) (fun i d h => ?_)
      · rw [wD_len, List.take_length] at inner
        exact inner
      · obtain ⟨_, hi, hm⟩ := wD_at h
        have e : wD (step (ws.take (i + 1)) a) = wD (step (ws.take i) a) ++ wD (a.map fun x => ws.getD i [] ++ [x]) := by
          rw [List.take_add_one, show ws[i]?.toList = [ws.getD i []] by rw [List.getD_eq_getElem?_getD, List.getElem?_eq_getElem hi]; rfl]
          unfold step wD
          rw [List.flatMap_append, List.map_append, List.flatMap_cons, List.flatMap_nil, List.append_nil]
        have key : (List.range (chars (tx a)).length).map (fun m => D.str (tx (ws.getD i []) ++ chr1 (a.getD m 0))) = wD (a.map fun x => ws.getD i [] ++ [x]) := by
          rw [signs_len, range_get a fun x => D.str (tx (ws.getD i []) ++ chr1 x)]
          unfold wD
          rw [List.map_map]
          refine List.map_congr_left fun x _ => ?_
          show D.str (tx _ ++ tx [x]) = D.str (tx (_ ++ [x]))
          rw [tx_app]
        refine rss_less (ρ1 := [some (.int (n : Nat)), some (.str (tx a)), some (.lst ⟨false, true⟩ (wD ws)), some (.int (j : Nat)), some (.lst ⟨false, true⟩ (wD (step (ws.take (i + 1)) a))), some (.str (tx (ws.getD i []))), none]) (rss_cons (rs_set (nw := true) 4 scStrs.nd ?_) rss_nil) (by repeat (first | exact Less.nil | apply Less.same | apply Less.skip))
        rw [e, ← key]
        refine re_bin (n2 := true) op_cat (re_var 4) (re_lcA (own := [("_law_sign", 6)]) (g := gName 6) _ (fun _ => c) (fun m => [some (.int (n : Nat)), some (.str (tx a)), some (.lst ⟨false, true⟩ (wD ws)), some (.int (j : Nat)), some (.lst ⟨false, true⟩ (wD (step (ws.take i) a))), some (.str (tx (ws.getD i []))), some (.str (chr1 (a.getD m 0)))]) (fun _ => true) rfl scStrs.nd (ri_str (re_var 1)) (blkOk_by (N := nStrs) (sc := defScope (top 23)) (by decide +kernel)) (fun _ _ _ _ _ => pg_name (i := 6) scStrs.nd rfl (Or.inl rfl)) (fun m d h => ?_) (fun m d h q s H C cl fp => ?_) (by rw [signs_len]; omega)) (ov_cat rfl rfl ?_)
        · obtain ⟨rfl, _⟩ := signs_at h
          exact tg_name (by decide)
        · exact re_bin op_add_str (re_var 5) (re_var 6) (ov_addS (sz_le (by rw [tx_len, wl _ hm]; show _ + 1 ≤ _; omega)))
        · rw [wD_len, step_len, List.length_take, List.length_map, List.length_range, signs_len]
          have : min i ws.length * a.length ≤ 729 * 3 := Nat.mul_le_mul (by omega) h3
          omega
end
end K12
namespace K12
open PySem PySem.Spec PyProof.Rows L2 LA
def odds (a l : List Nat) : List D := coll (fun i => !decide (l.getD i 0 ∈ a)) (fun i => .str (chr1 (l.getD i 0))) l.length
theorem odds_nil (a l : List Nat) : (odds a l).isEmpty = l.all fun n => decide (n ∈ a) := by
  unfold odds
  rw [coll_none, ← all_get l]
  congr 1
  funext i
  rw [Bool.not_not]
theorem odds_ok {a l : List Nat} (h : ∀ n ∈ l, n < 0x110000) : (odds a l).all flatOk = true := by
  unfold odds
  rw [coll_some, List.all_map, List.all_eq_true]
  intro i hi
  have hi' := List.mem_range.mp (List.mem_filter.mp hi).1
  show PyData.strOk (chr1 (l.getD i 0)) = true
  unfold PyData.strOk chr1
  have : l.getD i 0 ∈ l := by
    rw [List.getD_eq_getElem?_getD, List.getElem?_eq_getElem hi']
    exact List.getElem_mem _
  have q := h _ this
  generalize l.getD i 0 = m at q
  simp [q]
/-! ### the strings that fit -/
def fit1 (n x : Nat) : Bool := inV (.str (chr1 x)) [.str (Str.ofString "-"), .str (chr1 n)]
theorem dec_chr {a b : Nat} : (chr1 a = chr1 b) ↔ a = b := ⟨fun h => by injection h with h; simpa using h, fun h => by rw [h]⟩
theorem pats_eq : pats = [45, 48, 49] := by decide
theorem bins_eq : bins = [48, 49] := by decide
/-- a position is as the pattern has it, as the law asks it -/
def at1 (n x : Nat) : Bool := inV (.str (chr1 n)) [.str (Str.ofString "-"), .str (chr1 x)]
theorem opt_bins : ∀ n ∈ ([45, 48, 49] : List Nat), bins.filter (fun x => at1 n x) = opt n := by decide
def allAt : List Nat → List Nat → Bool
  | n :: r, x :: s => at1 n x && allAt r s
  | _, _ => true
theorem allAt_app : ∀ (p w : List Nat) (n x : Nat), p.length = w.length → allAt (p ++ [n]) (w ++ [x]) = (allAt p w && at1 n x)
  | [], [], n, x, _ => by simp [allAt]
  | a :: p, b :: w, n, x, h => by
    have ih := allAt_app p w n x (by simpa using h)
    show (at1 a b && allAt (p ++ [n]) (w ++ [x])) = (at1 a b && allAt p w && at1 n x)
    rw [ih, Bool.and_assoc]
theorem allAt_range : ∀ (p w : List Nat), p.length = w.length → ((List.range p.length).all fun i => at1 (p.getD i 0) (w.getD i 0)) = allAt p w
  | [], [], _ => rfl
  | a :: p, b :: w, h => by
    have ih := allAt_range p w (by simpa using h)
    rw [List.length_cons, List.range_succ_eq_map, List.all_cons, List.all_map]
    show (at1 a b && _) = (at1 a b && _)
    rw [← ih]
    rfl
theorem step_filter {n : Nat} (hn : n ∈ ([45, 48, 49] : List Nat)) (p : List Nat) : ∀ W : List (List Nat), (∀ w ∈ W, p.length = w.length) → (step W bins).filter (fun w => allAt (p ++ [n]) w) = step (W.filter fun w => allAt p w) (opt n)
  | [], _ => rfl
  | w :: W, h => by
    have ih := step_filter hn p W fun v hv => h v (List.mem_cons_of_mem _ hv)
    have hw := h w List.mem_cons_self
    have e : step (w :: W) bins = (bins.map fun x => w ++ [x]) ++ step W bins := by unfold step; rw [List.flatMap_cons]
    rw [e, List.filter_append, ih, List.filter_map]
    have e2 : ((fun v => allAt (p ++ [n]) v) ∘ fun x => w ++ [x]) = fun x => allAt p w && at1 n x := by
      funext x
      exact allAt_app p w n x hw
    rw [e2, List.filter_cons]
    cases hq : allAt p w with
    | true =>
      rw [if_pos rfl]
      unfold step
      rw [List.flatMap_cons]
      congr 1
      rw [← opt_bins n hn]
      simp
    | false =>
      rw [if_neg Bool.false_ne_true]
      simp
theorem words_filter : ∀ (l p : List Nat) (W : List (List Nat)), (∀ n ∈ l, n ∈ ([45, 48, 49] : List Nat)) → (∀ w ∈ W, p.length = w.length) → (wordsV W (List.replicate l.length bins)).filter (fun w => allAt (p ++ l) w) = wordsV (W.filter fun w => allAt p w) (l.map opt)
  | [], p, W, _, _ => by
    rw [List.append_nil]
    rfl
  | n :: r, p, W, hl, hW => by
    rw [List.length_cons, List.replicate_succ]
    show (wordsV (step W bins) (List.replicate r.length bins)).filter _ = wordsV (step _ (opt n)) (r.map opt)
    rw [← step_filter (hl n List.mem_cons_self) p W hW]
    have ih := words_filter r (p ++ [n]) (step W bins) (fun m hm => hl m (List.mem_cons_of_mem _ hm)) fun w hw => by
      unfold step at hw
      obtain ⟨a, ha, hb⟩ := List.mem_flatMap.mp hw
      obtain ⟨x, _, rfl⟩ := List.mem_map.mp hb
      rw [List.length_append, List.length_append, hW a ha]
      rfl
    rw [List.append_assoc] at ih
    exact ih
theorem fits_filter {l : List Nat} (h : ∀ n ∈ l, n ∈ pats) : (strsV bins l.length).filter (fun w => allAt l w) = fitsL l := by
  have q := words_filter l [] [[]] (by rw [← pats_eq]; exact h) fun w hw => by rcases List.mem_cons.mp hw with rfl | hw; rfl; cases hw
  exact q
theorem coll_filter (ws : List (List Nat)) (q : List Nat → Bool) : coll (fun j => q (ws.getD j [])) (fun j => D.str (tx (ws.getD j []))) ws.length = wD (ws.filter q) := by
  have gen : ∀ n, n ≤ ws.length → coll (fun j => q (ws.getD j [])) (fun j => D.str (tx (ws.getD j []))) n = wD ((ws.take n).filter q) := by
    intro n
    induction n with
    | zero => intro _; simp [coll, wD]
    | succ n ih =>
      intro h
      show coll _ _ n ++ _ = _
      rw [ih (by omega), List.take_add_one, show ws[n]?.toList = [ws.getD n []] by rw [List.getD_eq_getElem?_getD, List.getElem?_eq_getElem (by omega)]; rfl, List.filter_append]
      unfold wD
      rw [List.map_append, List.filter_cons, List.filter_nil]
      split <;> simp_all
  have := gen ws.length (Nat.le_refl _)
  rw [List.take_length] at this
  exact this
section
variable {P : Program} {w : World} {K : PySem.W.Frag} {mg : Str → Option Value} {base : Heap} {B Cn fB fC : Addr}
abbrev nSigns : List Str := ["_law_value", "_law_signs", "_law_sign"]
theorem scSigns : FnScope nSigns ["_law_value", "_law_signs"] (defScope (top 26)) := ⟨rfl, rfl, rfl, by decide +kernel, rfl, by decide +kernel, by decide +kernel⟩
theorem ok_signs {f : Addr} {fd : FuncData} (G : Glb mg) (F : Fun K "_law_fits_signs" "_law_fits_signs" (top 26) f fd) : FnOk P w K mg base CX0 1 f fd ["_law_value", "_law_signs"] (spF K wordR) := by
  refine fn_val F scSigns (fun ds c o h => ?_) (fun ds c o h => ?_) (fun cdv A outer s H E hr p ds c o h => ?_)
  · obtain ⟨d, z, rfl, _⟩ := h
    rfl
  · obtain ⟨d, z, _, _, rfl⟩ := h
    exact ⟨_, _, _, rfl⟩
  · obtain ⟨d, z, rfl, fd', rfl⟩ := h
    obtain ⟨t, ht⟩ := fd'.ty
    obtain ⟨a, rfl⟩ := str_tx z
    rw [tx_list]
    refine .inl ?_
    by_cases hs : isStrD d = true
    · cases d with
      | str s =>
        obtain ⟨l, rfl⟩ := str_tx s
        have hl := fd'.len l rfl
        have hk : isW a (.str (tx l)) = (decide (l.length ≤ 6) && (odds a l).isEmpty) := by
          unfold isW
          rw [cds_tx, odds_nil]
          rfl
        rw [hk]
        by_cases h6 : l.length ≤ 6
        · rw [decide_eq_true h6, Bool.true_and]
          refine rss_cons (rs_if (kb := false) (RW.rt (rw_or (k1 := false) (k2 := false) (rt_not (rt_val (re_callB (d := .bl true) call_isi G.isi PyProof.Rows.boot_isinstance (ra_cons (re_var 0) (ra_cons (re_ty G.str PyProof.Rows.boot_str) ra_nil)) (cv_isi ht (isi_str ht))))) fun _ => rw_or1 (rt_cmp (nw := true) op_gt (re_callB call_len G.len PySem.boot_len (ra_cons (re_var 0) ra_nil) (cv_lenT (by omega))) re_int ?_))) (fun z => nomatch z) fun _ => rss_nil) ?_
          · have q := ov_ib (K := K) (p := p) (c := c) (f := fun i j => decide (j < i)) (i := (l.length : Nat)) (j := 6)
            rw [decide_eq_false (by omega)] at q
            exact q
          · refine rss_ret (rs_ret (re_cmp (op_eqD hr.units) (n1 := true) (d1 := .lst ⟨false, true⟩ (odds a l)) (c1 := c) ?_ (re_lst ra_nil (by show 0 ≤ 100000; decide)) (ov_eqNil (odds_ok (fd'.ok l rfl)))))
            unfold odds
            rw [← signs_len l]
            refine re_lc (own := [("_law_sign", 2)]) (g := gName 2) _ _ (fun _ => c) (fun _ => c) (fun i => [some (.str (tx l)), some (.str (tx a)), some (.str (chr1 (l.getD i 0)))]) (fun _ => false) rfl scSigns.nd (ri_str (re_var 0)) (blkOk_by (N := nSigns) (sc := defScope (top 26)) (by decide +kernel)) (fun _ _ _ _ _ => pg_name (i := 2) scSigns.nd rfl (Or.inl rfl)) (fun i d h => ?_) (fun i d h q s H C cl fp => ?_) (fun i d h hb q s H C cl fp => ?_) (fun i d h hb => rfl) (by rw [signs_len]; omega)
            · obtain ⟨rfl, _⟩ := signs_at h
              exact tg_name (by decide)
            · have qq := ov_niC (K := K) (p := q) (c := c) (ch := l.getD i 0) (z := tx a)
              rw [tx_list] at qq
              exact pts_one (rt_cmp op_notIn_sign (re_var 2) (re_var 1) qq)
            · exact re_var 2
        · rw [decide_eq_false h6, Bool.false_and]
          refine rss_ret (rs_if (kb := true) (RW.rt (rw_or (k1 := false) (k2 := true) (rt_not (rt_val (re_callB (d := .bl true) call_isi G.isi PyProof.Rows.boot_isinstance (ra_cons (re_var 0) (ra_cons (re_ty G.str PyProof.Rows.boot_str) ra_nil)) (cv_isi ht (isi_str ht))))) fun _ => rw_or1 (rt_cmp (nw := true) op_gt (re_callB call_len G.len PySem.boot_len (ra_cons (re_var 0) ra_nil) (cv_lenT (by omega))) re_int ?_))) (fun _ => rss_ret (rs_ret re_bl)) fun z => nomatch z)
          have q := ov_ib (K := K) (p := p) (c := c) (f := fun i j => decide (j < i)) (i := (l.length : Nat)) (j := 6)
          rw [decide_eq_true (by omega)] at q
          exact q
      | _ => cases hs
    · have hf : isStrD d = false := by simpa using hs
      have hp : isW a d = false := by unfold isW; rw [hf, Bool.false_and]
      rw [hp]
      refine rss_ret (rs_if (kb := true) (RW.rt (rw_or (k1 := true) (k2 := true) (rt_not (rt_val (re_callB (d := .bl false) call_isi G.isi PyProof.Rows.boot_isinstance (ra_cons (re_var 0) (ra_cons (re_ty G.str PyProof.Rows.boot_str) ra_nil)) (cv_isi ht (by rw [isi_str ht, hf]))))) fun z => nomatch z)) (fun _ => rss_ret (rs_ret re_bl)) fun z => nomatch z)
end
end K12
namespace K12
open PySem PySem.Spec PyProof.Rows L2 LA
/-! ### a drawn text -/
def signL : List Str := ["01", "01-", "01-", "01-2", "-0a"]
def signsV (c : PC) : List Nat := (signL.getD (drawV c 5).toNat "01").cps.toList
def csX (m : Int) (c : PC) : Nat → PC
  | 0 => c
  | n + 1 => drawC (csX m c n) m
def textL (c : PC) : List Nat :=
  let a := signsV c
  let c1 := drawC c 5
  (List.range (drawV c1 9).toNat).map fun i => a.getD (drawV (csX (a.length : Nat) (drawC c1 9) i) (a.length : Nat)).toNat 0
def textC (c : PC) : PC := csX ((signsV c).length : Nat) (drawC (drawC c 5) 9) (drawV (drawC c 5) 9).toNat
def textR : FSpec := fun ds c o => ds = [.pool] ∧ o = .val (.str (tx (textL c))) true (textC c)
theorem signs_ok : ∀ s ∈ signL, 0 < s.cps.toList.length ∧ s.cps.toList.length < 10 ∧ ∀ n ∈ s.cps.toList, n < 0x110000 := by decide
theorem signsV_ok (c : PC) : 0 < (signsV c).length ∧ (signsV c).length < 10 ∧ ∀ n ∈ signsV c, n < 0x110000 := by
  have h := drawV_in (c := c) (show (0 : Int) < 5 by decide)
  refine signs_ok _ ?_
  rw [List.getD_eq_getElem?_getD, List.getElem?_eq_getElem (show (drawV c 5).toNat < signL.length by show _ < 5; omega)]
  exact List.getElem_mem _
theorem text_ok (c : PC) : (textL c).length ≤ 8 ∧ ∀ n ∈ textL c, n < 0x110000 := by
  obtain ⟨h0, h1, h2⟩ := signsV_ok c
  have hd := drawV_in (c := drawC c 5) (show (0 : Int) < 9 by decide)
  unfold textL
  refine ⟨by rw [List.length_map, List.length_range]; omega, fun n hn => ?_⟩
  obtain ⟨i, _, rfl⟩ := List.mem_map.mp hn
  refine h2 _ ?_
  have hq := drawV_in (c := csX ((signsV c).length : Nat) (drawC (drawC c 5) 9) i) (show (0 : Int) < ((signsV c).length : Nat) by omega)
  rw [List.getD_eq_getElem?_getD, List.getElem?_eq_getElem (by omega)]
  exact List.getElem_mem _
def strLst (l : List Str) : List D := l.map D.str
section
variable {P : Program} {w : World} {K : PySem.W.Frag} {mg : Str → Option Value} {base : Heap} {B Cn fB fC : Addr}
abbrev nText : List Str := ["_law_pool_here", "_law_signs", "_law_k"]
theorem scText : FnScope nText ["_law_pool_here"] (defScope (top 25)) := ⟨rfl, rfl, rfl, by decide +kernel, rfl, by decide +kernel, by decide +kernel⟩
theorem ok_text {f : Addr} {fd : FuncData} (G : Glb mg) (T : DrawD P w K mg base) (F : Fun K "_law_text" "_law_text" (top 25) f fd) : FnOk P w K mg base CX0 2 f fd ["_law_pool_here"] (spF K textR) := by
  refine fn_val F scText (fun ds c o h => ?_) (fun ds c o h => ?_) (fun cdv A outer s H E hr p ds c o h => ?_)
  · obtain ⟨rfl, _⟩ := h
    rfl
  · obtain ⟨_, rfl⟩ := h
    exact ⟨_, _, _, rfl⟩
  · obtain ⟨rfl, rfl⟩ := h
    refine .inl ?_
    have h5 := drawV_in (c := c) (show (0 : Int) < 5 by decide)
    have h9 := drawV_in (c := drawC c 5) (show (0 : Int) < 9 by decide)
    obtain ⟨s0, s1, s2⟩ := signsV_ok c
    have hz : (signL.getD (drawV c 5).toNat "01") = tx (signsV c) := (tx_of _).symm
    refine rss_cons (c1 := drawC c 5) (ρ1 := [some .pool, some (.str (tx (signsV c))), none]) (rs_set (nw := false) 1 scText.nd (re_ix ix_seq (re_lst (ra_cons re_str (ra_cons re_str (ra_cons re_str (ra_cons re_str (ra_cons re_str ra_nil))))) (by show 5 ≤ 100000; decide)) (re_draw 0 T hr (by decide) (by decide)) (ov_ixL (j := (drawV c 5).toNat) (Int.toNat_of_nonneg h5.1).symm ?_))) ?_
    · rw [← hz]
      show (strLst signL)[(drawV c 5).toNat]? = _
      unfold strLst
      rw [List.getElem?_map, List.getD_eq_getElem?_getD, List.getElem?_eq_getElem (show (drawV c 5).toNat < signL.length by show _ < 5; omega)]
      rfl
    · refine rss_ret (rs_ret (re_joinC (l := textL c) (c1 := drawC c 5) (n1 := true) (n2 := true) (g := ⟨false, true⟩) re_str ?_ (by have := (text_ok c).1; omega)))
      have key : (List.range (intsD (drawV (drawC c 5) 9).toNat).length).map (fun i => D.str (chr1 ((signsV c).getD (drawV (csX ((signsV c).length : Nat) (drawC (drawC c 5) 9) i) ((signsV c).length : Nat)).toNat 0))) = (textL c).map fun n => D.str (chr1 n) := by
        unfold textL
        rw [intsD_len, List.map_map]
        rfl
      rw [← key]
      have fin : textC c = csX ((signsV c).length : Nat) (drawC (drawC c 5) 9) (intsD (drawV (drawC c 5) 9).toNat).length := by rw [intsD_len]; rfl
      rw [fin]
      refine re_lcA (own := [("_law_k", 2)]) (g := gName 2) _ (csX ((signsV c).length : Nat) (drawC (drawC c 5) 9)) (fun i => [some .pool, some (.str (tx (signsV c))), some (.int (i : Nat))]) (fun _ => true) rfl scText.nd (ri_range G.range (re_draw 0 T hr (by decide) (by decide)) (by omega) (by omega)) (blkOk_by (N := nText) (sc := defScope (top 25)) (by decide +kernel)) (fun _ _ _ _ _ => pg_name (i := 2) scText.nd rfl (Or.inl rfl)) (fun i d h => ?_) (fun i d h q s H C cl fp => ?_) (by rw [intsD_len]; omega)
      · obtain ⟨rfl, _⟩ := intsD_at h
        exact tg_name (by decide)
      · have hq := drawV_in (c := csX ((signsV c).length : Nat) (drawC (drawC c 5) 9) i) (show (0 : Int) < ((signsV c).length : Nat) by omega)
        exact re_ix ix_seq (re_var 1) (re_c0 T hr (ra_cons (re_var 0) (ra_cons (re_callB call_len G.len PySem.boot_len (ra_cons (re_var 1) ra_nil) (cv_lenT (by omega))) ra_nil)) ⟨((signsV c).length : Nat), rfl, by omega, by omega, rfl⟩) (ov_ixS (j := (drawV (csX ((signsV c).length : Nat) (drawC (drawC c 5) 9) i) ((signsV c).length : Nat)).toNat) (sz_le (by rw [tx_len]; omega)) (Int.toNat_of_nonneg hq.1).symm (at_get (by omega)))
abbrev StrsD (P : Program) (w : World) (K : PySem.W.Frag) (mg : Str → Option Value) (base : Heap) := Def0 P w K mg base 1 "_law_strings" ["_law_many", "_law_signs"] strsR
abbrev SignsD (P : Program) (w : World) (K : PySem.W.Frag) (mg : Str → Option Value) (base : Heap) := Def0 P w K mg base 1 "_law_fits_signs" ["_law_value", "_law_signs"] wordR
/-! ### the law's own fitting -/
def lfitR : FSpec := fun ds c o => ∃ l, ds = [.str (tx l)] ∧ l.length ≤ 6 ∧ (∀ n ∈ l, n ∈ pats) ∧ o = .val (.lst ⟨true, true⟩ (wD (fitsL l))) false c
abbrev nLfit : List Str := ["_law_pattern", "_law_found", "_law_text_here", "_law_k"]
theorem scLfit : FnScope nLfit ["_law_pattern"] (defScope (top 27)) := ⟨rfl, rfl, rfl, by decide +kernel, rfl, by decide +kernel, by decide +kernel⟩
theorem ok_lfit {f : Addr} {fd : FuncData} (G : Glb mg) (T : StrsD P w K mg base) (F : Fun K "_law_fitting" "_law_fitting" (top 27) f fd) : FnOk P w K mg base CX0 2 f fd ["_law_pattern"] (spF K lfitR) := by
  refine fn_val F scLfit (fun ds c o h => ?_) (fun ds c o h => ?_) (fun cdv A outer s H E hr p ds c o h => ?_)
  · obtain ⟨l, rfl, _⟩ := h
    rfl
  · obtain ⟨l, _, _, _, rfl⟩ := h
    exact ⟨_, _, _, rfl⟩
  · obtain ⟨l, rfl, h6, hp, rfl⟩ := h
    refine .inl ?_
    have wl := strs_all bins l.length
    have wz := strs_len (a := bins) (by decide) h6
    have e : wD (fitsL l) = coll (fun j => allAt l ((strsV bins l.length).getD j [])) (fun j => D.str (tx ((strsV bins l.length).getD j []))) (wD (strsV bins l.length)).length := by rw [wD_len, coll_filter, fits_filter hp]
    rw [e]
    have sb : (.str (Str.ofString "01") : D) = .str (tx bins) := by rw [show Str.ofString "01" = tx bins from (tx_of _).symm]
    refine rss_grow (vs := [2]) (g := gName 2) (xs := wD (strsV bins l.length)) 1 (fun j => allAt l ((strsV bins l.length).getD j [])) (fun j => D.str (tx ((strsV bins l.length).getD j []))) (fun _ => false) (fun L => [some (.str (tx l)), some (.cls L), none, none]) (fun L j => [some (.str (tx l)), some (.cls L), some (.str (tx ((strsV bins l.length).getD j []))), none]) PassesOwn.never rfl scLfit.nd (fun L => ?_) (fun L => ?_) (pg_name (i := 2) scLfit.nd rfl (Or.inr rfl)) (fun L j d h => ?_) (fun L j d h => ?_) (fun L j d h hb => re_var 2) (fun L j => ?_) (fun L => rfl) (fun L => rss_ret (rs_ret (re_var 1))) (by rw [wD_len]; omega)
    · repeat (first | exact Less.nil | apply Less.same | apply Less.skip)
    · refine ri_lst (g := ⟨false, true⟩) (nw := false) (re_c0 (ds := [.int (l.length : Nat), .str (Str.ofString "01")]) T (hr) (ra_cons (re_callB call_len G.len PySem.boot_len (ra_cons (re_var 0) ra_nil) (cv_lenT (by omega))) (ra_cons re_str ra_nil)) ⟨bins, l.length, by rw [sb], h6, by decide, by decide, rfl⟩)
    · obtain ⟨rfl, _⟩ := wD_at h
      exact tg_name (by decide)
    · obtain ⟨_, hj, hm⟩ := wD_at h
      have hw := wl _ hm
      generalize (strsV bins l.length).getD j [] = v at *
      have q1 : allAt l v = (coll (fun i => !at1 (l.getD i 0) (v.getD i 0)) (fun i => D.int (i : Nat)) l.length).isEmpty := by
        rw [coll_none, ← allAt_range l v hw.symm]
        congr 1
        funext i
        rw [Bool.not_not]
      rw [q1]
      have hn : (intsD ((l.length : Nat) : Int).toNat).length = l.length := by rw [intsD_len, Int.toNat_natCast]
      refine rt_cmp (op_eqD hr.units) (n1 := true) (d1 := .lst ⟨false, true⟩ (coll (fun i => !at1 (l.getD i 0) (v.getD i 0)) (fun i => D.int (i : Nat)) l.length)) (c1 := c) ?_ (re_lst ra_nil (by show 0 ≤ 100000; decide)) (ov_eqNil (ints_flat _ _))
      generalize hsp : intsD ((l.length : Nat) : Int).toNat = sp at *
      have hc : coll (fun i => !at1 (l.getD i 0) (v.getD i 0)) (fun i => D.int (i : Nat)) l.length = coll (fun i => !at1 (l.getD i 0) (v.getD i 0)) (fun i => D.int (i : Nat)) sp.length := by rw [hn]
      rw [hc]
      refine re_lc (own := [("_law_k", 3)]) (g := gName 3) _ _ (fun _ => c) (fun _ => c) (fun i => [some (.str (tx l)), some (.cls L), some (.str (tx v)), some (.int (i : Nat))]) (fun _ => false) rfl scLfit.nd (by rw [← hsp]; exact ri_range G.range (re_callB call_len G.len PySem.boot_len (ra_cons (re_var 0) ra_nil) (cv_lenT (by omega))) (by omega) (by omega)) (blkOk_by (N := nLfit) (sc := defScope (top 27)) (by decide +kernel)) (fun _ _ _ _ _ => pg_name (i := 3) scLfit.nd rfl (Or.inl rfl)) (fun i d h => ?_) (fun i d h q s H C cl fp => ?_) (fun i d h hb q s H C cl fp => re_var 3) (fun i d h hb => rfl) (by rw [hn]; omega)
      · obtain ⟨rfl, _⟩ := intsD_at (hsp ▸ h)
        exact tg_name (by decide)
      · obtain ⟨rfl, hi⟩ := intsD_at (hsp ▸ h)
        rw [Int.toNat_natCast] at hi
        refine pts_one (rt_cmp (nw := true) op_notIn_seq (re_ix ix_seq (re_var 0) (re_var 3) (ov_ixS (sz_le (by rw [tx_len]; omega)) rfl (at_get hi))) (re_tup (ra_cons re_str (ra_cons (re_ix ix_seq (re_var 2) (re_var 3) (ov_ixS (sz_le (by rw [tx_len]; omega)) rfl (at_get (by omega)))) ra_nil)) (by show 2 ≤ 100000; decide)) ?_)
        exact ov_inT (neg := true) (v := .str (chr1 (l.getD i 0))) (xs := [.str (Str.ofString "-"), .str (chr1 (v.getD i 0))]) rfl rfl rfl rfl
    · repeat (first | exact Less.nil | apply Less.same | apply Less.skip)
end
end K12
namespace K12
open PySem PySem.Spec PyProof.Rows L2 LA
def other : List Nat := (Str.ofString "01-").cps.toList
theorem isW_other (d : D) : isW other d = isW pats d := by
  have e1 : other = [48, 49, 45] := by decide
  unfold isW
  rw [e1, pats_eq]
  congr 3
  funext n
  rw [Bool.eq_iff_iff]
  simp only [decide_eq_true_eq, List.mem_cons, List.not_mem_nil, or_false]
  omega
def signs3 (m : Nat) : List Nat := if m = 3 then bins else pats
def Lp (s : Str) (d : D) : D := .lst ⟨true, true⟩ [.str s, d]
def dueV (m : Nat) (d : D) : D :=
  if 2 < m then (if posD d 7 = true then .lst ⟨false, true⟩ (wD (strsV (signs3 m) (cntN d))) else Lp "count" d)
  else if isW pats d = true then (match m with | 0 => knownV (cds d) | 1 => sizeV (cds d) | _ => .lst ⟨true, true⟩ (wD (fitsL (cds d)))) else Lp "pattern" d
def toldV (m : Nat) (d : D) : D :=
  if 2 < m then (if posD d 7 = true then allV (signs3 m) (cntN d) else Lp "count" d)
  else if isW pats d = true then (match m with | 0 => knownV (cds d) | 1 => sizeV (cds d) | _ => fitsV (cds d)) else Lp "pattern" d
theorem told_due (m : Nat) (d : D) : toPy (toldV m d) = toPy (dueV m d) := by
  unfold toldV dueV
  by_cases h : 2 < m
  · rw [if_pos h, if_pos h]
    by_cases h2 : posD d 7 = true
    · rw [if_pos h2, if_pos h2]
      unfold allV
      rw [toPy_lst, toPy_lst]
      rfl
    · rw [if_neg h2, if_neg h2]
  · rw [if_neg h, if_neg h]
    by_cases h2 : isW pats d = true
    · rw [if_pos h2, if_pos h2]
      match m with
      | 0 => rfl
      | 1 => rfl
      | m + 2 =>
        show toPy (fitsV (cds d)) = toPy (.lst ⟨true, true⟩ (wD (fitsL (cds d))))
        unfold fitsV
        rw [toPy_lst, toPy_lst]
    · rw [if_neg h2, if_neg h2]
def dueR : FSpec := fun ds c o => ∃ (m : Nat) (d : D), ds = [.int (m : Nat), d] ∧ m < 5 ∧ Fit d ∧ o = .val (dueV m d) false c
def toldR : FSpec := fun ds c o => ∃ (m : Nat) (d : D), ds = [.int (m : Nat), d] ∧ m < 5 ∧ Fit d ∧ o = .val (toldV m d) true c
section
variable {P : Program} {w : World} {K : PySem.W.Frag} {mg : Str → Option Value} {base : Heap} {B Cn fB fC Lk : Addr}
abbrev LfitD (P : Program) (w : World) (K : PySem.W.Frag) (mg : Str → Option Value) (base : Heap) := Def0 P w K mg base 2 "_law_fitting" ["_law_pattern"] lfitR
abbrev nDue : List Str := ["_law_which", "_law_value", "_law_spots", "_law_k"]
theorem scDue : FnScope nDue ["_law_which", "_law_value"] (defScope (top 29)) := ⟨rfl, rfl, rfl, by decide +kernel, rfl, by decide +kernel, by decide +kernel⟩
theorem ok_due {f : Addr} {fd : FuncData} (G : Glb mg) (TS : StrsD P w K mg base) (TG : SignsD P w K mg base) (TL : LfitD P w K mg base) (F : Fun K "_law_due" "_law_due" (top 29) f fd) : FnOk P w K mg base CX0 3 f fd ["_law_which", "_law_value"] (spF K dueR) := by
  refine fn_val F scDue (fun ds c o h => ?_) (fun ds c o h => ?_) (fun cdv A outer s H E hr p ds c o h => ?_)
  · obtain ⟨m, d, rfl, _⟩ := h
    rfl
  · obtain ⟨m, d, _, _, _, rfl⟩ := h
    exact ⟨_, _, _, rfl⟩
  · obtain ⟨m, d, rfl, hm, fd', rfl⟩ := h
    obtain ⟨t, ht⟩ := fd'.ty
    have hr1 : Room 1 _ := hr.mono (by decide)
    refine .inl ?_
    unfold dueV
    by_cases h2 : 2 < m
    · rw [if_pos h2]
      have tst : RT (cxOf CX0 P w K mg base nDue "_law_due" (defScope (top 29)) f cdv A outer s H E).nox Wf p (startR nDue [.int (m : Nat), d]) c (match defBody (top 29) with | .If _ (.If t _ _ _ :: _) _ _ :: _ => t | _ => .Constant .none 0 ⟨0, 0, 0, 0⟩) (.val (!posD d 7) c) := by
        cases d with
        | int i =>
          have e : (!posD (.int i) 7) = (false || (false || !(decide (0 ≤ i) && decide (i ≤ 6)))) := by
            show (!(decide (0 ≤ i) && decide (i < 7))) = _
            rw [show decide (i < 7) = decide (i ≤ 6) by rw [Bool.eq_iff_iff]; simp; omega]
            rfl
          rw [e]
          exact RW.rt (rw_or (rt_val (re_callB call_isi G.isi PyProof.Rows.boot_isinstance (ra_cons (re_var 1) (ra_cons (re_ty G.bool PyProof.Rows.boot_bool) ra_nil)) (cv_isi ht (isi_bool ht)))) fun _ => rw_or (rt_not (rt_val (re_callB call_isi G.isi PyProof.Rows.boot_isinstance (ra_cons (re_var 1) (ra_cons (re_ty G.int PyProof.Rows.boot_int) ra_nil)) (cv_isi ht (isi_int ht))))) fun _ => rw_or1 (rt_not (rt_chain op_le op_le re_int (re_var 1) re_int ov_ib ov_ib)))
        | bl b => exact RW.rt (rw_or (k1 := true) (k2 := true) (rt_val (re_callB call_isi G.isi PyProof.Rows.boot_isinstance (ra_cons (re_var 1) (ra_cons (re_ty G.bool PyProof.Rows.boot_bool) ra_nil)) (cv_isi ht (isi_bool ht)))) fun z => nomatch z)
        | _ => exact RW.rt (rw_or (k1 := false) (k2 := true) (rt_val (re_callB call_isi G.isi PyProof.Rows.boot_isinstance (ra_cons (re_var 1) (ra_cons (re_ty G.bool PyProof.Rows.boot_bool) ra_nil)) (cv_isi ht (isi_bool ht)))) fun _ => rw_or (k1 := true) (k2 := true) (rt_not (rt_val (re_callB call_isi G.isi PyProof.Rows.boot_isinstance (ra_cons (re_var 1) (ra_cons (re_ty G.int PyProof.Rows.boot_int) ra_nil)) (cv_isi ht (isi_int ht))))) fun z => nomatch z)
      have big : RT (cxOf CX0 P w K mg base nDue "_law_due" (defScope (top 29)) f cdv A outer s H E).nox Wf p (startR nDue [.int (m : Nat), d]) c (match defBody (top 29) with | .If t _ _ _ :: _ => t | _ => .Constant .none 0 ⟨0, 0, 0, 0⟩) (.val true c) := by
        refine rt_cmp (nw := true) op_gt (re_var 0) re_int ?_
        have q := ov_ib (K := K) (p := p) (c := c) (f := fun i j => decide (j < i)) (i := (m : Nat)) (j := 2)
        rw [decide_eq_true (by omega)] at q
        exact q
      cases hp : posD d 7 with
      | false =>
        rw [hp] at tst
        rw [if_neg Bool.false_ne_true]
        exact rss_ret (rs_if (kb := true) big (fun _ => rss_ret (rs_if (kb := true) tst (fun _ => rss_ret (rs_ret (re_old (re_lst (ra_cons re_str (ra_cons (re_var 1) ra_nil)) (by show 2 ≤ 100000; decide))))) fun z => nomatch z)) fun z => nomatch z)
      | true =>
        rw [hp] at tst
        rw [if_pos rfl]
        cases d with
        | int i =>
          obtain ⟨i0, i1⟩ := Bool.and_eq_true_iff.mp (show (decide (0 ≤ i) && decide (i < 7)) = true from hp)
          have i0 := of_decide_eq_true i0
          have i1 := of_decide_eq_true i1
          obtain ⟨n, rfl⟩ : ∃ n : Nat, i = (n : Nat) := ⟨i.toNat, (Int.toNat_of_nonneg i0).symm⟩
          have cn : cntN (.int (n : Nat)) = n := Int.toNat_natCast n
          rw [cn]
          refine rss_ret (rs_if (kb := true) big (fun _ => rss_cons (rs_if (kb := false) tst (fun z => nomatch z) fun _ => rss_nil) (rss_ret (rs_ret (re_c0 (ds := [.int (n : Nat), .str (tx (signs3 m))]) TS hr1 (ra_cons (re_var 1) (ra_cons (nw := true) ?_ ra_nil)) ⟨signs3 m, n, rfl, by omega, ?_, ?_, rfl⟩)))) fun z => nomatch z)
          · unfold signs3
            by_cases m3 : m = 3
            · rw [if_pos m3]
              refine re_if (k := true) (rt_cmp op_eq (re_var 0) re_int (ov_eqIt (by omega))) (fun _ => ?_) fun z => nomatch z
              rw [show tx bins = Str.ofString "01" from tx_of _]
              exact re_str
            · rw [if_neg m3]
              refine re_if (k := false) (rt_cmp op_eq (re_var 0) re_int (ov_eqIf (by omega))) (fun z => nomatch z) fun _ => ?_
              rw [show tx pats = Str.ofString "-01" from tx_of _]
              exact re_str
          · unfold signs3
            split <;> decide
          · unfold signs3
            split <;> decide
        | _ => cases hp
    · rw [if_neg h2]
      have low : RT (cxOf CX0 P w K mg base nDue "_law_due" (defScope (top 29)) f cdv A outer s H E).nox Wf p (startR nDue [.int (m : Nat), d]) c (match defBody (top 29) with | .If t _ _ _ :: _ => t | _ => .Constant .none 0 ⟨0, 0, 0, 0⟩) (.val false c) := by
        refine rt_cmp (nw := true) op_gt (re_var 0) re_int ?_
        have q := ov_ib (K := K) (p := p) (c := c) (f := fun i j => decide (j < i)) (i := (m : Nat)) (j := 2)
        rw [decide_eq_false (by omega)] at q
        exact q
      refine rss_cons (c1 := c) (rs_if (kb := false) low (fun z => nomatch z) fun _ => rss_nil) ?_
      have sg : wordR [d, .str (Str.ofString "01-")] c (.val (.bl (isW pats d)) true c) := ⟨d, _, rfl, fd', by rw [← isW_other]; rfl⟩
      cases hp : isW pats d with
      | false =>
        rw [hp] at sg
        rw [if_neg Bool.false_ne_true]
        exact rss_ret (rs_if (kb := true) (rt_not (rt_val (re_c0 TG hr1 (ra_cons (re_var 1) (ra_cons re_str ra_nil)) sg))) (fun _ => rss_ret (rs_ret (re_old (re_lst (ra_cons re_str (ra_cons (re_var 1) ra_nil)) (by show 2 ≤ 100000; decide))))) fun z => nomatch z)
      | true =>
        rw [hp] at sg
        rw [if_pos rfl]
        obtain ⟨l, rfl, h6, hl⟩ := isW_str hp
        rw [cds_tx]
        refine rss_cons (c1 := c) (rs_if (kb := false) (rt_not (rt_val (re_c0 TG hr1 (ra_cons (re_var 1) (ra_cons re_str ra_nil)) sg))) (fun z => nomatch z) fun _ => rss_nil) ?_
        have hn : (intsD ((l.length : Nat) : Int).toNat).length = l.length := by rw [intsD_len, Int.toNat_natCast]
        refine rss_cons (c1 := c) (ρ1 := [some (.int (m : Nat)), some (.str (tx l)), some (knownV l), none]) ?_ ?_
        · unfold knownV knownL
          generalize hsp : intsD ((l.length : Nat) : Int).toNat = sp at *
          have hc : coll (fun i => !decide (chr1 (l.getD i 0) = Str.ofString "-")) (fun i => D.int (i : Nat)) l.length = coll (fun i => !decide (chr1 (l.getD i 0) = Str.ofString "-")) (fun i => D.int (i : Nat)) sp.length := by rw [hn]
          rw [hc]
          refine rs_lc (own := [("_law_k", 3)]) (g := gName 3) 2 _ _ (fun _ => c) (fun _ => c) (fun i => [some (.int (m : Nat)), some (.str (tx l)), none, some (.int (i : Nat))]) (fun _ => false) rfl scDue.nd (by rw [← hsp]; exact ri_range G.range (re_callB call_len G.len PySem.boot_len (ra_cons (re_var 1) ra_nil) (cv_lenT (by omega))) (by omega) (by omega)) (blkOk_by (N := nDue) (sc := defScope (top 29)) (by decide +kernel)) (fun _ _ _ _ _ => pg_name (i := 3) scDue.nd rfl (Or.inl rfl)) (fun i d h => ?_) (fun i d h q s H C cl fp => ?_) (fun i d h hb q s H C cl fp => re_var 3) (fun i d h hb => rfl) (by rw [hn]; omega)
          · obtain ⟨rfl, _⟩ := intsD_at (hsp ▸ h)
            exact tg_name (by decide)
          · obtain ⟨rfl, hi⟩ := intsD_at (hsp ▸ h)
            rw [Int.toNat_natCast] at hi
            exact pts_one (rt_cmp op_ne (re_ix ix_seq (re_var 1) (re_var 3) (ov_ixS (sz_le (by rw [tx_len]; omega)) rfl (at_get hi))) re_str ov_neT)
        · refine rss_ret (rs_ret (re_ix ix_seq (re_lst (ds := [knownV l, sizeV l, .lst ⟨true, true⟩ (wD (fitsL l))]) (ra_cons (re_var 2) (ra_cons (re_callB call_len G.len PySem.boot_len (ra_cons (re_var 2) ra_nil) cv_lenL) (ra_cons (re_c0 TL (hr.mono (by decide)) (ra_cons (re_var 1) ra_nil) ⟨l, rfl, h6, hl, rfl⟩) ra_nil))) (by show 3 ≤ 100000; decide)) (re_var 0) (ov_ixL (j := m) rfl ?_)))
          match m, h2 with
          | 0, _ => rfl
          | 1, _ => rfl
          | 2, _ => rfl
          | m + 3, h2 => exact absurd (show 2 < m + 3 by omega) h2
def asSt : EO → SO
  | .val d nw c => .rt d nw c
  | .ex C fs c => .ex C fs c
theorem rss_retO {X : Cx} {W : WX} {p : HD} {ρ : Rho} {c : PC} {e : Expr} {pos : Pos} {o : EO} {rest : List Stmt} (h : RE X W p ρ c e o) : RSs X W p ρ c (.Return (some e) pos :: rest) (asSt o) := by
  cases o with
  | val d nw c' => exact rss_ret (rs_ret h)
  | ex C fs c' => exact rss_ex (rs_retX h)
theorem rss_ifO {X : Cx} {W : WX} {p : HD} {ρ : Rho} {c c1 : PC} {t : Expr} {A : List Stmt} {pos : Pos} {o : EO} {rest : List Stmt} (ht : RT X W p ρ c t (.val true c1)) (h : RSs X W p ρ c1 A (asSt o)) : RSs X W p ρ c (.If t A [] pos :: rest) (asSt o) := by
  cases o with
  | val d nw c' => exact rss_ret (rs_if (kb := true) ht (fun _ => h) fun z => nomatch z)
  | ex C fs c' => exact rss_ex (rs_if (kb := true) ht (fun _ => h) fun z => nomatch z)
end
end K12
namespace K12
open PySem PySem.Spec PyProof.Rows L2 LA
/-- what the clauses ask of the classes -/
structure Exm (K : PySem.W.Frag) (mg : Str → Option Value) (B Cn Lk : Addr) : Prop where
  bb : PySem.W.exmOne K (.ref B) (.ref B) = some true
  cb : PySem.W.exmOne K (.ref Cn) (.ref B) = some false
  cc : PySem.W.exmOne K (.ref Cn) (.ref Cn) = some true
  mL : mg "LooksError" = some (.ref Lk)
section
variable {P : Program} {w : World} {K : PySem.W.Frag} {mg : Str → Option Value} {base : Heap} {B Cn fB fC Lk : Addr}
abbrev nTold : List Str := ["_law_which", "_law_value", "e"]
theorem scTold : FnScope nTold ["_law_which", "_law_value"] (defScope (top 28)) := ⟨rfl, rfl, rfl, by decide +kernel, rfl, by decide +kernel, by decide +kernel⟩
def outV (B Cn : Addr) (m : Nat) (d : D) (c : PC) : EO :=
  if 2 < m then (if posD d 7 = true then .val (allV (signs3 m) (cntN d)) true c else .ex Cn [("given", d)] c)
  else if isW pats d = true then .val (match m with | 0 => knownV (cds d) | 1 => sizeV (cds d) | _ => fitsV (cds d)) true c else .ex B [("given", d)] c
theorem out_cases (B Cn : Addr) (m : Nat) (d : D) (c : PC) : (outV B Cn m d c = .val (toldV m d) true c) ∨ (outV B Cn m d c = .ex B [("given", d)] c ∧ toldV m d = Lp "pattern" d) ∨ (outV B Cn m d c = .ex Cn [("given", d)] c ∧ toldV m d = Lp "count" d) := by
  unfold outV toldV
  by_cases h : 2 < m
  · rw [if_pos h, if_pos h]
    by_cases h2 : posD d 7 = true
    · rw [if_pos h2, if_pos h2]
      exact .inl rfl
    · rw [if_neg h2, if_neg h2]
      exact .inr (.inr ⟨rfl, rfl⟩)
  · rw [if_neg h, if_neg h]
    by_cases h2 : isW pats d = true
    · rw [if_pos h2, if_pos h2]
      exact .inl rfl
    · rw [if_neg h2, if_neg h2]
      exact .inr (.inl ⟨rfl, rfl⟩)
theorem ok_told {f : Addr} {fd : FuncData} (Er : Err K mg B Cn fB fC) (Em : Exm K mg B Cn Lk) (T0 : PatD P w K mg base B 4 "known" knownV) (T1 : PatD P w K mg base B 5 "size" sizeV) (T2 : PatD P w K mg base B 4 "fitting" fitsV) (T3 : AllD P w K mg base Cn "inputs" bins) (T4 : AllD P w K mg base Cn "patterns" pats)
    (F : Fun K "_law_told" "_law_told" (top 28) f fd) : FnOk P w K mg base CX0 6 f fd ["_law_which", "_law_value"] (spF K toldR) := by
  refine fn_val F scTold (fun ds c o h => ?_) (fun ds c o h => ?_) (fun cdv A outer s H E hr p ds c o h => ?_)
  · obtain ⟨m, d, rfl, _⟩ := h
    rfl
  · obtain ⟨m, d, _, _, _, rfl⟩ := h
    exact ⟨_, _, _, rfl⟩
  · obtain ⟨m, d, rfl, hm, fd', rfl⟩ := h
    refine .inl (rss_ret ?_)
    have body : ∀ (W' : WX) (pn : List (Addr × Obj)) (xe : Value → Shared → Prop), Takes ((cxOf CX0 P w K mg base nTold "_law_told" (defScope (top 28)) f cdv A outer s H E).nox.tr pn xe) W' →
        RSs ((cxOf CX0 P w K mg base nTold "_law_told" (defScope (top 28)) f cdv A outer s H E).nox.tr pn xe) W' p (startR nTold [.int (m : Nat), d]) c (match defBody (top 28) with | .Try b _ _ _ _ :: _ => b | _ => []) (asSt (outV B Cn m d c)) := fun W' pn xe tk => by
      by_cases m0 : m = 0
      · subst m0
        exact rss_ifO (rt_cmp op_eq (re_var 0) re_int (ov_eqIt rfl)) (rss_retO (re_c1 tk T0 (hr.mono (by decide)) (ra_cons (re_var 1) ra_nil) ⟨d, rfl, fd', rfl⟩))
      · refine rss_cons (c1 := c) (rs_if (kb := false) (rt_cmp op_eq (re_var 0) re_int (ov_eqIf (by omega))) (fun z => nomatch z) fun _ => rss_nil) ?_
        by_cases m1 : m = 1
        · subst m1
          exact rss_ifO (rt_cmp op_eq (re_var 0) re_int (ov_eqIt rfl)) (rss_retO (re_c1 tk T1 (hr.mono (by decide)) (ra_cons (re_var 1) ra_nil) ⟨d, rfl, fd', rfl⟩))
        · refine rss_cons (c1 := c) (rs_if (kb := false) (rt_cmp op_eq (re_var 0) re_int (ov_eqIf (by omega))) (fun z => nomatch z) fun _ => rss_nil) ?_
          by_cases m2 : m = 2
          · subst m2
            exact rss_ifO (rt_cmp op_eq (re_var 0) re_int (ov_eqIt rfl)) (rss_retO (re_c1 tk T2 (hr.mono (by decide)) (ra_cons (re_var 1) ra_nil) ⟨d, rfl, fd', rfl⟩))
          · refine rss_cons (c1 := c) (rs_if (kb := false) (rt_cmp op_eq (re_var 0) re_int (ov_eqIf (by omega))) (fun z => nomatch z) fun _ => rss_nil) ?_
            by_cases m3 : m = 3
            · subst m3
              exact rss_retO (re_if (k := true) (rt_cmp op_eq (re_var 0) re_int (ov_eqIt rfl)) (fun _ => re_c1 tk T3 (hr.mono (by decide)) (ra_cons (re_var 1) ra_nil) ⟨d, rfl, fd', rfl⟩) fun z => nomatch z)
            · obtain rfl : m = 4 := by omega
              exact rss_retO (re_if (k := false) (rt_cmp op_eq (re_var 0) re_int (ov_eqIf (by omega))) (fun z => nomatch z) fun _ => re_c1 tk T4 (hr.mono (by decide)) (ra_cons (re_var 1) ra_nil) ⟨d, rfl, fd', rfl⟩)
    rcases out_cases B Cn m d c with h | ⟨h, hd⟩ | ⟨h, hd⟩
    · rw [h] at body
      exact rs_try rfl rfl scTold.nd takes0 (fun W' pn xe tk _ => body W' pn xe tk) (cl_no (i := 2) ⟨rfl, by decide, .inl Er.mB⟩ rfl rfl (cl_no (i := 2) ⟨rfl, by decide, .inl Er.mC⟩ rfl rfl (cl_no0 ⟨rfl, by decide, .inl Em.mL⟩ .nil)))
    · rw [h] at body
      rw [hd]
      refine rs_tryX (i := 2) (C := B) (fs := [("given", d)]) (c1 := c) rfl rfl scTold.nd takes0 (fun W' pn xe tk _ => body W' pn xe tk) (cl_yes (i := 2) ⟨rfl, by decide, .inl Er.mB⟩ rfl rfl (fun a dx oe pn z fz => rss_ret (rs_ret (re_lst (ra_cons re_str (ra_cons (re_xf (d := d) Er.xB Er.nB z fz rfl (re_var 2) rfl) ra_nil)) (by show 2 ≤ 100000; decide)))) (cl_no (i := 2) ⟨rfl, by decide, .inl Er.mC⟩ rfl rfl (cl_no0 ⟨rfl, by decide, .inl Em.mL⟩ .nil))) (.here Em.bb)
    · rw [h] at body
      rw [hd]
      refine rs_tryX (i := 2) (C := Cn) (fs := [("given", d)]) (c1 := c) rfl rfl scTold.nd takes0 (fun W' pn xe tk _ => body W' pn xe tk) (cl_no (i := 2) ⟨rfl, by decide, .inl Er.mB⟩ rfl rfl (cl_yes (i := 2) ⟨rfl, by decide, .inl Er.mC⟩ rfl rfl (fun a dx oe pn z fz => rss_ret (rs_ret (re_lst (ra_cons re_str (ra_cons (re_xf (d := d) Er.xC Er.nC z fz rfl (re_var 2) rfl) ra_nil)) (by show 2 ≤ 100000; decide)))) (cl_no0 ⟨rfl, by decide, .inl Em.mL⟩ .nil))) (.there Em.cb (.here Em.cc))
end
end K12
namespace K12
open PySem PySem.Spec PyProof.Rows L2 LA
/-! ### what is told can be shown -/
theorem step_low {ws : List (List Nat)} {ls : List Nat} (h : ∀ w ∈ ws, ∀ n ∈ w, n < 0x110000) (hl : ∀ n ∈ ls, n < 0x110000) : ∀ w ∈ step ws ls, ∀ n ∈ w, n < 0x110000 := by
  intro w hw n hn
  unfold step at hw
  obtain ⟨a, ha, hb⟩ := List.mem_flatMap.mp hw
  obtain ⟨x, hx, rfl⟩ := List.mem_map.mp hb
  rcases List.mem_append.mp hn with hn | hn
  · exact h a ha n hn
  · rcases List.mem_cons.mp hn with rfl | hn
    · exact hl _ hx
    · cases hn
theorem words_low : ∀ (cs : List (List Nat)) {ws : List (List Nat)}, (∀ w ∈ ws, ∀ n ∈ w, n < 0x110000) → (∀ l ∈ cs, ∀ n ∈ l, n < 0x110000) → ∀ w ∈ wordsV ws cs, ∀ n ∈ w, n < 0x110000
  | [], _, h, _ => h
  | l :: r, ws, h, hc => words_low r (step_low h (hc l List.mem_cons_self)) fun m hm => hc m (List.mem_cons_of_mem _ hm)
theorem wD_shows {g : G} {cs : List (List Nat)} (h6 : cs.length ≤ 6) (h3 : ∀ l ∈ cs, l.length ≤ 3) (hl : ∀ l ∈ cs, ∀ n ∈ l, n < 0x110000) : Shows (.lst g (wD (wordsV [[]] cs))) ∧ (wD (wordsV [[]] cs)).length ≤ 729 := by
  have wn := words_len cs (ws := [[]]) h3
  have p3 : 3 ^ cs.length ≤ 3 ^ 6 := Nat.pow_le_pow_right (by decide) h6
  have e : (3 : Nat) ^ 6 = 729 := by decide
  simp only [List.length_cons, List.length_nil] at wn
  have len : (wD (wordsV [[]] cs)).length ≤ 729 := by rw [wD_len]; omega
  refine ⟨shows_big ?_ (by omega), len⟩
  unfold wD
  rw [List.all_map, List.all_eq_true]
  intro w hw
  have a := words_all cs (ws := [[]]) (n := 0) (fun w hw => by rcases List.mem_cons.mp hw with rfl | hw; rfl; cases hw) w hw
  exact small_text (by omega) (words_low cs (ws := [[]]) (fun w hw => by rcases List.mem_cons.mp hw with rfl | hw; intro n hn; cases hn; cases hw) hl w hw)
theorem known_len (l : List Nat) : (knownL l).length ≤ l.length := coll_len _ _ _
theorem known_small {l : List Nat} (h : l.length ≤ 6) : (knownL l).all smallD = true := by
  unfold knownL
  rw [coll_some, List.all_map, List.all_eq_true]
  intro i hi
  have hi := List.mem_range.mp (List.mem_filter.mp hi).1
  show smallI ((i : Nat) : Int) = true
  unfold smallI
  rw [decide_eq_true (show (0 : Int) ≤ (i : Nat) by omega), decide_eq_true (show ((i : Nat) : Int) < 10 by omega)]
  rfl
theorem signs3_ok (m : Nat) : (signs3 m).length ≤ 3 ∧ ∀ n ∈ signs3 m, n < 0x110000 := by
  unfold signs3
  split <;> decide
theorem opt_ok {n : Nat} (h : n ∈ pats) : (opt n).length ≤ 3 ∧ ∀ x ∈ opt n, x < 0x110000 := by
  rw [pats_eq] at h
  have key : ∀ n ∈ ([45, 48, 49] : List Nat), (opt n).length ≤ 3 ∧ ∀ x ∈ opt n, x < 0x110000 := by decide
  exact key n h
/-- what is told: it can be shown, its kind, and if it is a list, one that may be written -/
theorem told_ok {m : Nat} {d : D} (fd : Fit d) : Shows (toldV m d) ∧ Shows (dueV m d) ∧ (∃ t, tyD (toldV m d) = some t) ∧ (isLstD (toldV m d) = true → ∃ g xs, toldV m d = .lst g xs ∧ g.t = true ∧ xs.length < 100000) := by
  unfold toldV dueV
  by_cases h : 2 < m
  · rw [if_pos h, if_pos h]
    by_cases h2 : posD d 7 = true
    · rw [if_pos h2, if_pos h2]
      cases d with
      | int i =>
        obtain ⟨i0, i1⟩ := Bool.and_eq_true_iff.mp (show (decide (0 ≤ i) && decide (i < 7)) = true from h2)
        have i0 := of_decide_eq_true i0
        have i1 := of_decide_eq_true i1
        have q := fun g : G => wD_shows (g := g) (cs := List.replicate i.toNat (signs3 m)) (by rw [List.length_replicate]; omega) (fun l hl => by rw [List.eq_of_mem_replicate hl]; exact (signs3_ok m).1) (fun l hl => by rw [List.eq_of_mem_replicate hl]; exact (signs3_ok m).2)
        exact ⟨(q _).1, (q _).1, ⟨_, rfl⟩, fun _ => ⟨_, _, rfl, rfl, by have := (q ⟨true, true⟩).2; show (wD (wordsV [[]] (List.replicate i.toNat (signs3 m)))).length < _; omega⟩⟩
      | _ => cases h2
    · rw [if_neg h2, if_neg h2]
      exact ⟨fd.sh2, fd.sh2, ⟨_, rfl⟩, fun _ => ⟨_, _, rfl, rfl, by show 2 < 100000; decide⟩⟩
  · rw [if_neg h, if_neg h]
    by_cases h2 : isW pats d = true
    · rw [if_pos h2, if_pos h2]
      obtain ⟨l, rfl, h6, hl⟩ := isW_str h2
      rw [cds_tx]
      have kl := known_len l
      have q := fun g : G => wD_shows (g := g) (cs := l.map opt) (by rw [List.length_map]; exact h6) (fun a ha => by obtain ⟨n, hn, rfl⟩ := List.mem_map.mp ha; exact (opt_ok (hl n hn)).1) (fun a ha => by obtain ⟨n, hn, rfl⟩ := List.mem_map.mp ha; exact (opt_ok (hl n hn)).2)
      match m with
      | 0 => exact ⟨shows_list (known_small h6) (by omega), shows_list (known_small h6) (by omega), ⟨_, rfl⟩, fun _ => ⟨_, _, rfl, rfl, by omega⟩⟩
      | 1 =>
        have sm : smallD (sizeV l) = true := by
          show smallI _ = true
          unfold smallI
          rw [decide_eq_true (show (0 : Int) ≤ ((knownL l).length : Nat) by omega), decide_eq_true (show (((knownL l).length : Nat) : Int) < 10 by omega)]
          rfl
        exact ⟨shows_small sm, shows_small sm, ⟨_, rfl⟩, fun z => nomatch z⟩
      | m + 2 => exact ⟨(q _).1, (q _).1, ⟨_, rfl⟩, fun _ => ⟨_, _, rfl, rfl, by have := (q ⟨true, true⟩).2; show (wD (fitsL l)).length < _; unfold fitsL; omega⟩⟩
    · rw [if_neg h2, if_neg h2]
      exact ⟨fd.sh, fd.sh, ⟨_, rfl⟩, fun _ => ⟨_, _, rfl, rfl, by show 2 < 100000; decide⟩⟩
theorem fit_int {i : Int} (h0 : 0 ≤ i) (h1 : i < 7) : Fit (.int i) := by
  have sm : smallD (.int i) = true := by
    show smallI i = true
    unfold smallI
    rw [decide_eq_true h0, decide_eq_true (show i < 10 by omega)]
    rfl
  refine ⟨⟨_, rfl⟩, (fun l e => by cases e), (fun l e => by cases e), shows_list (ds := [.str "pattern", .int i]) ?_ (by show 2 ≤ 90; decide), shows_list (ds := [.str "count", .int i]) ?_ (by show 2 ≤ 90; decide)⟩
  · show (smallD _ && (smallD _ && true)) = true
    rw [sm]
    decide +kernel
  · show (smallD _ && (smallD _ && true)) = true
    rw [sm]
    decide +kernel
section
variable {P : Program} {w : World} {K : PySem.W.Frag} {mg : Str → Option Value} {base : Heap} {B Cn fB fC Lk : Addr}
abbrev DueD (P : Program) (w : World) (K : PySem.W.Frag) (mg : Str → Option Value) (base : Heap) := Def0 P w K mg base 3 "_law_due" ["_law_which", "_law_value"] dueR
abbrev ToldD (P : Program) (w : World) (K : PySem.W.Frag) (mg : Str → Option Value) (base : Heap) := Def0 P w K mg base 6 "_law_told" ["_law_which", "_law_value"] toldR
def rightR : FSpec := fun ds c o => ∃ d, ds = [d] ∧ Fit d ∧ o = .val (.bl true) true c
abbrev nRight : List Str := ["_law_value", "_law_both", "_law_found", "_law_due_here", "_law_which", "_law_turn"]
theorem scRight : FnScope nRight ["_law_value"] (defScope (top 30)) := ⟨rfl, rfl, rfl, by decide +kernel, rfl, by decide +kernel, by decide +kernel⟩
abbrev bWhich : List Stmt := match defBody (top 30) with
  | [_, _, .For _ _ b _ _, _] => b
  | _ => []
abbrev bTurn : List Stmt := match defBody (top 30) with
  | [_, _, .For _ _ [.For _ _ b _ _] _ _, _] => b
  | _ => []
abbrev bBoth : List Stmt := match defBody (top 30) with
  | [_, .For _ _ b _ _, _, _] => b
  | _ => []
theorem ok_right {f : Addr} {fd : FuncData} (G : Glb mg) (TI : IsInD P w K mg base) (TP : IsPatD P w K mg base) (TS : SignsD P w K mg base) (TD : DueD P w K mg base) (TT : ToldD P w K mg base) (F : Fun K "_law_right" "_law_right" (top 30) f fd) : FnG P w K mg base 7 f fd ["_law_value"] (spF K rightR) := by
  refine fn_g F scRight (fun ds c o h => ?_) (fun ds c o h => ?_) (fun cdv A outer s H gu hr p ds c o h => ?_)
  · obtain ⟨d, rfl, _⟩ := h
    rfl
  · obtain ⟨d, _, _, rfl⟩ := h
    exact ⟨_, _, _, rfl⟩
  · obtain ⟨d, rfl, fd', rfl⟩ := h
    refine .inl ?_
    have hu : (cxOf CX0 P w K mg base nRight "_law_right" (defScope (top 30)) f cdv A outer s H E0).nox.A.units + 70 < cLine := by have := hr.un; show (A.deeper _).units + 70 < cLine; omega
    have gd : (cxOf CX0 P w K mg base nRight "_law_right" (defScope (top 30)) f cdv A outer s H E0).nox.A.guards = some [] := gu
    -- both tests
    have o1 := isW_other d
    refine rss_cons (c1 := c) (ρ1 := [some d, some (.lst ⟨true, true⟩ [.tup [.bl (isW bins d), .bl (isW bins d)], .tup [.bl (isW pats d), .bl (isW pats d)]]), none, none, none, none]) (rs_set (nw := true) 1 scRight.nd (re_lst (ra_cons (re_tup (ra_cons (re_c0 TI (hr.mono (by decide)) (ra_cons (re_var 0) ra_nil) ⟨d, rfl, fd', rfl⟩) (ra_cons (re_c0 TS (hr.mono (by decide)) (ra_cons (re_var 0) (ra_cons re_str ra_nil)) ⟨d, _, rfl, fd', rfl⟩) ra_nil)) (by show 2 ≤ 100000; decide))
      (ra_cons (re_tup (ra_cons (re_c0 TP (hr.mono (by decide)) (ra_cons (re_var 0) ra_nil) ⟨d, rfl, fd', rfl⟩) (ra_cons (re_c0 TS (hr.mono (by decide)) (ra_cons (re_var 0) (ra_cons re_str ra_nil)) ⟨d, _, rfl, fd', by rw [← o1]; rfl⟩) ra_nil)) (by show 2 ≤ 100000; decide)) ra_nil)) (by show 2 ≤ 100000; decide))) ?_
    generalize hv1 : isW bins d = v1
    generalize hv2 : isW pats d = v2
    have at2 : ∀ {i : Nat} {e : D}, [D.tup [.bl v1, .bl v1], .tup [.bl v2, .bl v2]][i]? = some e → ∃ v, e = .tup [.bl v, .bl v] ∧ v = [v1, v2].getD i true := fun {i e} h => by
      match i, h with
      | 0, h => exact ⟨v1, (Option.some.inj h).symm, rfl⟩
      | 1, h => exact ⟨v2, (Option.some.inj h).symm, rfl⟩
    refine rss_cons (c1 := c) (ρ1 := [some d, some (.lst ⟨true, true⟩ [.tup [.bl v1, .bl v1], .tup [.bl v2, .bl v2]]), none, none, none, none]) (rs_for_all (vs := [2, 3]) (g := gTup K 2 (gCons (gName 2) (gCons (gName 3) gNil))) (xs := [.tup [.bl v1, .bl v1], .tup [.bl v2, .bl v2]]) (fun _ => [some d, some (.lst ⟨true, true⟩ [.tup [.bl v1, .bl v1], .tup [.bl v2, .bl v2]]), none, none, none, none]) (fun i => [some d, some (.lst ⟨true, true⟩ [.tup [.bl v1, .bl v1], .tup [.bl v2, .bl v2]]), some (.bl ([v1, v2].getD i true)), some (.bl ([v1, v2].getD i true)), none, none]) (fun _ => c) PassesOwn.never rfl rfl (ri_lst (re_var 1)) (pg_tup rfl (pgs_cons (pg_name (i := 2) scRight.nd rfl (Or.inl rfl)) (pgs_cons (pg_name (i := 3) scRight.nd rfl (Or.inl rfl)) pgs_nil))) (fun i e h => ?_) (fun i e h => ?_)) ?_
    · obtain ⟨v, rfl, hv⟩ := at2 h
      rw [← hv]
      exact tg_two (by decide) (by decide)
    · obtain ⟨v, _, hv⟩ := at2 h
      rw [← hv]
      refine rss_less (rss_cons (rs_if (kb := false) (RW.rt (rw_or (k1 := false) (k2 := false) (rt_not (rt_val (re_callB (d := .bl true) call_isi G.isi PyProof.Rows.boot_isinstance (ra_cons (re_var 2) (ra_cons (re_ty G.bool PyProof.Rows.boot_bool) ra_nil)) (cv_isi (d := .bl v) rfl (isi_bool (d := .bl v) rfl))))) fun _ => rw_or1 (rt_cmp (nw := true) op_ne (re_var 2) (re_var 3) ?_))) (fun z => nomatch z) fun _ => rss_nil) rss_nil) (by repeat (first | exact Less.nil | apply Less.same | apply Less.skip))
      have q := ov_neB (K := K) (p := p) (c := c) (i := v) (j := v)
      rw [decide_eq_true rfl] at q
      exact q
    · -- the five questions, each twice
      generalize hL : (.lst ⟨true, true⟩ [.tup [.bl v1, .bl v1], .tup [.bl v2, .bl v2]] : D) = L
      have turn : ∀ (m t : Nat), m < 5 → RSs (cxOf CX0 P w K mg base nRight "_law_right" (defScope (top 30)) f cdv A outer s H E0).nox Wf p [some d, some L, none, none, some (.int (m : Nat)), some (.int (t : Nat))] c bTurn (.nx [some d, some L, none, none, some (.int (m : Nat)), some (.int (t : Nat))] c) := fun m t hm => by
        obtain ⟨s1, s2, ⟨ty, hty⟩, hls⟩ := told_ok (m := m) fd'
        refine rss_foundC (ca := .str (Str.ofString "x")) (va := .str (Str.ofString "x")) (d := toldV m d) (k := isLstD (toldV m d)) (c1 := c) (c2 := c) (c3 := c) 2 pe_str scRight.nd (re_c0 TT hr (ra_cons (re_var 4) (ra_cons (re_var 0) ra_nil)) ⟨m, d, rfl, hm, fd', rfl⟩)
          (rt_cmp (nw := true) op_ne (re_callB (call_repr gd hu) G.repr PyProof.Rows.boot_repr (ra_cons (re_var 2) ra_nil) (cv_repr s1)) (re_callB (call_repr gd hu) G.repr PyProof.Rows.boot_repr (ra_cons (re_c0 TD (hr.mono (by decide)) (ra_cons (re_var 4) (ra_cons (re_var 0) ra_nil)) ⟨m, d, rfl, hm, fd', rfl⟩) ra_nil) (cv_repr s2)) ?_)
          (rt_val (re_callB call_isi G.isi PyProof.Rows.boot_isinstance (ra_cons (re_var 2) (ra_cons (re_ty G.list PyProof.Rows.boot_list) ra_nil)) (cv_isi hty (isi_list hty)))) hls
        have q := ov_neT (K := K) (p := p) (c := c) (i := (toPy (toldV m d)).shown) (j := (toPy (dueV m d)).shown)
        rw [told_due, decide_eq_true rfl] at q
        rw [told_due]
        exact q
      have which : ∀ m : Nat, m < 5 → RSs (cxOf CX0 P w K mg base nRight "_law_right" (defScope (top 30)) f cdv A outer s H E0).nox Wf p [some d, some L, none, none, some (.int (m : Nat)), none] c bWhich (.nx [some d, some L, none, none, some (.int (m : Nat)), none] c) := fun m hm =>
        rss_cons (rs_for_all (xs := intsD (2 : Int).toNat) (vs := [5]) (g := gName 5) (fun _ => [some d, some L, none, none, some (.int (m : Nat)), none]) (fun i => [some d, some L, none, none, some (.int (m : Nat)), some (.int (i : Nat))]) (fun _ => c) PassesOwn.never rfl rfl (ri_range G.range re_int (by decide) (by decide)) (pg_name (i := 5) scRight.nd rfl (Or.inl rfl)) (fun i e h => by
          obtain ⟨rfl, _⟩ := intsD_at h
          exact tg_name (by decide)) (fun i e h => rss_less (turn m i hm) (by repeat (first | exact Less.nil | apply Less.same | apply Less.skip)))) rss_nil
      refine rss_cons (c1 := c) (ρ1 := [some d, some L, none, none, none, none]) (rs_for_all (xs := intsD (5 : Int).toNat) (vs := [4]) (g := gName 4) (fun _ => [some d, some L, none, none, none, none]) (fun i => [some d, some L, none, none, some (.int (i : Nat)), none]) (fun _ => c) PassesOwn.never rfl rfl (ri_range G.range re_int (by decide) (by decide)) (pg_name (i := 4) scRight.nd rfl (Or.inl rfl)) (fun i e h => by
          obtain ⟨rfl, _⟩ := intsD_at h
          exact tg_name (by decide)) (fun i e h => rss_less (which i (by obtain ⟨_, q⟩ := intsD_at h; exact q)) (by repeat (first | exact Less.nil | apply Less.same | apply Less.skip)))) (rss_ret (rs_ret re_bl))
end
end K12
namespace K12
open PySem PySem.Spec PyProof.Rows L2 LA
theorem ints_ok (big : Bool) : ∀ ns : List Int, okDs big (ns.map D.int) = true
  | [] => rfl
  | n :: r => by
    show (okD big (.int n) && okDs big (r.map D.int)) = true
    rw [ints_ok big r]
    rfl
section
variable {P : Program} {w : World} {K : PySem.W.Frag} {mg : Str → Option Value} {base : Heap}
abbrev nLaw : List Str := ["_law_script", "_law_k", "_law_pool_here", "_law_value"]
theorem scLaw : FnScope nLaw ["_law_script"] (defScope (top 31)) := ⟨rfl, rfl, rfl, by decide +kernel, rfl, by decide +kernel, by decide +kernel⟩
abbrev PoolD (P : Program) (w : World) (K : PySem.W.Frag) (mg : Str → Option Value) (base : Heap) := Def0 P w K mg base 1 "_law_pool" ["_law_script", "_law_k"] poolR
abbrev TextD (P : Program) (w : World) (K : PySem.W.Frag) (mg : Str → Option Value) (base : Heap) := Def0 P w K mg base 2 "_law_text" ["_law_pool_here"] textR
abbrev RightD (P : Program) (w : World) (K : PySem.W.Frag) (mg : Str → Option Value) (base : Heap) := DefG P w K mg base 7 "_law_right" ["_law_value"] rightR
abbrev bCell : List Stmt := match defBody (top 31) with
  | .For _ _ b _ _ :: _ => b
  | _ => []
abbrev cxL (P : Program) (w : World) (K : PySem.W.Frag) (mg : Str → Option Value) (base : Heap) (f : Addr) (cdv : Value) (A : Around) (outer : List Env) (s : Shared) (H : Hp) (E : XK) : Cx := (cxOf CX0 P w K mg base nLaw "law" (defScope (top 31)) f cdv A outer s H E).nox
variable {f : Addr} {cdv : Value} {A : Around} {outer : List Env} {s : Shared} {H : Hp} {E : XK} {c : PC}
theorem text_fit (c : PC) : Fit (.str (tx (textL c))) := fit_text (by have := (text_ok c).1; omega) (text_ok c).2
theorem cell_ok {g : G} {ns : List Int} {j : Nat} (G : Glb mg) (TP : PoolD P w K mg base) (TX : TextD P w K mg base) (TO : OddD P w K mg base) (TR : RightD P w K mg base) (hr : Room 7 (cxL P w K mg base f cdv A outer s H E).A) (hg : (cxL P w K mg base f cdv A outer s H E).A.guards = some []) :
    RSs (cxL P w K mg base f cdv A outer s H E) Wf ⟨none, []⟩ [some (.lst g (ns.map D.int)), some (.int (j : Nat)), none, none] c bCell (.nx [some (.lst g (ns.map D.int)), none, none, none] c) := by
  have okS : okD false (.lst g (ns.map D.int)) = true := by
    show ((g.s || !false) && okDs false (ns.map D.int)) = true
    rw [ints_ok]
    simp
  refine rss_pool (c1 := poolOf ns (j : Nat)) (c2 := textC (drawC (textC (poolOf ns (j : Nat))) 14)) (c4 := c) 2 scLaw.nd (re_c0 TP (hr.mono (by decide)) (ra_cons (re_var 0) (ra_cons (re_var 1) ra_nil)) ⟨g, ns, j, rfl, rfl⟩) rfl (.inl rfl) (by rfl) (.inr rfl) (fun a => ?_) (fun i d h => ?_) (fun i d h => ?_)
  · generalize poolOf ns (j : Nat) = c0
    have at3 : ∀ {i : Nat} {e : D}, [D.str (tx (textL c0)), oddV (textC c0), .str (tx (textL (drawC (textC c0) 14)))][i]? = some e → e = [D.str (tx (textL c0)), oddV (textC c0), .str (tx (textL (drawC (textC c0) 14)))].getD i .non ∧ Fit e := fun {i e} h => by
      match i, h with
      | 0, h => cases Option.some.inj h; exact ⟨rfl, text_fit _⟩
      | 1, h => cases Option.some.inj h; exact ⟨rfl, oddV_fit _⟩
      | 2, h => cases Option.some.inj h; exact ⟨rfl, text_fit _⟩
    refine rss_less (ρ1 := [some (.lst g (ns.map D.int)), some (.int (j : Nat)), some .pool, none]) (rss_cons (rs_for_all (vs := [3]) (g := gName 3) (xs := [D.str (tx (textL c0)), oddV (textC c0), .str (tx (textL (drawC (textC c0) 14)))]) (fun _ => [some (.lst g (ns.map D.int)), some (.int (j : Nat)), some .pool, none]) (fun i => [some (.lst g (ns.map D.int)), some (.int (j : Nat)), some .pool, some ([D.str (tx (textL c0)), oddV (textC c0), .str (tx (textL (drawC (textC c0) 14)))].getD i .non)]) (fun _ => textC (drawC (textC c0) 14)) PassesOwn.never rfl rfl
      (ri_lst (re_lst (ra_cons (re_c0 TX (hr.mono (by decide)) (ra_cons (re_var 2) ra_nil) ⟨rfl, rfl⟩) (ra_cons (re_c0 TO (hr.mono (by decide)) (ra_cons (re_var 2) ra_nil) ⟨rfl, rfl⟩) (ra_cons (re_c0 TX (hr.mono (by decide)) (ra_cons (re_var 2) ra_nil) ⟨rfl, rfl⟩) ra_nil))) (by show 3 ≤ 100000; decide))) (pg_name (i := 3) scLaw.nd rfl (Or.inl rfl)) (fun i e h => ?_) (fun i e h => ?_)) rss_nil) (by repeat (first | exact Less.nil | apply Less.same | apply Less.skip))
    · obtain ⟨q, _⟩ := at3 h
      rw [← q]
      exact tg_name (by decide)
    · obtain ⟨q, fe⟩ := at3 h
      rw [← q]
      exact rss_less (rss_cons (rs_if (kb := false) (rt_not (rt_val (re_cG (d := .bl true) TR hr hg (ra_cons (re_var 3) ra_nil) ⟨e, rfl, fe, rfl⟩))) (fun z => nomatch z) fun _ => rss_nil) rss_nil) (by repeat (first | exact Less.nil | apply Less.same | apply Less.skip))
  · exact OkR.get (.one okS (.one rfl (.non (.non .nil)))) i d h
  · exact OkR.get (.one okS (.non (.non (.non .nil)))) i d h
theorem law_ok {g : G} {ns : List Int} (G : Glb mg) (TP : PoolD P w K mg base) (TDr : DrawD P w K mg base) (TX : TextD P w K mg base) (TO : OddD P w K mg base) (TR : RightD P w K mg base) (hr : Room 7 (cxL P w K mg base f cdv A outer s H E).A) (hg : (cxL P w K mg base f cdv A outer s H E).A.guards = some []) (hl : ns.length ≤ 63) :
    RSs (cxL P w K mg base f cdv A outer s H E) Wf ⟨none, []⟩ [some (.lst g (ns.map D.int)), none, none, none] c (defBody (top 31)) (.rt (.bl true) true c) := by
  obtain ⟨M, hM1, hM2, hM⟩ : ∃ M : Int, 0 ≤ M ∧ M ≤ 100 ∧ (if (if (10 : Int) < ((ns.map D.int).length : Nat) then (10 : Int) else ((ns.map D.int).length : Nat)) > 2 then (if (10 : Int) < ((ns.map D.int).length : Nat) then (10 : Int) else ((ns.map D.int).length : Nat)) else 2) = M := by
    refine ⟨_, ?_, ?_, rfl⟩
    · split <;> split <;> omega
    · split <;> split <;> omega
  have h := rs_for_all (X := cxL P w K mg base f cdv A outer s H E) (W := Wf) (p := ⟨none, []⟩) (c := c) (ρ := [some (.lst g (ns.map D.int)), none, none, none]) (xs := intsD M.toNat) (vs := [1]) (g := gName 1) (body := bCell)
    (tg := match defBody (top 31) with | .For t _ _ _ _ :: _ => t | _ => .Constant .none 0 ⟨0, 0, 0, 0⟩) (it := match defBody (top 31) with | .For _ t _ _ _ :: _ => t | _ => .Constant .none 0 ⟨0, 0, 0, 0⟩) (pos := match defBody (top 31) with | .For _ _ _ _ q :: _ => q | _ => ⟨0, 0, 0, 0⟩)
    (fun _ => [some (.lst g (ns.map D.int)), none, none, none]) (fun i => [some (.lst g (ns.map D.int)), some (.int (i : Nat)), none, none]) (fun _ => c) PassesOwn.never rfl rfl
    (by
      rw [← hM]
      refine ri_range G.range (re_callB (call_max2 rfl) G.max PyProof.Rows.boot_max (ra_cons re_int (ra_cons (re_callB (call_min2 rfl) G.min PyProof.Rows.boot_min (ra_cons (re_callB call_len G.len PySem.boot_len (ra_cons (re_var 0) ra_nil) cv_lenL) (ra_cons re_int ra_nil)) cv_min2) ra_nil)) cv_max2) ?_ ?_
      · rw [show (_ : Int) = M from hM]
        omega
      · rw [show (_ : Int) = M from hM]
        omega) (pg_name (i := 1) scLaw.nd rfl (Or.inl rfl)) (fun i d h => by
      obtain ⟨rfl, _⟩ := intsD_at h
      exact tg_name (by decide)) (fun i d h => cell_ok G TP TX TO TR hr hg)
  have d7 := drawV_in (c := poolOf ns (0 : Nat)) (show (0 : Int) < 7 by decide)
  refine rss_cons h (rss_ret (rs_ret (re_and (k1 := true) (k2 := true) (re_cG TR hr hg (ra_cons re_str ra_nil) ⟨.str (Str.ofString ""), rfl, ?_, rfl⟩) fun _ => re_and1 (re_cG TR hr hg (ra_cons (re_pcall (c1 := poolOf ns (0 : Nat)) (ds := [.int 7]) (d := .int (drawV (poolOf ns (0 : Nat)) 7)) TDr (hr.mono (by decide)) (re_c0 TP (hr.mono (by decide)) (ra_cons (re_var 0) (ra_cons re_int ra_nil)) ⟨g, ns, 0, rfl, rfl⟩) (fun q => ra_cons re_int ra_nil) (fun d m => ?_) ⟨_, rfl⟩ ⟨7, rfl, by decide, by decide, rfl⟩) ra_nil) ⟨_, rfl, fit_int d7.1 d7.2, rfl⟩))))
  · have q := fit_text (l := []) (by show 0 ≤ 100; decide) fun n hn => by cases hn
    exact q
  · rcases List.mem_cons.mp m with rfl | m
    · exact ⟨_, rfl⟩
    · cases m
end
end K12
namespace K12
open PySem PySem.Spec PyProof.Rows L2 LA
/-- a def of the top as the head has left it -/
structure Gf (K : PySem.W.Frag) (x : Str) (st : Stmt) : Prop where
  ex : ∃ f fd, PySem.W.nsIn K mainGlobals x = some (some (.ref f)) ∧ Fun K x x st f fd
theorem gf_mk {K : PySem.W.Frag} {x : Str} {st : Stmt} {f : Addr} {oc kV dc pm cd ct : Value} {od an : Option Addr} {sl : Array (Option Value)} (a : PySem.W.nsIn K mainGlobals x = some (some (.ref f)))
    (l : K.lookup f = some ⟨oc, od, .func (PySem.W.fnOf x x (defArgs st) (defBody st) (defScope st) .none kV dc pm an cd ct), sl⟩) (c : PySem.W.codeIn K cd x = true) (k : PySem.W.keepIn K (.ref f) = true) : Gf K x st := ⟨⟨f, _, a, fun_mk l c k⟩⟩
/-- an error class and its maker -/
structure Ge (K : PySem.W.Frag) (x q : Str) (st : Stmt) (C : Addr) : Prop where
  ns : PySem.W.nsIn K mainGlobals x = some (some (.ref C))
  ox : OexC K C
  xf : XfC K C
  ini : ∃ f fd, PySem.W.findIn K (.ref C) "__init__" = some (some (.ref f)) ∧ PySem.W.typeIn K (.ref f) = some (.type "function") ∧ Fun K "__init__" q st f fd
theorem ge_mk {K : PySem.W.Frag} {x q nm qn : Str} {st : Stmt} {C f N : Addr} {bs bm sub : List Value} {sn : List Str} {ab : Bool} {col : Option Bool} {dd od an : Option Addr} {m0 m1 m2 m3 m5 : Option Value} {oc kV dc pm cd ct : Value} {sl : Array (Option Value)}
    (ns : PySem.W.nsIn K mainGlobals x = some (some (.ref C))) (xL : K.lookup C = some (excClassObj nm qn C N bs bm true sn sub ab col dd m0 m1 m2 m3 m5 "ValueError.__new__")) (hv : PySem.HandSPX.refsVE bm = true) (sa : PySem.W.findIn K (.ref C) "__setattr__" = some (some (.builtin "object.__setattr__")))
    (eC : PySem.W.subIn K (.ref C) (.type "BaseException") = some true) (tC : PySem.W.typeIn K (.ref C) = some (.type "type")) (kC : PySem.W.keepIn K (.ref C) = true) (ga : PySem.W.findIn K (.ref C) "__getattribute__" = some (some (.builtin "BaseException.__getattribute__"))) (gg : PySem.W.findIn K (.ref C) "__getattr__" = some none) (hC : PySem.W.hasDictIn K C = true)
    (a : PySem.W.findIn K (.ref C) "__init__" = some (some (.ref f))) (t : PySem.W.typeIn K (.ref f) = some (.type "function")) (l : K.lookup f = some ⟨oc, od, .func (PySem.W.fnOf "__init__" q (defArgs st) (defBody st) (defScope st) .none kV dc pm an cd ct), sl⟩) (c : PySem.W.codeIn K cd q = true) (k : PySem.W.keepIn K (.ref f) = true) : Ge K x q st C :=
  ⟨ns, ⟨⟨nm, qn, N, bs, bm, sn, sub, ab, col, dd, m0, m1, m2, m3, m5, xL, hv⟩, sa, eC, tC, kC⟩, ⟨ga, gg, eC, hC⟩, f, _, a, t, fun_mk l c k⟩
theorem gn_mk {K : PySem.W.Frag} {x : Str} {C : Addr} (ns : PySem.W.nsIn K mainGlobals x = some (some (.ref C))) : PySem.W.nsIn K mainGlobals x = some (some (.ref C)) := ns
/-- check_count, with its default -/
structure Gd (K : PySem.W.Frag) : Prop where
  ex : ∃ f fd, PySem.W.nsIn K mainGlobals "check_count" = some (some (.ref f)) ∧ FunD K "check_count" "check_count" (defArgs (top 8)) (defBody (top 8)) (defScope (top 8)) [.int 6] [] f fd
theorem gd_mk {K : PySem.W.Frag} {f T : Addr} {oc kV dc pm cd ct oc2 : Value} {od an od2 : Option Addr} {sl sl2 : Array (Option Value)} {tk : Tok} {n : Nat} (a : PySem.W.nsIn K mainGlobals "check_count" = some (some (.ref f)))
    (l : K.lookup f = some ⟨oc, od, .func (PySem.W.fnOf "check_count" "check_count" (defArgs (top 8)) (defBody (top 8)) (defScope (top 8)) (.ref T) kV dc pm an cd ct), sl⟩) (lT : K.lookup T = some ⟨oc2, od2, .seq #[.int 6 tk] n, sl2⟩) (c : PySem.W.codeIn K cd "check_count" = true) (k : PySem.W.keepIn K (.ref f) = true) : Gd K :=
  ⟨⟨f, _, a, ⟨⟨oc, od, .ref T, kV, dc, pm, an, cd, ct, sl, rfl, l, c, .inr ⟨by simp, T, _, [.int 6 tk], n, rfl, lT, rfl, .cons ⟨tk, rfl⟩ .nil⟩, .inl rfl⟩, k⟩⟩⟩
/-- all that the end asks of the text -/
structure Txt (K : PySem.W.Frag) : Prop where
  free : ∀ x ∈ (["len", "int", "range", "list", "str", "isinstance", "all", "zip", "repr", "min", "max", "enumerate", "bool"] : List Str), PySem.W.nsIn K mainGlobals x = some none
  most : ∃ t, PySem.W.nsIn K mainGlobals "MOST" = some (some (.int 6 t))
  err : ∃ B Cn Lk, Ge K "BadPattern" "BadPattern.__init__" (inClass (top 2) 0) B ∧ PySem.W.findIn K (.ref B) "given" = some none ∧ Ge K "BadCount" "BadCount.__init__" (inClass (top 3) 0) Cn ∧ PySem.W.findIn K (.ref Cn) "given" = some none ∧
    PySem.W.subIn K (.ref B) (.ref B) = some true ∧ PySem.W.subIn K (.ref Cn) (.ref B) = some false ∧ PySem.W.subIn K (.ref Cn) (.ref Cn) = some true ∧ PySem.W.nsIn K mainGlobals "LooksError" = some (some (.ref Lk))
  cnt : Gd K
  f6 : Gf K "is_whole" (top 6)
  f7 : Gf K "is_position" (top 7)
  f10 : Gf K "is_input" (top 10)
  f11 : Gf K "is_pattern" (top 11)
  f12 : Gf K "inputs" (top 12)
  f13 : Gf K "patterns" (top 13)
  f14 : Gf K "known" (top 14)
  f15 : Gf K "size" (top 15)
  f16 : Gf K "fitting" (top 16)
  f17 : Gf K "_is_word" (top 17)
  f18 : Gf K "_words" (top 18)
  f19 : Gf K "_check_pattern" (top 19)
  f21 : Gf K "_law_pool" (top 21)
  f22 : Gf K "_law_draw" (top 22)
  f23 : Gf K "_law_strings" (top 23)
  f24 : Gf K "_law_odd" (top 24)
  f25 : Gf K "_law_text" (top 25)
  f26 : Gf K "_law_fits_signs" (top 26)
  f27 : Gf K "_law_fitting" (top 27)
  f28 : Gf K "_law_told" (top 28)
  f29 : Gf K "_law_due" (top 29)
  f30 : Gf K "_law_right" (top 30)
  f31 : Gf K "law" (top 31)
section
variable {P : Program} {w : World} {K : PySem.W.Frag} {mg : Str → Option Value} {base h : Heap} {x : Str} {st : Stmt} {ps : List Str} {k : Nat} {R : FSpec}
theorem def0 (X : K.In h) (G : h.Ns mainGlobals mg) (g : Gf K x st) (hf : ∀ f fd, Fun K x x st f fd → FnOk P w K mg base CX0 k f fd ps (spF K R))
    (hb : ∀ (kV doc pm : Value) (an : Option Addr) (cdv ct : Value) (us : List Value), us.length = ps.length → bindArgs (PySem.W.fnOf x x (defArgs st) (defBody st) (defScope st) .none kV doc pm an cdv ct) ⟨us, []⟩ = pure (ps.zip us)) : Def0 P w K mg base k x ps R := by
  obtain ⟨f, fd, a, F⟩ := g.ex
  exact ⟨⟨f, fd, hf f fd F, PySem.W.mg_of X G a, F.kp, F.binds hb⟩⟩
theorem def1 (X : K.In h) (G : h.Ns mainGlobals mg) (g : Gf K x st) (hf : ∀ f fd, Fun K x x st f fd → FnOk P w K mg base (L2.CX P w) k f fd ps (spF K R))
    (hb : ∀ (kV doc pm : Value) (an : Option Addr) (cdv ct : Value) (us : List Value), us.length = ps.length → bindArgs (PySem.W.fnOf x x (defArgs st) (defBody st) (defScope st) .none kV doc pm an cdv ct) ⟨us, []⟩ = pure (ps.zip us)) : Def1 P w K mg base k x ps R := by
  obtain ⟨f, fd, a, F⟩ := g.ex
  exact ⟨⟨f, fd, hf f fd F, PySem.W.mg_of X G a, F.kp, F.binds hb⟩⟩
theorem run12 {fa : Addr} (T : Txt K) (X : K.In h) (G : h.Ns mainGlobals mg) (hfa : mg "law" = some (.ref fa)) {s0 : Shared} {H : Hp} {a : Addr} {ns : List Int} (e0 : Env0 P w K mg base callerA [] s0 H) (sq : SqL K H a (ns.map V.int)) (hl : ns.length ≤ 63) :
    codeAny (model P w) callerA (.call (.ref fa) ⟨[.ref a], []⟩) (CR CX0 [] P w H s0 (fun v _ => v = .bl true) fun _ _ _ => False) s0 := by
  have fr := fun x (m : x ∈ (["len", "int", "range", "list", "str", "isinstance", "all", "zip", "repr", "min", "max", "enumerate", "bool"] : List Str)) => PySem.W.mg_none_of X G (T.free x m)
  have Gb : Glb mg := ⟨fr _ (by decide), fr _ (by decide), fr _ (by decide), fr _ (by decide), fr _ (by decide), fr _ (by decide), fr _ (by decide), fr _ (by decide), fr _ (by decide), fr _ (by decide), fr _ (by decide), fr _ (by decide), fr _ (by decide)⟩
  obtain ⟨tk, hM⟩ := T.most
  have hM := PySem.W.mg_of X G hM
  obtain ⟨B, Cn, Lk, gB, nB, gC, nC, sBB, sCB, sCC, aL⟩ := T.err
  obtain ⟨fB, fdB, iB, tB, FB⟩ := gB.ini
  obtain ⟨fC, fdC, iC, tC, FC⟩ := gC.ini
  have Er : Err K mg B Cn fB fC := ⟨gB.ox, gB.xf, nB, iB, tB, PySem.W.mg_of X G gB.ns, gC.ox, gC.xf, nC, iC, tC, PySem.W.mg_of X G gC.ns⟩
  have Em : Exm K mg B Cn Lk := ⟨PySem.W.exm_ref gB.xf.exC gB.xf.hdC gB.ox.tyC sBB, PySem.W.exm_ref gB.xf.exC gB.xf.hdC gB.ox.tyC sCB, PySem.W.exm_ref gC.xf.exC gC.xf.hdC gC.ox.tyC sCC, PySem.W.mg_of X G aL⟩
  have IB : Ini1 P w K mg base fB := ⟨fdB, ok_ini1 FB ⟨rfl, rfl, rfl, by decide +kernel, rfl, by decide +kernel, by decide +kernel⟩ rfl (by decide) (by decide), FB.binds fun _ _ _ _ _ _ us hl => match us, hl with | [_, _], _ => rfl⟩
  have IC : Ini1 P w K mg base fC := ⟨fdC, ok_ini1 FC ⟨rfl, rfl, rfl, by decide +kernel, rfl, by decide +kernel, by decide +kernel⟩ rfl (by decide) (by decide), FC.binds fun _ _ _ _ _ _ us hl => match us, hl with | [_, _], _ => rfl⟩
  have D22 : DrawD P w K mg base := def0 X G T.f22 (fun f fd F => ok_draw Gb F) fun _ _ _ _ _ _ us hl => match us, hl with | [_, _], _ => rfl
  have D21 : PoolD P w K mg base := def0 X G T.f21 (fun f fd F => ok_pool Gb F) fun _ _ _ _ _ _ us hl => match us, hl with | [_, _], _ => rfl
  have D24 : OddD P w K mg base := def0 X G T.f24 (fun f fd F => ok_odd Gb D22 F) fun _ _ _ _ _ _ us hl => match us, hl with | [_], _ => rfl
  have D25 : TextD P w K mg base := def0 X G T.f25 (fun f fd F => ok_text Gb D22 F) fun _ _ _ _ _ _ us hl => match us, hl with | [_], _ => rfl
  have D23 : StrsD P w K mg base := def0 X G T.f23 (fun f fd F => ok_strs Gb F) fun _ _ _ _ _ _ us hl => match us, hl with | [_, _], _ => rfl
  have D26 : SignsD P w K mg base := def0 X G T.f26 (fun f fd F => ok_signs Gb F) fun _ _ _ _ _ _ us hl => match us, hl with | [_, _], _ => rfl
  have D27 : LfitD P w K mg base := def0 X G T.f27 (fun f fd F => ok_lfit Gb D23 F) fun _ _ _ _ _ _ us hl => match us, hl with | [_], _ => rfl
  have D29 : DueD P w K mg base := def0 X G T.f29 (fun f fd F => ok_due Gb D23 D26 D27 F) fun _ _ _ _ _ _ us hl => match us, hl with | [_, _], _ => rfl
  have D17 : WordD P w K mg base := def0 X G T.f17 (fun f fd F => ok_word Gb hM F) fun _ _ _ _ _ _ us hl => match us, hl with | [_, _], _ => rfl
  have D10 : IsInD P w K mg base := def0 X G T.f10 (fun f fd F => ok_isIn D17 F) fun _ _ _ _ _ _ us hl => match us, hl with | [_], _ => rfl
  have D11 : IsPatD P w K mg base := def0 X G T.f11 (fun f fd F => ok_isPat D17 F) fun _ _ _ _ _ _ us hl => match us, hl with | [_], _ => rfl
  have D6 : WholeD P w K mg base := def0 X G T.f6 (fun f fd F => ok_whole Gb F) fun _ _ _ _ _ _ us hl => match us, hl with | [_], _ => rfl
  have D7 : PosD P w K mg base := def0 X G T.f7 (fun f fd F => ok_pos D6 F) fun _ _ _ _ _ _ us hl => match us, hl with | [_, _], _ => rfl
  have D18 : WordsD P w K mg base := def0 X G T.f18 (fun f fd F => ok_words F) fun _ _ _ _ _ _ us hl => match us, hl with | [_], _ => rfl
  have D19 : ChkD P w K mg base B := def1 X G T.f19 (fun f fd F => ok_chk D11 Er IB F) fun _ _ _ _ _ _ us hl => match us, hl with | [_], _ => rfl
  have D8 : CntD P w K mg base Cn := by
    obtain ⟨f, fd, a8, F⟩ := T.cnt.ex
    obtain ⟨ds, v8, b8⟩ := F.binds1 (ps := ["many", "most"]) 1 0 (by simp) rfl fun T kV doc pm an cdv ct us its h1 h2 => match us, its, h1, h2 with | [_], [_], _, _ => ⟨_, rfl, rfl⟩
    exact ⟨⟨f, fd, ds, ok_cnt D7 Er IC F, PySem.W.mg_of X G a8, F.kp, v8, b8⟩⟩
  have D12 : AllD P w K mg base Cn "inputs" bins := def1 X G T.f12 (fun f fd F => ok_inputs D8 D18 F) fun _ _ _ _ _ _ us hl => match us, hl with | [_], _ => rfl
  have D13 : AllD P w K mg base Cn "patterns" pats := def1 X G T.f13 (fun f fd F => ok_patterns D8 D18 F) fun _ _ _ _ _ _ us hl => match us, hl with | [_], _ => rfl
  have D14 : PatD P w K mg base B 4 "known" knownV := def1 X G T.f14 (fun f fd F => ok_known Gb D19 F) fun _ _ _ _ _ _ us hl => match us, hl with | [_], _ => rfl
  have D15 : PatD P w K mg base B 5 "size" sizeV := def1 X G T.f15 (fun f fd F => ok_size Gb D14 F) fun _ _ _ _ _ _ us hl => match us, hl with | [_], _ => rfl
  have D16 : PatD P w K mg base B 4 "fitting" fitsV := def1 X G T.f16 (fun f fd F => ok_fitting D19 D18 F) fun _ _ _ _ _ _ us hl => match us, hl with | [_], _ => rfl
  have D28 : ToldD P w K mg base := def0 X G T.f28 (fun f fd F => ok_told Er Em D14 D15 D16 D12 D13 F) fun _ _ _ _ _ _ us hl => match us, hl with | [_, _], _ => rfl
  have D30 : RightD P w K mg base := by
    obtain ⟨f, fd, a30, F⟩ := T.f30.ex
    exact ⟨⟨f, fd, ok_right Gb D10 D11 D26 D29 D28 F, PySem.W.mg_of X G a30, F.kp, F.binds fun _ _ _ _ _ _ us hl => match us, hl with | [_], _ => rfl⟩⟩
  obtain ⟨f, fd, aF, F⟩ := T.f31.ex
  cases hfa.symm.trans (PySem.W.mg_of X G aF)
  have bd : BindsTo s0 fd ⟨[.ref a], []⟩ ((["_law_script"] : List Str).zip [.ref a]) := by
    obtain ⟨oc, od, kV, doc, pm, an, cdv, ct, osl, rfl, _⟩ := F.ex
    exact .of_eq rfl
  refine call_at (k := 7) (vs := [.ref a]) F scLaw ⟨rfl, by decide, by decide⟩ e0 bd (.cons rfl .nil) rfl fun cdv hr => ?_
  refine ⟨_, (law_ok (f := fa) (cdv := cdv) (A := callerA) (outer := []) (s := s0) (H := H) (E := fun _ _ _ => False) (g := ⟨false, false⟩) (ns := ns) (c := ⟨0, 0, false, 0⟩) Gb D21 D22 D25 D24 D30 hr rfl hl).nox, ?_, fun v H1 e1 p1 dv _ => ?_⟩
  · have dvs : DVs K ⟨none, []⟩ H [.ref a] [.lst ⟨false, false⟩ (ns.map D.int)] := by
      refine .cons (.lst ⟨(fun z => nomatch z), fun z => nomatch z⟩ (Sub.sqL (fun b o y => ?_) sq) ?_) .nil
      · rw [hide_ne]
        · exact y
        · rintro (z | z)
          · cases z
          · cases z
      · clear sq hl
        induction ns with
        | nil => exact .nil
        | cons n r ih => exact .cons (.int n) ih
    exact sr_start (N := nLaw) dvs ⟨fun b z => (nomatch z), fun b z => (nomatch z)⟩
  · cases dv
    rfl
end
theorem walk12 {l : PySem.W.OpenLaw} {q : Program} {loose : List Str} {XP : (Str → Option Value) → Heap → Prop} {YP : World → Heap → Prop} {d : DefRec} {K : Params → PySem.W.Frag} (hn : l.most = some 63) (hdf : d.params.defaults = []) (hd : d.name = "law")
    (hY : ∀ (w : World) (h : Heap), YP w h → (K w.params).In h) (F : ∀ w : World, Txt (K w.params)) : PySem.W.WalkO q loose XP YP l.row.toRowW d [] (fun f vs => PySem.call f vs) := by
  refine Att.attach_call hn hdf fun w s₀ s₁ mg mb fa o pm cd doc a vs ns G Y ho hd' hcd hmg hobj hints hlen hg => ?_
  have KX := hY w _ Y
  rw [hd] at hmg
  exact law_at KX G.T.g G.T.b G.T.builtins G.T.nolimit hg hobj hints (Nat.le_trans hlen (by decide)) fun base H _ _ e0 sq => run12 (F w) KX G.T.g hmg e0 sq hlen
end K12
open PySem PySem.W PyProof.Rows
set_option maxRecDepth 100000 in
set_option maxHeartbeats 0 in
theorem PySem.Challenge.cw_leastlooks_k12_inputs_and_patterns_holds : PySem.Challenge.rw_leastlooks_k12_inputs_and_patterns.Holds := by
  w_on; o_law; k_head; (case hw => w_witness2)
  k_fill
  refine K12.walk12 (l := PySem.Challenge.rw_leastlooks_k12_inputs_and_patterns) rfl rfl rfl (fun w h Y => PySem.W.kIn_of Y) ?F
  case F =>
    intro w
    refine' ⟨?free, ?most, ?err, ?cnt, ?f6, ?f7, ?f10, ?f11, ?f12, ?f13, ?f14, ?f15, ?f16, ?f17, ?f18, ?f19, ?f21, ?f22, ?f23, ?f24, ?f25, ?f26, ?f27, ?f28, ?f29, ?f30, ?f31⟩
    case free =>
      intro x hx
      simp only [List.mem_cons, List.not_mem_nil, or_false] at hx
      rcases hx with rfl | rfl | rfl | rfl | rfl | rfl | rfl | rfl | rfl | rfl | rfl | rfl | rfl
      all_goals k_is
    case most => exact ⟨_, by k_is⟩
    case err =>
      refine' ⟨_, _, _, K12.ge_mk ?b1 ?b2 ?b3 ?b4 ?b5 ?b6 ?b7 ?b8 ?b9 ?b10 ?b11 ?b12 ?b13 ?b14 ?b15, ?nB, K12.ge_mk ?u1 ?u2 ?u3 ?u4 ?u5 ?u6 ?u7 ?u8 ?u9 ?u10 ?u11 ?u12 ?u13 ?u14 ?u15, ?nC, ?sBB, ?sCB, ?sCC, K12.gn_mk ?aL⟩
      (case b1 => k_is)
      (case b2 => k_is)
      (case b3 => decide +kernel)
      (case b4 => k_is)
      (case b5 => k_is)
      (case b6 => k_is)
      (case b7 => k_is)
      (case b8 => k_is)
      (case b9 => k_is)
      (case b10 => k_is)
      (case b11 => k_is)
      (case b12 => k_is)
      (case b13 => k_is)
      (case b14 => k_is)
      (case b15 => k_is)
      (case nB => k_is)
      (case u1 => k_is)
      (case u2 => k_is)
      (case u3 => decide +kernel)
      (case u4 => k_is)
      (case u5 => k_is)
      (case u6 => k_is)
      (case u7 => k_is)
      (case u8 => k_is)
      (case u9 => k_is)
      (case u10 => k_is)
      (case u11 => k_is)
      (case u12 => k_is)
      (case u13 => k_is)
      (case u14 => k_is)
      (case u15 => k_is)
      (case nC => k_is); (case sBB => first | rfl | k_is); (case sCB => first | rfl | k_is); (case sCC => first | rfl | k_is); (case aL => k_is)
    case cnt =>
      refine' K12.gd_mk ?a ?l ?lT ?c ?k
      (case a => k_is); (case l => k_is); (case lT => k_is); (case c => k_is); (case k => k_is)
    case f6 =>
      refine' K12.gf_mk ?a ?l ?c ?k
      (case a => k_is); (case l => k_is); (case c => k_is); (case k => k_is)
    case f7 =>
      refine' K12.gf_mk ?a ?l ?c ?k
      (case a => k_is); (case l => k_is); (case c => k_is); (case k => k_is)
    case f10 =>
      refine' K12.gf_mk ?a ?l ?c ?k
      (case a => k_is); (case l => k_is); (case c => k_is); (case k => k_is)
    case f11 =>
      refine' K12.gf_mk ?a ?l ?c ?k
      (case a => k_is); (case l => k_is); (case c => k_is); (case k => k_is)
    case f12 =>
      refine' K12.gf_mk ?a ?l ?c ?k
      (case a => k_is); (case l => k_is); (case c => k_is); (case k => k_is)
    case f13 =>
      refine' K12.gf_mk ?a ?l ?c ?k
      (case a => k_is); (case l => k_is); (case c => k_is); (case k => k_is)
    case f14 =>
      refine' K12.gf_mk ?a ?l ?c ?k
      (case a => k_is); (case l => k_is); (case c => k_is); (case k => k_is)
    case f15 =>
      refine' K12.gf_mk ?a ?l ?c ?k
      (case a => k_is); (case l => k_is); (case c => k_is); (case k => k_is)
    case f16 =>
      refine' K12.gf_mk ?a ?l ?c ?k
      (case a => k_is); (case l => k_is); (case c => k_is); (case k => k_is)
    case f17 =>
      refine' K12.gf_mk ?a ?l ?c ?k
      (case a => k_is); (case l => k_is); (case c => k_is); (case k => k_is)
    case f18 =>
      refine' K12.gf_mk ?a ?l ?c ?k
      (case a => k_is); (case l => k_is); (case c => k_is); (case k => k_is)
    case f19 =>
      refine' K12.gf_mk ?a ?l ?c ?k
      (case a => k_is); (case l => k_is); (case c => k_is); (case k => k_is)
    case f21 =>
      refine' K12.gf_mk ?a ?l ?c ?k
      (case a => k_is); (case l => k_is); (case c => k_is); (case k => k_is)
    case f22 =>
      refine' K12.gf_mk ?a ?l ?c ?k
      (case a => k_is); (case l => k_is); (case c => k_is); (case k => k_is)
    case f23 =>
      refine' K12.gf_mk ?a ?l ?c ?k
      (case a => k_is); (case l => k_is); (case c => k_is); (case k => k_is)
    case f24 =>
      refine' K12.gf_mk ?a ?l ?c ?k
      (case a => k_is); (case l => k_is); (case c => k_is); (case k => k_is)
    case f25 =>
      refine' K12.gf_mk ?a ?l ?c ?k
      (case a => k_is); (case l => k_is); (case c => k_is); (case k => k_is)
    case f26 =>
      refine' K12.gf_mk ?a ?l ?c ?k
      (case a => k_is); (case l => k_is); (case c => k_is); (case k => k_is)
    case f27 =>
      refine' K12.gf_mk ?a ?l ?c ?k
      (case a => k_is); (case l => k_is); (case c => k_is); (case k => k_is)
    case f28 =>
      refine' K12.gf_mk ?a ?l ?c ?k
      (case a => k_is); (case l => k_is); (case c => k_is); (case k => k_is)
    case f29 =>
      refine' K12.gf_mk ?a ?l ?c ?k
      (case a => k_is); (case l => k_is); (case c => k_is); (case k => k_is)
    case f30 =>
      refine' K12.gf_mk ?a ?l ?c ?k
      (case a => k_is); (case l => k_is); (case c => k_is); (case k => k_is)
    case f31 =>
      refine' K12.gf_mk ?a ?l ?c ?k
      (case a => k_is); (case l => k_is); (case c => k_is); (case k => k_is)
#print axioms PySem.Challenge.cw_leastlooks_k12_inputs_and_patterns_holds
