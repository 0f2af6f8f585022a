import PyProof.Rows.All
import Wide.All
import OpenK.AllK
import Wide.FinOn
import HandS.ForMost
import HandS.ForExc
import HandS.TryMany
import HandS.ExcInit
import HandS.ExcField
import HandS.CallSlots
import HandS.IsInst
import HandS.Defaults
import HandS.Iter
import HandS.Text
import HandS.Conv
import KE.GoesNew
import KE.GoesEnum
import HandS.RaiseMore
import HandS.EndBits
import PyProof.EnumMake
import HandS.SetFor
import HandS.TupSets
import HandS.ExcIs
import HandS.Wide
import HandS.Gcd
import PySem.Challenge.RW_leastlooks_k60_fractions
set_option Elab.async false
set_option linter.all false
set_option maxRecDepth 100000
set_option maxHeartbeats 4000000
/-! A layer of outcomes over data: what an expression is worth, what a statement does. -/
namespace LA
open PySem PySem.Spec PyProof.Rows L2

/-- of a list: it is not the run's own, it is one that may be written -/
structure G where
  s : Bool
  t : Bool
inductive D where
  | non | bl (b : Bool) | int (i : Int) | str (s : Str) | lst (g : G) (xs : List D) | tup (xs : List D) | dct (kvs : List (Key × D)) | mut (i : Nat) | ty (n : String) | cls (a : Addr) | exn (a dx : Addr) (fs : List (Str × D)) | obj (C : Addr) (fs : List (Str × D))

/-- what an object that changes holds -/
inductive Cell where
  | lst (ds : List D) | ins (C : Addr) (fs : List (Str × D)) | dct (kvs : List (Key × D)) | gone
abbrev PC := List Cell

/-- what is out of sight: what changes, and lists that are being filled -/
structure HD where
  m : List Addr
  z : List Addr
def HD.hid (p : HD) (a : Addr) : Prop := a ∈ p.m ∨ a ∈ p.z
instance (p : HD) (a : Addr) : Decidable (p.hid a) := by unfold HD.hid; infer_instance
def HD.also (p : HD) (a : Addr) : HD := ⟨p.m, a :: p.z⟩
def HD.mut (p : HD) (a : Addr) : HD := ⟨p.m ++ [a], p.z⟩
def HD.flat (p : HD) : HD := ⟨[], p.m ++ p.z⟩
def hide (p : HD) (H : Hp) : Hp := fun a => if p.hid a then none else H a
theorem hide_ne {p : HD} {H : Hp} {a : Addr} (h : ¬ p.hid a) : hide p H a = H a := if_neg h
theorem hide_some {p : HD} {H : Hp} {a : Addr} {o : HO} (h : hide p H a = some o) : H a = some o ∧ ¬ p.hid a := by
  unfold hide at h
  split at h
  · cases h
  · rename_i q
    exact ⟨h, q⟩
/-- what is tracked, the changing things aside, stays -/
def Ext (p : HD) (H H' : Hp) : Prop := ∀ a o, a ∉ p.m → H a = some o → H' a = some o
theorem Ext.refl (p : HD) (H : Hp) : Ext p H H := fun _ _ _ h => h
theorem Ext.trans {p : HD} {H H1 H2 : Hp} (a : Ext p H H1) (b : Ext p H1 H2) : Ext p H H2 := fun x o n h => b x o n (a x o n h)
theorem Ext.new {p : HD} {H : Hp} {a : Addr} {o : HO} (h : H a = none) : Ext p H (upd H a o) := fun b u _ e => by
  rw [upd_ne (ne_of_none e h)]
  exact e
theorem Ext.hide {p : HD} {H H' : Hp} (e : Ext p H H') : ∀ a o, LA.hide p H a = some o → LA.hide p H' a = some o := fun a o h => by
  obtain ⟨h1, h2⟩ := hide_some h
  rw [hide_ne h2]
  exact e a o (fun z => h2 (.inl z)) h1
theorem hide_flat (p : HD) (H : Hp) : hide p.flat H = hide p H := funext fun a => by
  unfold hide
  by_cases h : p.hid a
  · rw [if_pos h, if_pos (show p.flat.hid a from .inr (List.mem_append.mpr h))]
  · rw [if_neg h, if_neg (show ¬ p.flat.hid a from fun q => q.elim (fun z => nomatch z) fun z => h (List.mem_append.mp z))]
theorem Ext.sqL {K : PySem.W.Frag} {p : HD} {H H' : Hp} {a : Addr} {xs : List V} (e : Ext p H H') (h : SqL K (LA.hide p H) a xs) : SqL K (LA.hide p H') a xs := by
  rcases h with (h | ⟨o, h⟩) | h
  · exact .inl (.inl (e.hide _ _ h))
  · exact .inl (.inr ⟨o, e.hide _ _ h⟩)
  · exact .inr h
theorem Ext.sqT {K : PySem.W.Frag} {p : HD} {H H' : Hp} {a : Addr} {xs : List V} (e : Ext p H H') (h : SqT K (LA.hide p H) a xs) : SqT K (LA.hide p H') a xs := by
  rcases h with (h | ⟨o, h⟩) | h
  · exact .inl (.inl (e.hide _ _ h))
  · exact .inl (.inr ⟨o, e.hide _ _ h⟩)
  · exact .inr h
theorem Ext.rd {p : HD} {H H' : Hp} {a : Addr} {u : HO} (e : Ext p H H') (h : Rd (LA.hide p H) a u) : Rd (LA.hide p H') a u := by
  rcases h with h | ⟨o, h⟩
  · exact .inl (e.hide _ _ h)
  · exact .inr ⟨o, e.hide _ _ h⟩
theorem un_sqL {K : PySem.W.Frag} {p : HD} {H : Hp} {a : Addr} {xs : List V} (h : SqL K (hide p H) a xs) : SqL K H a xs := by
  rcases h with (h | ⟨o, h⟩) | h
  · exact .inl (.inl (hide_some h).1)
  · exact .inl (.inr ⟨o, (hide_some h).1⟩)
  · exact .inr h
theorem un_sqT {K : PySem.W.Frag} {p : HD} {H : Hp} {a : Addr} {xs : List V} (h : SqT K (hide p H) a xs) : SqT K H a xs := by
  rcases h with (h | ⟨o, h⟩) | h
  · exact .inl (.inl (hide_some h).1)
  · exact .inl (.inr ⟨o, (hide_some h).1⟩)
  · exact .inr h
theorem un_rd {p : HD} {H : Hp} {a : Addr} {u : HO} (h : Rd (hide p H) a u) : Rd H a u := by
  rcases h with h | ⟨o, h⟩
  · exact .inl (hide_some h).1
  · exact .inr ⟨o, (hide_some h).1⟩
/-- one map of what is in sight is within another -/
def Sub (G G' : Hp) : Prop := ∀ a o, G a = some o → G' a = some o
theorem Sub.sqL {K : PySem.W.Frag} {H H' : Hp} {a : Addr} {xs : List V} (e : Sub H H') (h : SqL K H a xs) : SqL K H' a xs := by
  rcases h with (h | ⟨o, h⟩) | h
  · exact .inl (.inl (e _ _ h))
  · exact .inl (.inr ⟨o, e _ _ h⟩)
  · exact .inr h
theorem Sub.sqT {K : PySem.W.Frag} {H H' : Hp} {a : Addr} {xs : List V} (e : Sub H H') (h : SqT K H a xs) : SqT K H' a xs := by
  rcases h with (h | ⟨o, h⟩) | h
  · exact .inl (.inl (e _ _ h))
  · exact .inl (.inr ⟨o, e _ _ h⟩)
  · exact .inr h
theorem Sub.rd {H H' : Hp} {a : Addr} {u : HO} (e : Sub H H') (h : Rd H a u) : Rd H' a u := by
  rcases h with h | ⟨o, h⟩
  · exact .inl (e _ _ h)
  · exact .inr ⟨o, e _ _ h⟩
theorem sub_also {p : HD} {H : Hp} {a : Addr} : Sub (hide (p.also a) H) (hide p H) := fun b o h => by
  obtain ⟨h1, h2⟩ := hide_some h
  rw [hide_ne (show ¬ p.hid b from fun z => h2 (z.elim .inl fun m => .inr (List.mem_cons_of_mem _ m)))]
  exact h1
theorem also_sub {p : HD} {H : Hp} {a : Addr} (n : H a = none) : Sub (hide p H) (hide (p.also a) H) := fun b o h => by
  obtain ⟨h1, h2⟩ := hide_some h
  rw [hide_ne (show ¬ (p.also a).hid b from fun z => z.elim (fun q => h2 (.inl q)) fun m => (List.mem_cons.mp m).elim (fun q => by rw [q, n] at h1; cases h1) fun q => h2 (.inr q))]
  exact h1

/-! ### values that are data -/
mutual
inductive DV (K : PySem.W.Frag) (p : HD) (H : Hp) : V → D → Prop
  | non : DV K p H .non .non
  | bl (b : Bool) : DV K p H (.bl b) (.bl b)
  | int (i : Int) : DV K p H (.int i) (.int i)
  | str (x : Str) : DV K p H (.str x) (.str x)
  | lst {a : Addr} {xs : List V} {g : G} {ds : List D} : ((g.s = true → a ≠ sysModules) ∧ (g.t = true → hide p H a = some (.lst xs))) → SqL K (hide p H) a xs → DVs K p H xs ds → DV K p H (.ref a) (.lst g ds)
  | tup {a : Addr} {xs : List V} {ds : List D} : SqT K (hide p H) a xs → DVs K p H xs ds → DV K p H (.ref a) (.tup ds)
  | dct {a : Addr} {kvs : List (Key × V)} {ds : List (Key × D)} : Rd (hide p H) a (.dK kvs) → DVk K p H kvs ds → DV K p H (.ref a) (.dct ds)
  | mut {a : Addr} {i : Nat} : p.m[i]? = some a → DV K p H (.ref a) (.mut i)
  | ty (n : String) : DV K p H (.ty n) (.ty n)
  | cls (a : Addr) : DV K p H (.ref a) (.cls a)
  | exn {a dx : Addr} {fv : List (Str × V)} {fs : List (Str × D)} : hide p H dx = some (.xd fv) → DVf K p H fv fs → DV K p H (.ref a) (.exn a dx fs)
  | obj {a C dx : Addr} {fv : List (Str × V)} {fs : List (Str × D)} : hide p H a = some (.ins C dx fv) → DVf K p H fv fs → DV K p H (.ref a) (.obj C fs)
inductive DVs (K : PySem.W.Frag) (p : HD) (H : Hp) : List V → List D → Prop
  | nil : DVs K p H [] []
  | cons {v : V} {vs : List V} {d : D} {ds : List D} : DV K p H v d → DVs K p H vs ds → DVs K p H (v :: vs) (d :: ds)
inductive DVk (K : PySem.W.Frag) (p : HD) (H : Hp) : List (Key × V) → List (Key × D) → Prop
  | nil : DVk K p H [] []
  | cons {k : Key} {v : V} {vs : List (Key × V)} {d : D} {ds : List (Key × D)} : DV K p H v d → DVk K p H vs ds → DVk K p H ((k, v) :: vs) ((k, d) :: ds)
inductive DVf (K : PySem.W.Frag) (p : HD) (H : Hp) : List (Str × V) → List (Str × D) → Prop
  | nil : DVf K p H [] []
  | cons {f : Str} {v : V} {vs : List (Str × V)} {d : D} {ds : List (Str × D)} : DV K p H v d → DVf K p H vs ds → DVf K p H ((f, v) :: vs) ((f, d) :: ds)
end
section
variable {K : PySem.W.Frag} {p : HD} {H H' : Hp}
mutual
theorem DV.sub {q : HD} (e : Sub (hide p H) (hide q H')) (pe : ∀ (i : Nat) (a : Addr), p.m[i]? = some a → q.m[i]? = some a) : ∀ {v : V} {d : D}, DV K p H v d → DV K q H' v d
  | _, _, .non => .non
  | _, _, .bl b => .bl b
  | _, _, .int i => .int i
  | _, _, .str x => .str x
  | _, _, .lst b h r => .lst ⟨b.1, fun z => e _ _ (b.2 z)⟩ (e.sqL h) (DVs.sub e pe r)
  | _, _, .tup h r => .tup (e.sqT h) (DVs.sub e pe r)
  | _, _, .dct h r => .dct (e.rd h) (DVk.sub e pe r)
  | _, _, .mut h => .mut (pe _ _ h)
  | _, _, .ty n => .ty n
  | _, _, .cls a => .cls a
  | _, _, .exn h r => .exn (e _ _ h) (DVf.sub e pe r)
  | _, _, .obj h r => .obj (e _ _ h) (DVf.sub e pe r)
theorem DVs.sub {q : HD} (e : Sub (hide p H) (hide q H')) (pe : ∀ (i : Nat) (a : Addr), p.m[i]? = some a → q.m[i]? = some a) : ∀ {v : List V} {d : List D}, DVs K p H v d → DVs K q H' v d
  | _, _, .nil => .nil
  | _, _, .cons h r => .cons (DV.sub e pe h) (DVs.sub e pe r)
theorem DVk.sub {q : HD} (e : Sub (hide p H) (hide q H')) (pe : ∀ (i : Nat) (a : Addr), p.m[i]? = some a → q.m[i]? = some a) : ∀ {v : List (Key × V)} {d : List (Key × D)}, DVk K p H v d → DVk K q H' v d
  | _, _, .nil => .nil
  | _, _, .cons h r => .cons (DV.sub e pe h) (DVk.sub e pe r)
theorem DVf.sub {q : HD} (e : Sub (hide p H) (hide q H')) (pe : ∀ (i : Nat) (a : Addr), p.m[i]? = some a → q.m[i]? = some a) : ∀ {v : List (Str × V)} {d : List (Str × D)}, DVf K p H v d → DVf K q H' v d
  | _, _, .nil => .nil
  | _, _, .cons h r => .cons (DV.sub e pe h) (DVf.sub e pe r)
end
theorem DV.mono (e : Ext p H H') {v : V} {d : D} (h : DV K p H v d) : DV K p H' v d := h.sub (e.hide) fun _ _ z => z
theorem DVs.mono (e : Ext p H H') {v : List V} {d : List D} (h : DVs K p H v d) : DVs K p H' v d := h.sub (e.hide) fun _ _ z => z
theorem DV.also {a : Addr} (n : H a = none) {v : V} {d : D} (h : DV K p H v d) : DV K (p.also a) H v d := h.sub (also_sub n) fun _ _ z => z
theorem DV.less {a : Addr} {v : V} {d : D} (h : DV K (p.also a) H v d) : DV K p H v d := h.sub sub_also fun _ _ z => z
theorem DVs.length : ∀ {vs : List V} {ds : List D}, DVs K p H vs ds → vs.length = ds.length
  | _, _, .nil => rfl
  | _, _, .cons _ r => by rw [List.length_cons, List.length_cons, DVs.length r]
theorem DVs.get : ∀ {vs : List V} {ds : List D} {i : Nat} {d : D}, DVs K p H vs ds → ds[i]? = some d → ∃ v, vs[i]? = some v ∧ DV K p H v d
  | _, _, i, d, .nil, h => by simp at h
  | _, _, 0, d, .cons (v := v) h r, e => by
    have e' := Option.some.inj e
    subst e'
    exact ⟨v, rfl, h⟩
  | _, _, i + 1, d, .cons h r, e => DVs.get (i := i) r e
theorem DVs.get' : ∀ {vs : List V} {ds : List D} {i : Nat} {v : V}, DVs K p H vs ds → vs[i]? = some v → ∃ d, ds[i]? = some d ∧ DV K p H v d
  | _, _, i, d, .nil, h => by simp at h
  | _, _, 0, d, .cons (d := x) h r, e => by
    have e' := Option.some.inj e
    subst e'
    exact ⟨x, rfl, h⟩
  | _, _, i + 1, d, .cons h r, e => DVs.get' (i := i) r e
theorem DVs.app : ∀ {vs ws : List V} {ds es : List D}, DVs K p H vs ds → DVs K p H ws es → DVs K p H (vs ++ ws) (ds ++ es)
  | _, _, _, _, .nil, r => r
  | _, _, _, _, .cons h t, r => .cons h (DVs.app t r)
theorem dvs_strs : ∀ {ss : List Str}, DVs K p H (ss.map V.str) (ss.map D.str)
  | [] => .nil
  | s :: r => .cons (.str s) dvs_strs
theorem of_strs : ∀ {vs : List V} {ss : List Str}, DVs K p H vs (ss.map D.str) → vs = ss.map V.str
  | _, [], .nil => rfl
  | _, s :: r, .cons h t => by
    cases h
    rw [of_strs t]
    rfl
end

/-! ### what changes -/
mutual
/-- of what changes, it names only the first n -/
def lowD (n : Nat) : D → Bool
  | .mut i => decide (i < n)
  | .lst _ xs => lowDs n xs
  | .tup xs => lowDs n xs
  | .dct kvs => lowDk n kvs
  | .exn _ _ fs => lowDf n fs
  | .obj _ fs => lowDf n fs
  | _ => true
def lowDs (n : Nat) : List D → Bool
  | [] => true
  | d :: r => lowD n d && lowDs n r
def lowDk (n : Nat) : List (Key × D) → Bool
  | [] => true
  | (_, d) :: r => lowD n d && lowDk n r
def lowDf (n : Nat) : List (Str × D) → Bool
  | [] => true
  | (_, d) :: r => lowD n d && lowDf n r
end
section
variable {K : PySem.W.Frag} {p q : HD} {H H' : Hp} {n : Nat}
mutual
theorem DV.low (e : Sub (hide p H) (hide q H')) (pe : ∀ (i : Nat) (a : Addr), i < n → p.m[i]? = some a → q.m[i]? = some a) : ∀ {v : V} {d : D}, DV K p H v d → lowD n d = true → DV K q H' v d
  | _, _, .non, _ => .non
  | _, _, .bl b, _ => .bl b
  | _, _, .int i, _ => .int i
  | _, _, .str x, _ => .str x
  | _, _, .lst b h r, o => by
    unfold lowD at o
    exact .lst ⟨b.1, fun z => e _ _ (b.2 z)⟩ (e.sqL h) (DVs.low e pe r o)
  | _, _, .tup h r, o => by
    unfold lowD at o
    exact .tup (e.sqT h) (DVs.low e pe r o)
  | _, _, .dct h r, o => by
    unfold lowD at o
    exact .dct (e.rd h) (DVk.low e pe r o)
  | _, _, .mut h, o => by
    unfold lowD at o
    exact .mut (pe _ _ (of_decide_eq_true o) h)
  | _, _, .ty n, _ => .ty n
  | _, _, .cls a, _ => .cls a
  | _, _, .exn h r, o => by
    unfold lowD at o
    exact .exn (e _ _ h) (DVf.low e pe r o)
  | _, _, .obj h r, o => by
    unfold lowD at o
    exact .obj (e _ _ h) (DVf.low e pe r o)
theorem DVs.low (e : Sub (hide p H) (hide q H')) (pe : ∀ (i : Nat) (a : Addr), i < n → p.m[i]? = some a → q.m[i]? = some a) : ∀ {v : List V} {d : List D}, DVs K p H v d → lowDs n d = true → DVs K q H' v d
  | _, _, .nil, _ => .nil
  | _, _, .cons h r, o => by
    unfold lowDs at o
    exact .cons (DV.low e pe h (Bool.and_eq_true_iff.mp o).1) (DVs.low e pe r (Bool.and_eq_true_iff.mp o).2)
theorem DVk.low (e : Sub (hide p H) (hide q H')) (pe : ∀ (i : Nat) (a : Addr), i < n → p.m[i]? = some a → q.m[i]? = some a) : ∀ {v : List (Key × V)} {d : List (Key × D)}, DVk K p H v d → lowDk n d = true → DVk K q H' v d
  | _, _, .nil, _ => .nil
  | _, _, .cons h r, o => by
    unfold lowDk at o
    exact .cons (DV.low e pe h (Bool.and_eq_true_iff.mp o).1) (DVk.low e pe r (Bool.and_eq_true_iff.mp o).2)
theorem DVf.low (e : Sub (hide p H) (hide q H')) (pe : ∀ (i : Nat) (a : Addr), i < n → p.m[i]? = some a → q.m[i]? = some a) : ∀ {v : List (Str × V)} {d : List (Str × D)}, DVf K p H v d → lowDf n d = true → DVf K q H' v d
  | _, _, .nil, _ => .nil
  | _, _, .cons h r, o => by
    unfold lowDf at o
    exact .cons (DV.low e pe h (Bool.and_eq_true_iff.mp o).1) (DVf.low e pe r (Bool.and_eq_true_iff.mp o).2)
end
end
theorem sub_refl (G : Hp) : Sub G G := fun _ _ z => z
theorem Sub.trans {G G1 G2 : Hp} (a : Sub G G1) (b : Sub G1 G2) : Sub G G2 := fun x o h => b x o (a x o h)
def CellAt (K : PySem.W.Frag) (p : HD) (H : Hp) (a : Addr) : Cell → Prop
  | .lst ds => ∃ vs, H a = some (.lst vs) ∧ DVs K p.flat H vs ds
  | .ins C fs => ∃ dx fv, H a = some (.ins C dx fv) ∧ DVf K p.flat H fv fs
  | .dct kvs => ∃ kv, H a = some (.dK kv) ∧ DVk K p.flat H kv kvs
  | .gone => ∃ o, H a = some o
theorem CellAt.has {K : PySem.W.Frag} {p : HD} {H : Hp} {a : Addr} {x : Cell} (h : CellAt K p H a x) : ∃ o, H a = some o := by
  cases x with
  | lst ds => obtain ⟨vs, h, _⟩ := h; exact ⟨_, h⟩
  | ins C fs => obtain ⟨dx, fv, h, _⟩ := h; exact ⟨_, h⟩
  | dct kvs => obtain ⟨kv, h, _⟩ := h; exact ⟨_, h⟩
  | gone => exact h
theorem CellAt.sub {K : PySem.W.Frag} {p q : HD} {H H' : Hp} {a : Addr} {x : Cell} (e : Sub (hide p H) (hide q H')) (ea : H' a = H a) (h : CellAt K p H a x) : CellAt K q H' a x := by
  have e' : Sub (hide p.flat H) (hide q.flat H') := by
    rw [hide_flat, hide_flat]
    exact e
  have pe : ∀ (i : Nat) (b : Addr), p.flat.m[i]? = some b → q.flat.m[i]? = some b := fun i b z => by simp [HD.flat] at z
  cases x with
  | lst ds => obtain ⟨vs, h, r⟩ := h; exact ⟨vs, ea.trans h, r.sub e' pe⟩
  | ins C fs => obtain ⟨dx, fv, h, r⟩ := h; exact ⟨dx, fv, ea.trans h, r.sub e' pe⟩
  | dct kvs => obtain ⟨kv, h, r⟩ := h; exact ⟨kv, ea.trans h, r.sub e' pe⟩
  | gone => obtain ⟨o, h⟩ := h; exact ⟨o, ea.trans h⟩
def Cells (K : PySem.W.Frag) (p : HD) (H : Hp) (c : PC) : Prop := p.m.Nodup ∧ p.m.length = c.length ∧ ∀ (i : Nat) (a : Addr) (x : Cell), p.m[i]? = some a → c[i]? = some x → CellAt K p H a x
def PoolAt (K : PySem.W.Frag) (p : HD) (H : Hp) (c : PC) : Prop := Cells K p H c ∧ ∀ a ∈ p.z, ∃ o, H a = some o
section
variable {K : PySem.W.Frag} {p : HD} {H H1 : Hp} {c : PC} {a : Addr}
theorem PoolAt.ex (h : PoolAt K p H c) {b : Addr} (m : b ∈ p.m) : ∃ o, H b = some o := by
  obtain ⟨i, hi⟩ := List.getElem?_of_mem m
  have l : i < c.length := by
    rw [← h.1.2.1]
    exact (List.getElem?_eq_some_iff.mp hi).1
  exact (h.1.2.2 i b c[i] hi (List.getElem?_eq_getElem l)).has
theorem PoolAt.hid (h : PoolAt K p H c) {b : Addr} (m : p.hid b) : ∃ o, H b = some o := m.elim h.ex (h.2 b)
theorem PoolAt.not (h : PoolAt K p H c) (n : H a = none) : ¬ p.hid a := fun z => by
  obtain ⟨o, q⟩ := h.hid z
  rw [q] at n
  cases n
theorem upd_sub {o : HO} (n : H a = none) : Sub (hide p H) (hide p (upd H a o)) := (Ext.new n).hide
theorem PoolAt.upd {o : HO} (h : PoolAt K p H c) (n : H a = none) : PoolAt K p (L2.upd H a o) c := ⟨⟨h.1.1, h.1.2.1, fun i b x hi hx => by
  obtain ⟨u, q⟩ := h.ex (List.mem_of_getElem? hi)
  exact (h.1.2.2 i b x hi hx).sub (upd_sub n) (by rw [upd_ne (ne_of_none q n)])⟩, fun b m => by
  obtain ⟨u, q⟩ := h.2 b m
  exact ⟨u, by rw [upd_ne (ne_of_none q n)]; exact q⟩⟩
theorem fresh_back (e : Ext p H H1) (h : PoolAt K p H1 c) (n : H1 a = none) : H a = none := by
  cases q : H a with
  | none => rfl
  | some o =>
    have n2 : a ∉ p.m := fun z => by
      obtain ⟨u, r⟩ := h.ex z
      rw [r] at n
      cases n
    rw [e a o n2 q] at n
    cases n
/-- what is hidden besides may change as it likes -/
theorem PoolAt.other {o : HO} (h : PoolAt K p H c) (m : a ∈ p.z) (nm : a ∉ p.m) : PoolAt K p (L2.upd H a o) c := ⟨⟨h.1.1, h.1.2.1, fun i b x hi hx => by
  have nb : b ≠ a := fun z => nm (by rw [← z]; exact List.mem_of_getElem? hi)
  refine (h.1.2.2 i b x hi hx).sub (fun b u y => ?_) (by rw [upd_ne nb])
  obtain ⟨y1, y2⟩ := hide_some y
  rw [hide_ne y2, upd_ne (fun z => y2 (.inr (by rw [z]; exact m)))]
  exact y1⟩, fun b mb => by
  by_cases e : b = a
  · exact ⟨o, by rw [e, upd_same]⟩
  · obtain ⟨u, q⟩ := h.2 b mb
    exact ⟨u, by rw [upd_ne e]; exact q⟩⟩
theorem PoolAt.also (h : PoolAt K p H c) (n : H a = none) {o : HO} : PoolAt K (p.also a) (L2.upd H a o) c := ⟨⟨h.1.1, h.1.2.1, fun i b x hi hx => by
  obtain ⟨u, q⟩ := h.ex (List.mem_of_getElem? hi)
  refine (h.1.2.2 i b x hi hx).sub (fun b u y => ?_) (by rw [upd_ne (ne_of_none q n)])
  have y1 := also_sub n b u y
  obtain ⟨y3, y4⟩ := hide_some y1
  rw [hide_ne y4, upd_ne (ne_of_none y3 n)]
  exact y3⟩, fun b m => by
  rcases List.mem_cons.mp m with rfl | m
  · exact ⟨o, upd_same⟩
  · obtain ⟨u, q⟩ := h.2 b m
    exact ⟨u, by rw [upd_ne (ne_of_none q n)]; exact q⟩⟩
theorem PoolAt.less (h : PoolAt K (p.also a) H c) : PoolAt K p H c := ⟨⟨h.1.1, h.1.2.1, fun i b x hi hx => (h.1.2.2 i b x hi hx).sub sub_also rfl⟩, fun b m => h.2 b (List.mem_cons_of_mem _ m)⟩
/-- one of the changing things is written -/
theorem PoolAt.put {i : Nat} {o : HO} {x : Cell} (h : PoolAt K p H c) (hi : p.m[i]? = some a) (hx : CellAt K p (L2.upd H a o) a x) : PoolAt K p (L2.upd H a o) (c.set i x) := by
  have hm : a ∈ p.m := List.mem_of_getElem? hi
  have sb : Sub (hide p H) (hide p (L2.upd H a o)) := fun b u y => by
    obtain ⟨y1, y2⟩ := hide_some y
    rw [hide_ne y2, upd_ne (fun z => y2 (.inl (by rw [z]; exact hm)))]
    exact y1
  refine ⟨⟨h.1.1, by rw [List.length_set]; exact h.1.2.1, fun j b y hj hy => ?_⟩, fun b mb => ?_⟩
  · by_cases e : i = j
    · subst e
      rw [hi] at hj
      cases hj
      have l : i < c.length := by
        rw [← h.1.2.1]
        exact (List.getElem?_eq_some_iff.mp hi).1
      rw [List.getElem?_set_self l] at hy
      cases hy
      exact hx
    · rw [List.getElem?_set_ne e] at hy
      have nb : b ≠ a := fun z => e (by
        subst z
        have l1 := (List.getElem?_eq_some_iff.mp hi).1
        have l2 := (List.getElem?_eq_some_iff.mp hj).1
        have q1 := (List.getElem?_eq_some_iff.mp hi).2
        have q2 := (List.getElem?_eq_some_iff.mp hj).2
        exact (List.getElem_inj h.1.1).mp (q1.trans q2.symm))
      exact (h.1.2.2 j b y hj hy).sub sb (by rw [upd_ne nb])
  · by_cases e : b = a
    · exact ⟨o, by rw [e, upd_same]⟩
    · obtain ⟨u, q⟩ := h.2 b mb
      exact ⟨u, by rw [upd_ne e]; exact q⟩
end

/-- a new object: nothing that changes, and nothing of its own, knows of it -/
def New (K : PySem.W.Frag) (p : HD) (H H' : Hp) (c' : PC) (v : V) (d : D) : Prop := ∀ a, v = .ref a → (H a = none ∧ a ∉ p.m) ∧ PoolAt K (p.also a) H' c' ∧ ∀ g ds, d = .lst g ds → ∃ vs, H' a = some (.lst vs) ∧ DVs K (p.also a) H' vs ds
section
variable {K : PySem.W.Frag} {p : HD} {H H1 H' : Hp} {c c' : PC} {v : V} {d : D} {a : Addr}
theorem New.back (e : Ext p H H1) (n : New K p H1 H' c' v d) : New K p H H' c' v d := fun a h => by
  obtain ⟨⟨n1, n2⟩, n3⟩ := n a h
  refine ⟨⟨?_, n2⟩, n3⟩
  cases q : H a with
  | none => rfl
  | some o =>
    rw [e a o n2 q] at n1
    cases n1
theorem New.g {g g' : G} {ds : List D} (n : New K p H H' c' v (.lst g ds)) : New K p H H' c' v (.lst g' ds) := fun a h => by
  obtain ⟨h1, h2, h3⟩ := n a h
  exact ⟨h1, h2, fun g2 ds2 e => by
    cases e
    exact h3 g ds rfl⟩
theorem New.sc (h : ∀ a, v ≠ .ref a) : New K p H H' c' v d := fun a e => absurd e (h a)
theorem New.lst {vs : List V} {ds : List D} {g : G} (h : PoolAt K p H c) (n : H a = none) (r : DVs K p H vs ds) : New K p H (L2.upd H a (.lst vs)) c (.ref a) (.lst g ds) := fun b e => by
  cases e
  exact ⟨⟨n, fun z => h.not n (.inl z)⟩, h.also n, fun g' ds' e' => by
    cases e'
    exact ⟨vs, upd_same, (r.sub (also_sub n) fun _ _ z => z).mono (Ext.new n)⟩⟩
theorem New.oth {o : HO} (h : PoolAt K p H c) (n : H a = none) (hd : ∀ g ds, d ≠ .lst g ds) : New K p H (L2.upd H a o) c (.ref a) d := fun b e => by
  cases e
  exact ⟨⟨n, fun z => h.not n (.inl z)⟩, h.also n, fun g' ds' e' => absurd e' (hd g' ds')⟩
end

/-! ### the frame -/
abbrev Rho := List (Option D)
structure SR (K : PySem.W.Frag) (p : HD) (H : Hp) (σ : L2.St) (ρ : Rho) (c : PC) : Prop where
  len : σ.length = ρ.length
  at' : ∀ (i : Nat) (d : D), ρ[i]? = some (some d) → ∃ v, σ[i]? = some (some v) ∧ DV K p H v d
  pl : PoolAt K p H c
section
variable {K : PySem.W.Frag} {p : HD} {H H' : Hp} {σ : L2.St} {ρ : Rho} {c c' : PC}
theorem SR.mono (s : SR K p H σ ρ c) (e : Ext p H H') (q : PoolAt K p H' c') : SR K p H' σ ρ c' :=
  ⟨s.len, fun i d h => by
    obtain ⟨v, h1, h2⟩ := s.at' i d h
    exact ⟨v, h1, h2.mono e⟩, q⟩
theorem SR.set (s : SR K p H σ ρ c) (i : Nat) {v : V} {d : D} (h : DV K p H v d) : SR K p H (σ.set i (some v)) (ρ.set i (some d)) c := by
  refine ⟨by rw [List.length_set, List.length_set]; exact s.len, fun j e hj => ?_, s.pl⟩
  by_cases q : i = j
  · subst q
    rw [List.getElem?_set] at hj
    by_cases l : i < ρ.length
    · rw [if_pos rfl, if_pos l] at hj
      have e' := Option.some.inj (Option.some.inj hj)
      subst e'
      refine ⟨v, ?_, h⟩
      rw [List.getElem?_set, if_pos rfl, if_pos (by rw [s.len]; exact l)]
    · rw [if_pos rfl, if_neg l] at hj
      cases hj
  · rw [List.getElem?_set_ne q] at hj
    obtain ⟨w, h1, h2⟩ := s.at' j e hj
    exact ⟨w, by rw [List.getElem?_set_ne q]; exact h1, h2⟩
/-- slots of which nothing is known -/
theorem SR.weak {σ' : L2.St} {ρ' : Rho} (s : SR K p H σ ρ c) (hl : σ'.length = ρ'.length) (h : ∀ (i : Nat) (d : D), ρ'[i]? = some (some d) → ρ[i]? = some (some d)) (hs : ∀ (i : Nat) (v : V) (d : D), ρ'[i]? = some (some d) → σ[i]? = some (some v) → σ'[i]? = some (some v)) : SR K p H σ' ρ' c :=
  ⟨hl, fun i d e => by
    obtain ⟨v, h1, h2⟩ := s.at' i d (h i d e)
    exact ⟨v, hs i v d e h1, h2⟩, s.pl⟩
end

/-! ### outcomes -/
/-- of an expression -/
inductive EO where
  | val (d : D) (nw : Bool) (c : PC)
  | ex (C : Addr) (fs : List (Str × D)) (c : PC)
/-- of a test -/
inductive TO where
  | val (b : Bool) (c : PC)
  | ex (C : Addr) (fs : List (Str × D)) (c : PC)
inductive AO where
  | val (ds : List D) (c : PC)
  | ex (C : Addr) (fs : List (Str × D)) (c : PC)
/-- of a statement -/
inductive SO where
  | nx (ρ : Rho) (c : PC)
  | rt (d : D) (nw : Bool) (c : PC)
  | ex (C : Addr) (fs : List (Str × D)) (c : PC)
theorem DVf.mono {K : PySem.W.Frag} {p : HD} {H H' : Hp} (e : Ext p H H') {v : List (Str × V)} {d : List (Str × D)} (h : DVf K p H v d) : DVf K p H' v d := h.sub e.hide fun _ _ z => z
theorem DVf.get {K : PySem.W.Frag} {p : HD} {H : Hp} {f : Str} {d : D} : ∀ {vs : List (Str × V)} {ds : List (Str × D)}, DVf K p H vs ds → ds.lookup f = some d → ∃ v, vs.lookup f = some v ∧ DV K p H v d
  | _, _, .nil, h => by cases h
  | _, _, .cons (f := g) (v := v) (d := x) h r, e => by
    rw [List.lookup_cons] at e ⊢
    cases q : f == g with
    | true =>
      rw [q] at e
      have e' := Option.some.inj e
      subst e'
      exact ⟨v, rfl, h⟩
    | false =>
      rw [q] at e
      exact DVf.get r e

def XW (K : PySem.W.Frag) (W : WX) (p : HD) (ρ : Rho) (H : Hp) (C : Addr) (fs : List (Str × D)) (c' : PC) : Prop :=
  ∀ (dx : Addr) (fv : List (Str × V)) (σ' : L2.St) (H' : Hp), Ext p H H' → SR K p H' σ' ρ c' → hide p H' dx = some (.xd fv) → DVf K p H' fv fs → W (.ref C) (some dx) σ' H'
def tE (K : PySem.W.Frag) (W : WX) (p : HD) (ρ : Rho) (c : PC) : EO → TE
  | .val d nw c' => fun σ H Q => SR K p H σ ρ c ∧ ∀ v H', Ext p H H' → PoolAt K p H' c' → DV K p H' v d → (nw = true → New K p H H' c' v d) → Q v H'
  | .ex C fs c' => fun σ H _ => SR K p H σ ρ c ∧ XW K W p ρ H C fs c'
def tT (K : PySem.W.Frag) (W : WX) (p : HD) (ρ : Rho) (c : PC) : TO → TT
  | .val b c' => fun σ H Q => SR K p H σ ρ c ∧ ∀ H', Ext p H H' → PoolAt K p H' c' → Q b H'
  | .ex C fs c' => fun σ H _ => SR K p H σ ρ c ∧ XW K W p ρ H C fs c'
def tA (K : PySem.W.Frag) (W : WX) (p : HD) (ρ : Rho) (c : PC) : AO → TA
  | .val ds c' => fun σ H Q => SR K p H σ ρ c ∧ ∀ vs H', Ext p H H' → PoolAt K p H' c' → DVs K p H' vs ds → Q vs H'
  | .ex C fs c' => fun σ H _ => SR K p H σ ρ c ∧ XW K W p ρ H C fs c'
def tSt (K : PySem.W.Frag) (W : WX) (p : HD) (ρ : Rho) (c : PC) : SO → TS
  | .nx ρ' c' => fun D σ H => SR K p H σ ρ c ∧ ∀ σ' H', Ext p H H' → SR K p H' σ' ρ' c' → D.nx σ' H'
  | .rt d nw c' => fun D σ H => SR K p H σ ρ c ∧ ∀ v H', Ext p H H' → PoolAt K p H' c' → DV K p H' v d → (nw = true → New K p H H' c' v d) → D.rt v H'
  | .ex C fs c' => fun D σ H => SR K p H σ ρ c ∧ ∀ (ρ' : Rho) (dx : Addr) (fv : List (Str × V)) (σ' : L2.St) (H' : Hp), Ext p H H' → SR K p H' σ' ρ' c' → ρ'.length = ρ.length → hide p H' dx = some (.xd fv) → DVf K p H' fv fs → W (.ref C) (some dx) σ' H'
abbrev RE (X : Cx) (W : WX) (p : HD) (ρ : Rho) (c : PC) (e : Expr) (o : EO) : Prop := PE X e (tE X.K W p ρ c o)
abbrev RT (X : Cx) (W : WX) (p : HD) (ρ : Rho) (c : PC) (e : Expr) (o : TO) : Prop := PT X e (tT X.K W p ρ c o)
abbrev RA (X : Cx) (W : WX) (p : HD) (ρ : Rho) (c : PC) (es : List Expr) (o : AO) : Prop := PA X es (tA X.K W p ρ c o)
abbrev RS (X : Cx) (W : WX) (p : HD) (ρ : Rho) (c : PC) (st : Stmt) (o : SO) : Prop := PS X st (tSt X.K W p ρ c o)
abbrev RSs (X : Cx) (W : WX) (p : HD) (ρ : Rho) (c : PC) (st : List Stmt) (o : SO) : Prop := PSs X st (tSt X.K W p ρ c o)
theorem pe_imp {X : Cx} {e : Expr} {t t' : TE} (h : PE X e t) (w : ∀ σ H Q, t' σ H Q → t σ H Q) : PE X e t' := ⟨fun pins s σ H Q I q => h.run pins s σ H Q I (w σ H Q q)⟩
theorem pt_imp {X : Cx} {e : Expr} {t t' : TT} (h : PT X e t) (w : ∀ σ H Q, t' σ H Q → t σ H Q) : PT X e t' := ⟨fun pins s σ H Q I q => h.run pins s σ H Q I (w σ H Q q)⟩
theorem pw_imp {X : Cx} {e : Expr} {t t' : TT} (h : PW X e t) (w : ∀ σ H Q, t' σ H Q → t σ H Q) : PW X e t' := ⟨fun wh pins s σ H Q I q => h.run wh pins s σ H Q I (w σ H Q q)⟩
theorem pa_imp {X : Cx} {e : List Expr} {t t' : TA} (h : PA X e t) (w : ∀ σ H Q, t' σ H Q → t σ H Q) : PA X e t' := ⟨fun ps pins s σ H Q I q => h.run ps pins s σ H Q I (w σ H Q q)⟩
theorem ps_imp {X : Cx} {e : Stmt} {t t' : TS} (h : PS X e t) (w : ∀ D σ H, t' D σ H → t D σ H) : PS X e t' := ⟨fun pins s σ H D I q => h.run pins s σ H D I (w D σ H q)⟩
theorem pss_imp {X : Cx} {e : List Stmt} {t t' : TS} (h : PSs X e t) (w : ∀ D σ H, t' D σ H → t D σ H) : PSs X e t' := ⟨fun pins s σ H D I q => h.run pins s σ H D I (w D σ H q)⟩
end LA

namespace LA
open PySem PySem.Spec PyProof.Rows L2
section
variable {X : Cx} {W : WX} {p : HD} {ρ : Rho} {c c1 c2 c3 : PC} {e a b : Expr} {es : List Expr} {pos : Pos} {d d1 d2 : D} {n1 n2 nw : Bool}

/-! ### words and names -/
theorem re_c {v : V} {d : D} (h : PE X e (tC v)) (hv : ∀ H, DV X.K p H v d) (hs : ∀ a, v ≠ .ref a) : RE X W p ρ c e (.val d true c) :=
  pe_imp h fun _ H _ ⟨s, k⟩ => k v H (Ext.refl p H) s.pl (hv H) fun _ => New.sc hs
theorem re_int {i : Int} {j : Nat} : RE X W p ρ c (.Constant (.int i) j pos) (.val (.int i) true c) := re_c pe_int (fun _ => .int i) (by intro a h; cases h)
theorem re_bl {i : Bool} {j : Nat} : RE X W p ρ c (.Constant (.bool i) j pos) (.val (.bl i) true c) := re_c pe_bl (fun _ => .bl i) (by intro a h; cases h)
theorem re_non {j : Nat} : RE X W p ρ c (.Constant .none j pos) (.val .non true c) := re_c pe_non (fun _ => .non) (by intro a h; cases h)
theorem re_str {x : Str} {j : Nat} : RE X W p ρ c (.Constant (.str x) j pos) (.val (.str x) true c) := re_c pe_str (fun _ => .str x) (by intro a h; cases h)
theorem re_gint {x : Str} {i : Int} {t : Tok} (hm : X.mg x = some (.int i t)) (hg : Gl X x := by rfl) (hd : (x == ("__debug__" : Str)) = false := by decide) : RE X W p ρ c (.Name x pos) (.val (.int i) true c) :=
  re_c (pe_glob (v := .int i) hg hm ⟨t, rfl⟩ hd) (fun _ => .int i) (by intro a h; cases h)
theorem re_var (i : Nat) {x : Str} (hN : X.N[i]? = some x := by rfl) (hρ : ρ[i]? = some (some d) := by rfl) (hv : Vis X.env.scope x := by first | exact Or.inl rfl | exact Or.inr (Or.inl rfl) | exact Or.inr (Or.inr rfl))
    (hd : (x == ("__debug__" : Str)) = false := by decide) (hcd : (x == ("__classdict__" : Str)) = false := by decide) : RE X W p ρ c (.Name x pos) (.val d false c) :=
  pe_imp (pe_var hN hv hd hcd) fun σ H Q ⟨s, k⟩ => by
    obtain ⟨v, h1, h2⟩ := s.at' i d hρ
    exact ⟨v, h1, k v H (Ext.refl p H) s.pl h2 fun q => nomatch q⟩

/-! ### two in a row -/
/-- what an operation on data gives -/
def OV (K : PySem.W.Frag) (p : HD) (r : R2) (x y z : D) (nw : Bool) (c : PC) : Prop :=
  ∀ (v u : V) (H : Hp) (Q : VK), DV K p H v x → DV K p H u y → PoolAt K p H c → (∀ w H', Ext p H H' → PoolAt K p H' c → DV K p H' w z → (nw = true → New K p H H' c w z) → Q w H') → r v u H Q
theorem two {ta tb : TE} {σ : L2.St} {H : Hp} {R : V → V → Hp → Prop} (s : SR X.K p H σ ρ c) (ha : ta = tE X.K W p ρ c (.val d1 n1 c1)) (hb : tb = tE X.K W p ρ c1 (.val d2 n2 c2))
    (k : ∀ v u H', Ext p H H' → PoolAt X.K p H' c2 → DV X.K p H' v d1 → DV X.K p H' u d2 → R v u H') : ta σ H fun x H1 => tb σ H1 fun y H2 => R x y H2 := by
  subst ha hb
  refine ⟨s, fun v H1 e1 p1 dv _ => ⟨s.mono e1 p1, fun u H2 e2 p2 du _ => k v u H2 (e1.trans e2) p2 (dv.mono e2) du⟩⟩
theorem re_bin {op : Operator} {r : R2} (ho : OpR X (binaryOp op) r) (ha : RE X W p ρ c a (.val d1 n1 c1)) (hb : RE X W p ρ c1 b (.val d2 n2 c2)) (hr : OV X.K p r d1 d2 d nw c2) : RE X W p ρ c (.BinOp a op b pos) (.val d nw c2) :=
  pe_imp (pe_op ho ha hb) fun σ H Q ⟨s, k⟩ => two (W := W) s rfl rfl fun v u H1 e1 p1 dv du => hr v u H1 Q dv du p1 fun w H2 e2 p2 dw hn => k w H2 (e1.trans e2) p2 dw fun q => (hn q).back e1
theorem re_cmp {op : CmpOp} {r : R2} (ho : OpR X (compareOp op) r) (ha : RE X W p ρ c a (.val d1 n1 c1)) (hb : RE X W p ρ c1 b (.val d2 n2 c2)) (hr : OV X.K p r d1 d2 d nw c2)
    (hm : behindInMarks op b = false := by first | rfl | exact nomark _) : RE X W p ρ c (.Compare a [op] [b] pos) (.val d nw c2) :=
  pe_imp (pe_cmpR ho ha hb hm) fun σ H Q ⟨s, k⟩ => two (W := W) s rfl rfl fun v u H1 e1 p1 dv du => hr v u H1 Q dv du p1 fun w H2 e2 p2 dw hn => k w H2 (e1.trans e2) p2 dw fun q => (hn q).back e1
theorem rt_cmp {op : CmpOp} {r : R2} {k : Bool} (ho : OpR X (compareOp op) r) (ha : RE X W p ρ c a (.val d1 n1 c1)) (hb : RE X W p ρ c1 b (.val d2 n2 c2)) (hr : OV X.K p r d1 d2 (.bl k) nw c2)
    (hm : behindInMarks op b = false := by first | rfl | exact nomark _) : RT X W p ρ c (.Compare a [op] [b] pos) (.val k c2) :=
  pt_imp (pt_cmpR ho ha hb hm) fun σ H Q ⟨s, kk⟩ => two (W := W) s rfl rfl fun v u H1 e1 p1 dv du => hr v u H1 _ dv du p1 fun w H2 e2 p2 dw hn => by
    cases dw
    exact ⟨k, rfl, kk H2 (e1.trans e2) p2⟩
/-! answers of operations -/
variable {K : PySem.W.Frag}
theorem ov_I {C : Int → Int → Prop} {g : Int → Int → V} {i j : Int} {z : D} (hc : C i j) (hz : ∀ H, DV K p H (g i j) z) (hs : ∀ a, g i j ≠ .ref a) : OV K p (rI C g) (.int i) (.int j) z true c := fun v u H Q dv du hp k => by
  cases dv
  cases du
  exact ⟨i, j, rfl, rfl, hc, k _ H (Ext.refl p H) hp (hz H) fun _ => New.sc hs⟩
theorem ov_I0 {g : Int → Int → V} {i j : Int} {z : D} (hz : ∀ H, DV K p H (g i j) z) (hs : ∀ a, g i j ≠ .ref a) : OV K p (rI0 g) (.int i) (.int j) z true c := fun v u H Q dv du hp k => by
  cases dv
  cases du
  exact ⟨i, j, rfl, rfl, k _ H (Ext.refl p H) hp (hz H) fun _ => New.sc hs⟩
/-- ints to an int -/
theorem ov_ii {f : Int → Int → Int} {i j : Int} : OV K p (rI0 fun i j => .int (f i j)) (.int i) (.int j) (.int (f i j)) true c := ov_I0 (fun _ => .int _) (by intro a h; cases h)
theorem ov_ib {f : Int → Int → Bool} {i j : Int} : OV K p (rI0 fun i j => .bl (f i j)) (.int i) (.int j) (.bl (f i j)) true c := ov_I0 (fun _ => .bl _) (by intro a h; cases h)
theorem ov_cii {C : Int → Int → Prop} {f : Int → Int → Int} {i j : Int} (hc : C i j) : OV K p (rI C fun i j => .int (f i j)) (.int i) (.int j) (.int (f i j)) true c := ov_I hc (fun _ => .int _) (by intro a h; cases h)
theorem ov_addS {s t : Str} (h : s.length + t.length ≤ sizeLine) : OV K p (fun x y H Q => ∃ i j, x = .str i ∧ y = .str j ∧ i.length + j.length ≤ sizeLine ∧ Q (.str (i ++ j)) H) (.str s) (.str t) (.str (s ++ t)) true c := fun v u H Q dv du hp k => by
  cases dv
  cases du
  exact ⟨s, t, rfl, rfl, h, k _ H (Ext.refl p H) hp (.str _) fun _ => New.sc (by intro a h; cases h)⟩
/-- scalars, as == takes them -/
def scD : D → Option V
  | .non => some .non
  | .bl b => some (.bl b)
  | .int i => some (.int i)
  | .str s => some (.str s)
  | _ => none
theorem dv_sc {H : Hp} {v x : V} {d : D} (h : DV K p H v d) (e : scD d = some x) : v = x := by
  cases h <;> first | exact Option.some.inj e | cases e
theorem ov_eqS {x y : D} {v u : V} (hx : scD x = some v) (hy : scD y = some u) (hs : scal v u = true) : OV K p rEq x y (.bl (decide (v = u))) true c := fun v' u' H Q dv du hp k => by
  have e1 := dv_sc dv hx
  have e2 := dv_sc du hy
  subst e1 e2
  exact ⟨hs, k _ H (Ext.refl p H) hp (.bl _) fun _ => New.sc (by intro a h; cases h)⟩
theorem ov_neS {x y : D} {v u : V} (hx : scD x = some v) (hy : scD y = some u) (hs : scal v u = true) : OV K p rNe x y (.bl (!decide (v = u))) true c := fun v' u' H Q dv du hp k => by
  have e1 := dv_sc dv hx
  have e2 := dv_sc du hy
  subst e1 e2
  exact ⟨hs, k _ H (Ext.refl p H) hp (.bl _) fun _ => New.sc (by intro a h; cases h)⟩
theorem ov_inC {ch : Nat} {z : Str} : OV K p (fun x y H Q => ∃ (c : Nat) (z : Str), x = .str ⟨#[c]⟩ ∧ y = .str z ∧ Q (.bl (decide (c ∈ z.cps.toList))) H) (.str ⟨#[ch]⟩) (.str z) (.bl (decide (ch ∈ z.cps.toList))) true c := fun v u H Q dv du hp k => by
  cases dv
  cases du
  exact ⟨ch, z, rfl, rfl, k _ H (Ext.refl p H) hp (.bl _) fun _ => New.sc (by intro a h; cases h)⟩
theorem ov_niC {ch : Nat} {z : Str} : OV K p (fun x y H Q => ∃ (c : Nat) (z : Str), x = .str ⟨#[c]⟩ ∧ y = .str z ∧ Q (.bl (!decide (c ∈ z.cps.toList))) H) (.str ⟨#[ch]⟩) (.str z) (.bl (!decide (ch ∈ z.cps.toList))) true c := fun v u H Q dv du hp k => by
  cases dv
  cases du
  exact ⟨ch, z, rfl, rfl, k _ H (Ext.refl p H) hp (.bl _) fun _ => New.sc (by intro a h; cases h)⟩
/-- flat data, as in takes it -/
theorem dvs_sc {H : Hp} : ∀ {vs xs : List V} {ds : List D}, DVs K p H vs ds → ds.map scD = xs.map some → vs = xs
  | _, [], _, .nil, _ => rfl
  | _, x :: xs, _, .cons h r, e => by
    rw [List.map_cons, List.map_cons] at e
    injection e with e1 e2
    rw [dv_sc h e1, dvs_sc r e2]
  | _, x :: xs, _, .nil, e => by cases e
  | _, [], _, .cons h r, e => by cases e
theorem ov_inT {x : D} {ds : List D} {v : V} {xs : List V} {neg : Bool} (hx : scD x = some v) (hs : ds.map scD = xs.map some) (fx : flatV v = true) (fs : xs.all flatV = true) :
    OV K p (rIn K neg) x (.tup ds) (.bl (if neg then !inV v xs else inV v xs)) true c := fun v' u' H Q dv du hp k => by
  have e1 := dv_sc dv hx
  subst e1
  cases du with
  | tup h r =>
    have e2 := dvs_sc r hs
    subst e2
    exact ⟨_, _, rfl, .inr (un_sqT h), fx, fs, k _ H (Ext.refl p H) hp (.bl _) fun _ => New.sc (by intro a h; cases h)⟩

/-! ### and, or, not, if -/
theorem re_one {op : BoolOpKind} (h : True) : True := trivial
theorem re_and {rest : List Expr} {k1 k2 : Bool} (ha : RE X W p ρ c a (.val (.bl k1) n1 c1)) (hb : k1 = true → RE X W p ρ c1 (.BoolOp .And (b :: rest) pos) (.val (.bl k2) true c1)) : RE X W p ρ c (.BoolOp .And (a :: b :: rest) pos) (.val (.bl (k1 && k2)) true c1) := by
  cases k1 with
  | true =>
    exact pe_imp (pe_and ha (hb rfl)) fun σ H Q ⟨s, k⟩ => ⟨s, fun v H1 e1 p1 dv _ => by
      cases dv
      exact ⟨true, rfl, s.mono e1 p1, fun u H2 e2 p2 du hn => k u H2 (e1.trans e2) p2 du fun q => (hn q).back e1⟩⟩
  | false =>
    have hN : PE X (.BoolOp .And (b :: rest) pos) (fun _ _ _ => False) := ⟨fun _ _ _ _ _ _ z => z.elim⟩
    exact pe_imp (pe_and ha hN) fun σ H Q ⟨s, k⟩ => ⟨s, fun v H1 e1 p1 dv _ => by
      cases dv
      refine ⟨false, rfl, ?_⟩
      refine iteF ?_
      exact k _ H1 e1 p1 (.bl false) fun _ => New.sc (by intro a h; cases h)⟩
theorem re_and1 {op : BoolOp} (h : RE X W p ρ c a (.val d nw c1)) : RE X W p ρ c (.BoolOp op [a] pos) (.val d nw c1) := pe_one h
theorem re_if {t : Expr} {k : Bool} {o : EO} (ht : RT X W p ρ c t (.val k c1)) (h1 : k = true → RE X W p ρ c1 a o) (h2 : k = false → RE X W p ρ c1 b o) : RE X W p ρ c (.IfExp t a b pos) o := by
  have N : ∀ e, PE X e (fun _ _ _ => False) := fun e => ⟨fun _ _ _ _ _ _ z => z.elim⟩
  cases k with
  | true =>
    refine pe_imp (pe_ifExp ht (h1 rfl) (N b)) fun σ H Q h => ?_
    cases o with
    | val d nw c' => exact ⟨h.1, fun H1 e1 p1 => ⟨h.1.mono e1 p1, fun v H2 e2 p2 dv hn => h.2 v H2 (e1.trans e2) p2 dv fun q => (hn q).back e1⟩⟩
    | ex C fs c' => exact ⟨h.1, fun H1 e1 p1 => ⟨h.1.mono e1 p1, fun dx fv σ' H2 e2 s2 hx hf => h.2 dx fv σ' H2 (e1.trans e2) s2 hx hf⟩⟩
  | false =>
    refine pe_imp (pe_ifExp ht (N a) (h2 rfl)) fun σ H Q h => ?_
    cases o with
    | val d nw c' =>
      refine ⟨h.1, fun H1 e1 p1 => ?_⟩
      refine iteF ?_
      exact ⟨h.1.mono e1 p1, fun v H2 e2 p2 dv hn => h.2 v H2 (e1.trans e2) p2 dv fun q => (hn q).back e1⟩
    | ex C fs c' =>
      refine ⟨h.1, fun H1 e1 p1 => ?_⟩
      refine iteF ?_
      exact ⟨h.1.mono e1 p1, fun dx fv σ' H2 e2 s2 hx hf => h.2 dx fv σ' H2 (e1.trans e2) s2 hx hf⟩
/-- a bool as a test -/
theorem rt_val {k : Bool} (h : RE X W p ρ c e (.val (.bl k) nw c1)) (he : ∀ whole, isTrue e X.env whole = (do let v ← whole; standAt e.pos; holding [v] (truthy v)) := by intro _; rfl) : RT X W p ρ c e (.val k c1) :=
  pt_imp (pt_val h he) fun σ H Q ⟨s, kk⟩ => ⟨s, fun v H1 e1 p1 dv _ => by
    cases dv
    exact ⟨k, rfl, kk H1 e1 p1⟩⟩
theorem rt_ex {C : Addr} {fs : List (Str × D)} (h : RE X W p ρ c e (.ex C fs c1)) (he : ∀ whole, isTrue e X.env whole = (do let v ← whole; standAt e.pos; holding [v] (truthy v)) := by intro _; rfl) : RT X W p ρ c e (.ex C fs c1) :=
  pt_imp (pt_val h he) fun σ H Q q => q
/-- a list's truth -/
theorem rt_lst {g : G} {ds : List D} (h : RE X W p ρ c e (.val (.lst g ds) nw c1)) (he : ∀ whole, isTrue e X.env whole = (do let v ← whole; standAt e.pos; holding [v] (truthy v)) := by intro _; rfl) : RT X W p ρ c e (.val (!ds.isEmpty) c1) :=
  pt_imp (pt_truth h he) fun σ H Q ⟨s, kk⟩ => ⟨s, fun v H1 e1 p1 dv _ => by
    cases dv with
    | lst _ h r =>
      refine ⟨!ds.isEmpty, .inl ⟨_, un_sqL h, ?_⟩, kk H1 e1 p1⟩
      cases r <;> rfl⟩
theorem rt_not {k : Bool} (h : RT X W p ρ c a (.val k c1)) : RT X W p ρ c (.UnaryOp .Not a pos) (.val (!k) c1) :=
  pt_imp (pt_not h) fun σ H Q ⟨s, kk⟩ => ⟨s, fun H1 e1 p1 => kk H1 e1 p1⟩
def RW (X : Cx) (W : WX) (p : HD) (ρ : Rho) (c : PC) (e : Expr) (o : TO) : Prop := PW X e (tT X.K W p ρ c o)
theorem rw_or {rest : List Expr} {k1 k2 : Bool} (ha : RT X W p ρ c a (.val k1 c1)) (hb : k1 = false → RW X W p ρ c1 (.BoolOp .Or (b :: rest) pos) (.val k2 c1)) : RW X W p ρ c (.BoolOp .Or (a :: b :: rest) pos) (.val (k1 || k2) c1) := by
  have N : PW X (.BoolOp .Or (b :: rest) pos) (fun _ _ _ => False) := ⟨fun _ _ _ _ _ _ _ z => z.elim⟩
  cases k1 with
  | true =>
    exact pw_imp (pw_or ha N) fun σ H Q ⟨s, kk⟩ => ⟨s, fun H1 e1 p1 => kk H1 e1 p1⟩
  | false =>
    refine pw_imp (pw_or ha (hb rfl)) fun σ H Q ⟨s, kk⟩ => ⟨s, fun H1 e1 p1 => ?_⟩
    refine iteF ?_
    exact ⟨s.mono e1 p1, fun H2 e2 p2 => kk H2 (e1.trans e2) p2⟩
theorem rw_or1 {k : Bool} (ha : RT X W p ρ c a (.val k c1)) : RW X W p ρ c (.BoolOp .Or [a] pos) (.val k c1) := pw_or1 ha
theorem rw_and {rest : List Expr} {k1 k2 : Bool} (ha : RT X W p ρ c a (.val k1 c1)) (hb : k1 = true → RW X W p ρ c1 (.BoolOp .And (b :: rest) pos) (.val k2 c1)) : RW X W p ρ c (.BoolOp .And (a :: b :: rest) pos) (.val (k1 && k2) c1) := by
  have N : PW X (.BoolOp .And (b :: rest) pos) (fun _ _ _ => False) := ⟨fun _ _ _ _ _ _ _ z => z.elim⟩
  cases k1 with
  | false =>
    refine pw_imp (pw_and ha N) fun σ H Q ⟨s, kk⟩ => ⟨s, fun H1 e1 p1 => ?_⟩
    refine iteF ?_
    exact kk H1 e1 p1
  | true =>
    exact pw_imp (pw_and ha (hb rfl)) fun σ H Q ⟨s, kk⟩ => ⟨s, fun H1 e1 p1 => ⟨s.mono e1 p1, fun H2 e2 p2 => kk H2 (e1.trans e2) p2⟩⟩
theorem rw_and1 {k : Bool} (ha : RT X W p ρ c a (.val k c1)) : RW X W p ρ c (.BoolOp .And [a] pos) (.val k c1) := pw_and1 ha
theorem RW.rt {o : TO} (h : RW X W p ρ c e o) : RT X W p ρ c e o := PW.pt h

/-! ### arguments, displays -/
theorem ra_nil : RA X W p ρ c [] (.val [] c) := pa_imp pa_nil fun σ H Q ⟨s, k⟩ => k [] H (Ext.refl p H) s.pl .nil
theorem ra_cons {ds : List D} (ha : RE X W p ρ c e (.val d nw c1)) (hr : RA X W p ρ c1 es (.val ds c2)) (hs : starEach (e :: es) X.env = (false, eval e X.env) :: starEach es X.env := by rfl) : RA X W p ρ c (e :: es) (.val (d :: ds) c2) :=
  pa_imp (pa_cons ha hr hs) fun σ H Q ⟨s, k⟩ => ⟨s, fun v H1 e1 p1 dv _ => ⟨s.mono e1 p1, fun vs H2 e2 p2 dvs => k (v :: vs) H2 (e1.trans e2) p2 (.cons (dv.mono e2) dvs)⟩⟩
theorem sz_le {n : Nat} (h : n ≤ 100000) : n ≤ sizeLine := Nat.le_trans h (by decide)
theorem sz_lt {n : Nat} (h : n < 100000) : n < sizeLine := Nat.lt_of_lt_of_le h (by decide)
theorem hide_upd {p : HD} {H : Hp} {c : PC} {a : Addr} {o : HO} (hp : PoolAt K p H c) (n : H a = none) : hide p (upd H a o) a = some o := by
  rw [hide_ne (hp.not n), upd_same]
/-- a written list stands behind the run's own objects -/
def tLstB (t : TA) : TE := fun σ H Q => t σ H fun xs H1 => xs.length ≤ sizeLine ∧ ∀ p, H1 p = none → p ≠ sysModules → Q (.ref p) (upd H1 p (.lst xs))
theorem pe_lstB {t : TA} (h : PA X es t) : PE X (.List es pos) (tLstB t) := ⟨fun pins s σ H Q I hq =>
  wpAny_List_spliced (thn (h.run pos pins s σ H _ I hq) fun us sh ⟨vs, H1, J, rv, hz, q⟩ => by
    have nf : H1 sh.heap.objs.size = none := J.hok.fresh (Nat.le_refl _)
    refine ⟨by rw [← rv.length]; exact hz, .ref sh.heap.objs.size, upd H1 sh.heap.objs.size (.lst vs), ?_, rfl, q _ nf (Nat.ne_of_gt J.big)⟩
    exact J.laid (t' := sh.toks) (fun b u y => Heap.get?_push_of_some _ y) (Nat.le_refl _) ⟨hz, us, 0, rv, Heap.get?_push_size _ rfl⟩)⟩
theorem re_lst {ds : List D} (h : RA X W p ρ c es (.val ds c1)) (hl : ds.length ≤ 100000) : RE X W p ρ c (.List es pos) (.val (.lst ⟨true, true⟩ ds) true c1) :=
  pe_imp (pe_lstB h) fun σ H Q ⟨s, k⟩ => ⟨s, fun vs H1 e1 p1 dvs => ⟨by rw [dvs.length]; exact sz_le hl, fun a n hb =>
    k _ _ (e1.trans (Ext.new n)) (p1.upd n) (.lst ⟨fun _ => hb, fun _ => hide_upd p1 n⟩ (.inl (.inl (hide_upd p1 n))) (dvs.mono (Ext.new n))) fun _ => (New.lst p1 n dvs).back e1⟩⟩
theorem re_tup {ds : List D} {x1 : Nat} (h : RA X W p ρ c es (.val ds c1)) (hl : ds.length ≤ 100000) : RE X W p ρ c (.Tuple es x1 pos) (.val (.tup ds) true c1) :=
  pe_imp (pe_tup h) fun σ H Q ⟨s, k⟩ => ⟨s, fun vs H1 e1 p1 dvs => ⟨by rw [dvs.length]; exact sz_le hl, fun a n =>
    k _ _ (e1.trans (Ext.new n)) (p1.upd n) (.tup (.inl (.inl (hide_upd p1 n))) (dvs.mono (Ext.new n))) fun _ => (New.oth p1 n (by intro _ _ z; cases z)).back e1⟩⟩

/-! ### subscripts -/
theorem re_ix {r : R2} (hr : IxR X r) (ha : RE X W p ρ c a (.val d1 n1 c1)) (hb : RE X W p ρ c1 b (.val d2 n2 c2)) (hv : OV X.K p r d1 d2 d nw c2) (hs : PlainIx b := by exact fun _ _ => rfl) : RE X W p ρ c (.Subscript a b pos) (.val d nw c2) :=
  pe_imp (pe_ix hr ha hb hs) fun σ H Q ⟨s, k⟩ => two (W := W) s rfl rfl fun v u H1 e1 p1 dv du => hv v u H1 Q dv du p1 fun w H2 e2 p2 dw hn => k w H2 (e1.trans e2) p2 dw fun q => (hn q).back e1
theorem dvs_atI {H : Hp} {vs : List V} {ds : List D} {i : Int} {j : Nat} {d : D} (r : DVs K p H vs ds) (e : i = (j : Int)) (h : ds[j]? = some d) : ∃ v, atI vs i = some v ∧ DV K p H v d := by
  obtain ⟨v, h1, h2⟩ := r.get h
  exact ⟨v, at_of e h1, h2⟩
theorem ov_ixL {g : G} {ds : List D} {i : Int} {j : Nat} {d : D} (e : i = (j : Int)) (h : ds[j]? = some d) : OV K p (rIx K) (.lst g ds) (.int i) d false c := fun v u H Q dv du hp k => by
  cases dv with
  | lst _ hq r =>
    cases du
    obtain ⟨w, h1, h2⟩ := dvs_atI r e h
    exact .inl ⟨_, _, i, w, rfl, rfl, un_sqL hq, h1, k w H (Ext.refl p H) hp h2 fun q => nomatch q⟩
theorem ov_ixT {ds : List D} {i : Int} {j : Nat} {d : D} (e : i = (j : Int)) (h : ds[j]? = some d) : OV K p (rIx K) (.tup ds) (.int i) d false c := fun v u H Q dv du hp k => by
  cases dv with
  | tup hq r =>
    cases du
    obtain ⟨w, h1, h2⟩ := dvs_atI r e h
    exact .inr (.inl ⟨_, _, i, w, rfl, rfl, un_sqT hq, h1, k w H (Ext.refl p H) hp h2 fun q => nomatch q⟩)
theorem ov_ixS {s : Str} {i : Int} {j : Nat} {ch : Nat} (hz : s.length ≤ sizeLine) (e : i = (j : Int)) (h : s.cps.toList[j]? = some ch) : OV K p (rIx K) (.str s) (.int i) (.str ⟨#[ch]⟩) true c := fun v u H Q dv du hp k => by
  cases dv
  cases du
  exact .inr (.inr ⟨s, i, ch, rfl, rfl, hz, (by rw [e]; exact atI_nat h), k _ H (Ext.refl p H) hp (.str _) fun _ => New.sc (by intro a h; cases h)⟩)

/-! ### calls of built-ins -/
def CV (K : PySem.W.Frag) (p : HD) (r : List V → Hp → VK → Prop) (xs : List D) (z : D) (nw : Bool) (c : PC) : Prop :=
  ∀ (vs : List V) (H : Hp) (Q : VK), DVs K p H vs xs → PoolAt K p H c → (∀ w H', Ext p H H' → PoolAt K p H' c → DV K p H' w z → (nw = true → New K p H H' c w z) → Q w H') → r vs H Q
theorem re_callB {id : String} {x : Str} {ps : Pos} {r : List V → Hp → VK → Prop} {ds : List D} (hc : CallR X (.builtin id) r) (hm : X.mg x = none) (hv : bootBuiltins x = some (.builtin id)) (ha : RA X W p ρ c (e :: es) (.val ds c1)) (hr : CV X.K p r ds d nw c1)
    (hg : Gl X x := by rfl) (hn : x ≠ "__name__" := by decide) (hdb : (x == ("__debug__" : Str)) = false := by decide)
    (he : starEach (e :: es) X.env = (false, eval e X.env) :: starEach es X.env := by rfl) (hpl : (backTo pos (starEach es X.env)).any (·.1) = false := by rfl) : RE X W p ρ c (.Call (.Name x ps) (e :: es) [] pos) (.val d nw c1) :=
  pe_imp (pe_callB hc hg hm hv ha hn hdb he hpl) fun σ H Q ⟨s, k⟩ => ⟨s, fun vs H1 e1 p1 dvs => hr vs H1 Q dvs p1 fun w H2 e2 p2 dw hn => k w H2 (e1.trans e2) p2 dw fun q => (hn q).back e1⟩
theorem re_callT {T : String} {x : Str} {ps : Pos} {r : List V → Hp → VK → Prop} {ds : List D} (hc : CallR X (.type T) r) (hm : X.mg x = none) (hv : bootBuiltins x = some (.type T)) (ha : RA X W p ρ c (e :: es) (.val ds c1)) (hr : CV X.K p r ds d nw c1)
    (hg : Gl X x := by rfl) (hn : x ≠ "__name__" := by decide) (hdb : (x == ("__debug__" : Str)) = false := by decide)
    (he : starEach (e :: es) X.env = (false, eval e X.env) :: starEach es X.env := by rfl) (hpl : (backTo pos (starEach es X.env)).any (·.1) = false := by rfl) : RE X W p ρ c (.Call (.Name x ps) (e :: es) [] pos) (.val d nw c1) :=
  pe_imp (pe_callTy hc hg hm hv ha hn hdb he hpl) fun σ H Q ⟨s, k⟩ => ⟨s, fun vs H1 e1 p1 dvs => hr vs H1 Q dvs p1 fun w H2 e2 p2 dw hn => k w H2 (e1.trans e2) p2 dw fun q => (hn q).back e1⟩
theorem cv_lenS {s : Str} (hz : s.length ≤ sizeLine) : CV K p (fun xs H Q => ∃ z, xs = [.str z] ∧ z.length ≤ sizeLine ∧ Q (.int z.length) H) [.str s] (.int s.length) true c := fun vs H Q dvs hp k => by
  cases dvs with
  | cons h r =>
    cases r
    cases h
    exact ⟨s, rfl, hz, k _ H (Ext.refl p H) hp (.int _) fun _ => New.sc (by intro a h; cases h)⟩
theorem cv_int {i : Int} : CV K p (fun xs H Q => (∃ i, xs = [.int i] ∧ Q (.int i) H) ∨ ∃ k, xs = [.bl k] ∧ Q (.int (if k then 1 else 0)) H) [.int i] (.int i) true c := fun vs H Q dvs hp k => by
  cases dvs with
  | cons h r =>
    cases r
    cases h
    exact .inl ⟨i, rfl, k _ H (Ext.refl p H) hp (.int _) fun _ => New.sc (by intro a h; cases h)⟩
end
end LA

namespace LA
open PySem PySem.Spec PyProof.Rows L2
/-! ### what a def promises -/
abbrev FSpec := List D → PC → EO → Prop
def FO (K : PySem.W.Frag) (p : HD) (H : Hp) (Q : VK) (E : XK) : EO → Prop
  | .val d nw c' => ∀ v H', Ext p H H' → PoolAt K p H' c' → DV K p H' v d → (nw = true → New K p H H' c' v d) → Q v H'
  | .ex C fs c' => ∀ (dx : Addr) (fv : List (Str × V)) (H' : Hp), Ext p H H' → PoolAt K p H' c' → hide p H' dx = some (.xd fv) → DVf K p H' fv fs → E (.ref C) (some dx) H'
def spF (K : PySem.W.Frag) (R : FSpec) : Sp := fun vs H Q E => ∃ (p : HD) (c : PC) (ds : List D) (o : EO), DVs K p H vs ds ∧ PoolAt K p H c ∧ R ds c o ∧ FO K p H Q E o
def startR (N : List Str) (ds : List D) : Rho := ds.map some ++ List.replicate (N.length - ds.length) none
theorem sr_start {K : PySem.W.Frag} {p : HD} {H : Hp} {c : PC} {N : List Str} {vs : List V} {ds : List D} (h : DVs K p H vs ds) (q : PoolAt K p H c) : SR K p H (L2.start N vs) (startR N ds) c := by
  have hl := h.length
  refine ⟨?_, fun i d e => ?_, q⟩
  · unfold L2.start startR
    rw [List.length_append, List.length_append, List.length_map, List.length_map, List.length_replicate, List.length_replicate, hl]
  · unfold startR at e
    by_cases hi : i < ds.length
    · rw [List.getElem?_append_left (by rw [List.length_map]; exact hi), List.getElem?_map] at e
      cases g : ds[i]? with
      | none =>
        rw [g] at e
        cases e
      | some x =>
        rw [g] at e
        have e' : x = d := Option.some.inj (Option.some.inj e)
        subst e'
        obtain ⟨v, h1, h2⟩ := h.get g
        refine ⟨v, ?_, h2⟩
        unfold L2.start
        rw [List.getElem?_append_left (by rw [List.length_map, hl]; exact hi), List.getElem?_map, h1]
        rfl
    · rw [List.getElem?_append_right (by rw [List.length_map]; omega), List.getElem?_replicate] at e
      split at e <;> cases e
section
variable {X : Cx} {W : WX} {p : HD} {ρ ρ1 : Rho} {c c1 c2 c3 : PC} {e a b : Expr} {es : List Expr} {pos : Pos} {d d1 d2 : D} {n1 n2 nw : Bool} {o : EO} {so : SO} {st : Stmt} {rest : List Stmt}
variable {CX : CXT} {k : Nat} {f : Addr} {fd : FuncData} {ps : List Str} {R : FSpec} {x : Str} {xp : Pos} {ds : List D}
/-- a def that raises nothing is called -/
theorem re_call (G : FnOk X.prog X.w X.K X.mg X.base CX0 k f fd ps (spF X.K R)) (hr : Room k X.A) (hm : X.mg x = some (.ref f)) (hk : PySem.W.keepIn X.K (.ref f) = true) (hb : Binds X.K fd ps []) (ha : RA X W p ρ c (e :: es) (.val ds c1)) (ho : R ds c1 (.val d nw c2))
    (hg : Gl X x := by rfl) (hdb : (x == ("__debug__" : Str)) = false := by decide) (he : starEach (e :: es) X.env = (false, eval e X.env) :: starEach es X.env := by rfl) (hpl : (backTo pos (starEach es X.env)).any (·.1) = false := by rfl) :
    RE X W p ρ c (.Call (.Name x xp) (e :: es) [] pos) (.val d nw c2) :=
  pe_imp (pe_call G hr hg hm hk hb .nil pass0 ha hdb he hpl) fun σ H Q ⟨s, kk⟩ => ⟨s, fun vs H1 e1 p1 dvs => by
    show spF X.K R (vs ++ []) H1 Q E0
    rw [List.append_nil]
    exact ⟨p, c1, ds, .val d nw c2, dvs, p1, ho, fun v H2 e2 p2 dv hn => kk v H2 (e1.trans e2) p2 dv fun q => (hn q).back e1⟩⟩
theorem fo_at {K : PySem.W.Frag} {σ : L2.St} {H H1 : Hp} {Q : VK} (h : tE K W p ρ c o σ H Q) (e1 : Ext p H H1) : FO K p H1 Q (WE W σ) o := by
  cases o with
  | val d nw c' => exact fun v H2 e2 p2 dv hn => h.2 v H2 (e1.trans e2) p2 dv fun q => (hn q).back e1
  | ex C fs c' => exact fun dx fv H2 e2 p2 hx hf => h.2 dx fv σ H2 (e1.trans e2) (h.1.mono (e1.trans e2) p2) hx hf
theorem tE_sr {K : PySem.W.Frag} {σ : L2.St} {H : Hp} {Q : VK} (h : tE K W p ρ c o σ H Q) : SR K p H σ ρ c := by
  cases o <;> exact h.1
/-- a def that may raise is called -/
theorem re_callX (tk : Takes X W) (G : FnOk X.prog X.w X.K X.mg X.base (L2.CX X.prog X.w) k f fd ps (spF X.K R)) (hr : Room k X.A) (hm : X.mg x = some (.ref f)) (hk : PySem.W.keepIn X.K (.ref f) = true) (hb : Binds X.K fd ps []) (ha : RA X W p ρ c (e :: es) (.val ds c1)) (ho : R ds c1 o)
    (hg : Gl X x := by rfl) (hdb : (x == ("__debug__" : Str)) = false := by decide) (he : starEach (e :: es) X.env = (false, eval e X.env) :: starEach es X.env := by rfl) (hpl : (backTo pos (starEach es X.env)).any (·.1) = false := by rfl) :
    RE X W p ρ c (.Call (.Name x xp) (e :: es) [] pos) o :=
  pe_imp (pe_callS G hr hg hm hk hb (fun σ => passAt tk σ) ha hdb he hpl) fun σ H Q h => ⟨tE_sr h, fun vs H1 e1 p1 dvs => ⟨p, c1, ds, o, dvs, p1, ho, fo_at h e1⟩⟩
/-! with keywords -/
def tCallKS (n m : Nat) (sp : Sp) (gV : List V → List V → List V) (E : L2.St → XK) (t tk : TA) : TE := fun σ H Q => t σ H fun vs H1 => tk σ H1 fun zs H2 => vs.length = n ∧ zs.length = m ∧ sp (gV vs zs) H2 Q (E σ)
theorem run_fnKS {n : Nat} {ks : List Str} {g : List Value → List Value → List Value} {gV : List V → List V → List V} {sp : Sp} {E : L2.St → XK} {pins : List (Addr × Obj)} {σ : L2.St} {H : Hp} {s : Shared} {Q : VK} {us ws : List Value} {vs zs : List V}
    (F : FnOk X.prog X.w X.K X.mg X.base CX k f fd ps sp) (hr : Room k X.A) (hb : KBn X.K fd ps n ks g gV) (hx : PassesAt CX X σ (E σ))
    (I : Inv X pins σ H s) (r : Vals vs us) (rz : Vals zs ws) (l1 : vs.length = n) (l2 : zs.length = ks.length) (h : sp (gV vs zs) H Q (E σ)) : wpAny (model X.prog X.w) X.A (call (.ref f) us (ks.zip ws)) (EP X pins σ Q) X.xe s := by
  have r2 := hb.rel r rz
  refine wpAny_call (codeAny_mono (F.run X.A X.stack s H ⟨us, ks.zip ws⟩ (g us ws) (gV vs zs) Q (E σ) hr I.env0 (hb.to s us ws I.kIn (r.length.symm.trans l1) (rz.length.symm.trans l2)) r2 h) fun r s' hq => ?_)
  cases r with
  | error e => exact hx pins H s e s' I hq
  | ok fl =>
    cases fl with
    | ret u => exact I.after hq
    | next => exact False.elim hq
    | brk => exact False.elim hq
    | cont => exact False.elim hq
theorem pe_callKS {n : Nat} {ks : List Str} {g : List Value → List Value → List Value} {gV : List V → List V → List V} {sp : Sp} {E : L2.St → XK} {kws : List Keyword} {t tk : TA} (F : FnOk X.prog X.w X.K X.mg X.base CX k f fd ps sp) (hr : Room k X.A) (hg : Gl X x) (hm : X.mg x = some (.ref f)) (hk : PySem.W.keepIn X.K (.ref f) = true) (hb : KBn X.K fd ps n ks g gV) (hx : ∀ σ, PassesAt CX X σ (E σ))
    (ha : PA X (e :: es) t) (hkw : PK X kws tk) (hall : (backToKw pos (keywordEach kws X.env)).all (·.1.isSome) = true := by rfl) (hks : (backToKw pos (keywordEach kws X.env)).filterMap (·.1) = ks := by rfl)
    (hdb : (x == ("__debug__" : Str)) = false := by decide) (he : starEach (e :: es) X.env = (false, eval e X.env) :: starEach es X.env := by rfl)
    (hpl : ((backTo pos (starEach (e :: es) X.env)).any (·.1) || (backToKw pos (keywordEach kws X.env)).any (·.1.isNone)) = false := by rfl) :
    PE X (.Call (.Name x xp) (e :: es) kws pos) (tCallKS n ks.length sp gV E t tk) := by
  refine ⟨fun pins s σ H Q I h => ?_⟩
  refine wpAny_Call_Name_kw (ld_glob I hg hm ?_ hdb)
  refine PySem.W.callWith_KW (h₀ := X.base) I.ok.mod.kin hk hall (thn (ha.run pos pins s σ H _ I h) fun us s1 ⟨vs, H1, I1, r, q⟩ => ?_) hpl he
  refine thn (hkw.run pos pins s1 σ H1 _ I1 q) fun ws s2 ⟨zs, H2, I2, rz, l1, l2, q2⟩ => ⟨I2.kIn, ?_⟩
  rw [hks]
  exact run_fnKS F hr hb (hx σ) I2 r rz l1 l2 q2
theorem pe_callKS0 {ks : List Str} {g : List Value → List Value → List Value} {gV : List V → List V → List V} {sp : Sp} {E : L2.St → XK} {kws : List Keyword} {tk : TA} (F : FnOk X.prog X.w X.K X.mg X.base CX k f fd ps sp) (hr : Room k X.A) (hg : Gl X x) (hm : X.mg x = some (.ref f)) (hk : PySem.W.keepIn X.K (.ref f) = true) (hb : KBn X.K fd ps 0 ks g gV) (hx : ∀ σ, PassesAt CX X σ (E σ))
    (hkw : PK X kws tk) (hall : (backToKw pos (keywordEach kws X.env)).all (·.1.isSome) = true := by rfl) (hks : (backToKw pos (keywordEach kws X.env)).filterMap (·.1) = ks := by rfl)
    (hdb : (x == ("__debug__" : Str)) = false := by decide)
    (hpl : ((backTo pos (starEach [] X.env)).any (·.1) || (backToKw pos (keywordEach kws X.env)).any (·.1.isNone)) = false := by rfl) :
    PE X (.Call (.Name x xp) [] kws pos) (tCallKS 0 ks.length sp gV E tNil tk) := by
  refine ⟨fun pins s σ H Q I h => ?_⟩
  refine wpAny_Call_Name_kw (ld_glob I hg hm ?_ hdb)
  have h : tk σ H fun zs H2 => ([] : List V).length = 0 ∧ zs.length = ks.length ∧ sp (gV [] zs) H2 Q (E σ) := h
  refine PySem.W.callWith_KW0 (h₀ := X.base) I.ok.mod.kin hk hall (thn (hkw.run pos pins s σ H _ I h) fun ws s2 ⟨zs, H2, I2, rz, l1, l2, q2⟩ => ⟨I2.kIn, ?_⟩) hpl
  rw [hks]
  exact run_fnKS F hr hb (hx σ) I2 .nil rz l1 l2 q2
abbrev RK (X : Cx) (W : WX) (p : HD) (ρ : Rho) (c : PC) (ks : List Keyword) (o : AO) : Prop := PK X ks (tA X.K W p ρ c o)
theorem pk_imp {ks : List Keyword} {t t' : TA} (h : PK X ks t) (w : ∀ σ H Q, t' σ H Q → t σ H Q) : PK X ks t' := ⟨fun ps pins s σ H Q I q => h.run ps pins s σ H Q I (w σ H Q q)⟩
theorem rk_nil : RK X W p ρ c [] (.val [] c) := pk_imp pk_nil fun σ H Q ⟨s, k⟩ => k [] H (Ext.refl p H) s.pl .nil
theorem rk_cons {nm : Option Str} {kpos : Pos} {kws : List Keyword} {ds : List D} (ha : RE X W p ρ c e (.val d nw c1)) (hr : RK X W p ρ c1 kws (.val ds c2)) : RK X W p ρ c (⟨nm, e, kpos⟩ :: kws) (.val (d :: ds) c2) :=
  pk_imp (pk_cons ha hr) fun σ H Q ⟨s, k⟩ => ⟨s, fun v H1 e1 p1 dv _ => ⟨s.mono e1 p1, fun vs H2 e2 p2 dvs => k (v :: vs) H2 (e1.trans e2) p2 (.cons (dv.mono e2) dvs)⟩⟩
/-- f(a, .., k = v, ..): one positional value, one keyword, two parameters in that order -/
theorem re_callX1K {n : Nat} {ks : List Str} {g : List Value → List Value → List Value} {gV : List V → List V → List V} {kws : List Keyword} {es' : List D} (tk : Takes X W) (G : FnOk X.prog X.w X.K X.mg X.base (L2.CX X.prog X.w) k f fd ps (spF X.K R)) (hr : Room k X.A) (hm : X.mg x = some (.ref f)) (hk : PySem.W.keepIn X.K (.ref f) = true)
    (hb : KBn X.K fd ps n ks g gV) (ha : RA X W p ρ c (e :: es) (.val ds c1)) (hkw : RK X W p ρ c1 kws (.val es' c2)) (hn1 : ds.length = n) (hn2 : es'.length = ks.length) {gD : List D} (hg' : ∀ {H : Hp} {vs zs : List V}, DVs X.K p H vs ds → DVs X.K p H zs es' → DVs X.K p H (gV vs zs) gD) (ho : R gD c2 o)
    (hg : Gl X x := by rfl) (hall : (backToKw pos (keywordEach kws X.env)).all (·.1.isSome) = true := by rfl) (hks : (backToKw pos (keywordEach kws X.env)).filterMap (·.1) = ks := by rfl)
    (hdb : (x == ("__debug__" : Str)) = false := by decide) (he : starEach (e :: es) X.env = (false, eval e X.env) :: starEach es X.env := by rfl)
    (hpl : ((backTo pos (starEach (e :: es) X.env)).any (·.1) || (backToKw pos (keywordEach kws X.env)).any (·.1.isNone)) = false := by rfl) :
    RE X W p ρ c (.Call (.Name x xp) (e :: es) kws pos) o :=
  pe_imp (pe_callKS G hr hg hm hk hb (fun σ => passAt tk σ) ha hkw hall hks hdb he hpl) fun σ H Q h => ⟨tE_sr h, fun vs H1 e1 p1 dvs => ⟨(tE_sr h).mono e1 p1, fun zs H2 e2 p2 dzs =>
    ⟨by rw [dvs.length]; exact hn1, by rw [dzs.length]; exact hn2, p, c2, gD, o, hg' (dvs.mono e2) dzs, p2, ho, fo_at h (e1.trans e2)⟩⟩⟩
theorem re_callX0K {ks : List Str} {g : List Value → List Value → List Value} {gV : List V → List V → List V} {kws : List Keyword} {es' : List D} (tk : Takes X W) (G : FnOk X.prog X.w X.K X.mg X.base (L2.CX X.prog X.w) k f fd ps (spF X.K R)) (hr : Room k X.A) (hm : X.mg x = some (.ref f)) (hk : PySem.W.keepIn X.K (.ref f) = true)
    (hb : KBn X.K fd ps 0 ks g gV) (hkw : RK X W p ρ c kws (.val es' c2)) (hn2 : es'.length = ks.length) {gD : List D} (hg' : ∀ {H : Hp} {zs : List V}, DVs X.K p H zs es' → DVs X.K p H (gV [] zs) gD) (ho : R gD c2 o)
    (hg : Gl X x := by rfl) (hall : (backToKw pos (keywordEach kws X.env)).all (·.1.isSome) = true := by rfl) (hks : (backToKw pos (keywordEach kws X.env)).filterMap (·.1) = ks := by rfl)
    (hdb : (x == ("__debug__" : Str)) = false := by decide)
    (hpl : ((backTo pos (starEach [] X.env)).any (·.1) || (backToKw pos (keywordEach kws X.env)).any (·.1.isNone)) = false := by rfl) :
    RE X W p ρ c (.Call (.Name x xp) [] kws pos) o :=
  pe_imp (pe_callKS0 G hr hg hm hk hb (fun σ => passAt tk σ) hkw hall hks hdb hpl) fun σ H Q h => ⟨tE_sr h, fun zs H2 e2 p2 dzs =>
    ⟨rfl, by rw [dzs.length]; exact hn2, p, c2, gD, o, hg' dzs, p2, ho, fo_at h e2⟩⟩

/-! ### statements -/
theorem rs_ret (h : RE X W p ρ c e (.val d nw c1)) : RS X W p ρ c (.Return (some e) pos) (.rt d nw c1) := ps_imp (ps_ret h) fun D σ H ⟨s, k⟩ => ⟨s, fun v H1 e1 p1 dv hn => k v H1 e1 p1 dv hn⟩
theorem tS_ex {K : PySem.W.Frag} {C : Addr} {fs : List (Str × D)} {De : Ends} {σ : L2.St} {H : Hp} (h : tSt K W p ρ c (.ex C fs c1) De σ H) (Q : VK) : tE K W p ρ c (.ex C fs c1) σ H Q := ⟨h.1, fun dx fv σ' H1 e1 s1 hx hf => h.2 ρ dx fv σ' H1 e1 s1 rfl hx hf⟩
theorem rs_retX {C : Addr} {fs : List (Str × D)} (h : RE X W p ρ c e (.ex C fs c1)) : RS X W p ρ c (.Return (some e) pos) (.ex C fs c1) := ps_imp (ps_ret h) fun D σ H q => tS_ex q _
theorem rs_exprX {C : Addr} {fs : List (Str × D)} (h : RE X W p ρ c e (.ex C fs c1)) (hs : swapsWith e none pos.line X.env = pure false := by rfl) : RS X W p ρ c (.Expr e pos) (.ex C fs c1) := ps_imp (ps_expr h hs) fun D σ H q => tS_ex q _
theorem rs_expr (h : RE X W p ρ c e (.val d nw c1)) (hs : swapsWith e none pos.line X.env = pure false := by rfl) : RS X W p ρ c (.Expr e pos) (.nx ρ c1) := ps_imp (ps_expr h hs) fun D σ H ⟨s, k⟩ => ⟨s, fun v H1 e1 p1 dv hn => k σ H1 e1 (s.mono e1 p1)⟩
theorem rs_set (i : Nat) {x : Str} {pos' : Pos} (hN : X.N.Nodup) (h : RE X W p ρ c e (.val d nw c1)) (hi : X.N[i]? = some x := by rfl) (hx : Loc X.env.scope x := by first | exact Or.inl rfl | exact Or.inr rfl) (hs : swapsWith e (some (.Name x pos')) pos.line X.env = pure false := by rfl)
    (hf : X.fn x = true ∨ X.env.scope.names.lookup x = some .local := by first | exact .inl rfl | exact .inr rfl) : RS X W p ρ c (.Assign [.Name x pos'] e pos) (.nx (ρ.set i (some d)) c1) :=
  ps_imp (ps_set hN hi hx h hs hf) fun De σ H ⟨s, k⟩ => ⟨s, fun v H1 e1 p1 dv hn => k _ H1 e1 ((s.mono e1 p1).set i dv)⟩
theorem rss_nil : RSs X W p ρ c [] (.nx ρ c) := pss_imp pss_nil fun De σ H ⟨s, k⟩ => k σ H (Ext.refl p H) s
theorem rss_cons (h1 : RS X W p ρ c st (.nx ρ1 c1)) (h2 : RSs X W p ρ1 c1 rest so) (hl : ρ1.length = ρ.length := by rfl) : RSs X W p ρ c (st :: rest) so := by
  refine pss_imp (pss_cons h1 h2) fun De σ H h => ?_
  cases so with
  | nx ρ' c' => exact ⟨h.1, fun σ1 H1 e1 s1 => ⟨s1, fun σ2 H2 e2 s2 => h.2 σ2 H2 (e1.trans e2) s2⟩⟩
  | rt d nw c' => exact ⟨h.1, fun σ1 H1 e1 s1 => ⟨s1, fun v H2 e2 p2 dv hn => h.2 v H2 (e1.trans e2) p2 dv fun q => (hn q).back e1⟩⟩
  | ex C fs c' => exact ⟨h.1, fun σ1 H1 e1 s1 => ⟨s1, fun ρ' dx fv σ2 H2 e2 s2 hl' hx hf => h.2 ρ' dx fv σ2 H2 (e1.trans e2) s2 (hl'.trans hl) hx hf⟩⟩
theorem rss_ret (h1 : RS X W p ρ c st (.rt d nw c1)) : RSs X W p ρ c (st :: rest) (.rt d nw c1) := pss_imp (pss_cons h1 pss_never) fun De σ H h => h
theorem rss_ex {C : Addr} {fs : List (Str × D)} (h1 : RS X W p ρ c st (.ex C fs c1)) : RSs X W p ρ c (st :: rest) (.ex C fs c1) := pss_imp (pss_cons h1 pss_never) fun De σ H h => h
theorem st_at {K : PySem.W.Frag} {De : Ends} {σ : L2.St} {H H1 : Hp} (h : tSt K W p ρ c so De σ H) (e1 : Ext p H H1) (p1 : PoolAt K p H1 c1) : tSt K W p ρ c1 so De σ H1 := by
  cases so with
  | nx ρ' c' => exact ⟨h.1.mono e1 p1, fun σ2 H2 e2 s2 => h.2 σ2 H2 (e1.trans e2) s2⟩
  | rt d nw c' => exact ⟨h.1.mono e1 p1, fun v H2 e2 p2 dv hn => h.2 v H2 (e1.trans e2) p2 dv fun q => (hn q).back e1⟩
  | ex C fs c' => exact ⟨h.1.mono e1 p1, fun ρ' dx fv σ2 H2 e2 s2 hl hx hf => h.2 ρ' dx fv σ2 H2 (e1.trans e2) s2 hl hx hf⟩
theorem st_sr {K : PySem.W.Frag} {De : Ends} {σ : L2.St} {H : Hp} (h : tSt K W p ρ c so De σ H) : SR K p H σ ρ c := by
  cases so <;> exact h.1
theorem rs_if {t : Expr} {A B : List Stmt} {kb : Bool} (ht : RT X W p ρ c t (.val kb c1)) (h1 : kb = true → RSs X W p ρ c1 A so) (h2 : kb = false → RSs X W p ρ c1 B so) : RS X W p ρ c (.If t A B pos) so := by
  cases kb with
  | true => exact ps_imp (ps_if ht (h1 rfl) pss_never) fun De σ H h => ⟨st_sr h, fun H1 e1 p1 => st_at h e1 p1⟩
  | false => exact ps_imp (ps_if ht pss_never (h2 rfl)) fun De σ H h => ⟨st_sr h, fun H1 e1 p1 => iteF (st_at h e1 p1)⟩
theorem rs_ifX {t : Expr} {A B : List Stmt} {C : Addr} {fs : List (Str × D)} (ht : RT X W p ρ c t (.ex C fs c1)) : RS X W p ρ c (.If t A B pos) (.ex C fs c1) :=
  ps_imp (ps_if ht pss_never pss_never) fun De σ H h => ⟨h.1, fun dx fv σ' H1 e1 s1 hx hf => h.2 ρ dx fv σ' H1 e1 s1 rfl hx hf⟩
end

/-! ### a def holds its promise -/
section
variable {P : Program} {w : World} {K : PySem.W.Frag} {mg : Str → Option Value} {base : Heap} {x qual : Str} {st : Stmt} {f : Addr} {fd : FuncData} {N ps : List Str} {k : Nat} {R : FSpec}
abbrev Wf : WX := fun _ _ _ _ => False
def BodyOk (X : Cx) (W : WX) (p : HD) (ρ : Rho) (c : PC) (body : List Stmt) : EO → Prop
  | .val d nw c' => RSs X W p ρ c body (.rt d nw c') ∨ (d = .non ∧ ∃ ρ', RSs X W p ρ c body (.nx ρ' c'))
  | .ex C fs c' => RSs X W p ρ c body (.ex C fs c')
theorem spF_len {vs : List V} {H : Hp} {Q : VK} {E : XK} (hl : ∀ ds c o, R ds c o → ds.length = ps.length) (h : spF K R vs H Q E) : vs.length = ps.length := by
  obtain ⟨p, c, ds, o, h1, _, h3, _⟩ := h
  rw [h1.length]
  exact hl _ _ _ h3
theorem fn_val (F : Fun K x qual st f fd) (S : FnScope N ps (defScope st)) (hl : ∀ ds c o, R ds c o → ds.length = ps.length) (hv : ∀ ds c o, R ds c o → ∃ d nw c', o = .val d nw c')
    (body : ∀ (cdv : Value) (A : Around) (outer : List Env) (s : Shared) (H : Hp) (E : XK), Room k (A.deeper (envOfC qual (defScope st) s.heap.objs.size f cdv)) → ∀ (p : HD) (ds : List D) (c : PC) (o : EO), R ds c o →
      BodyOk (cxOf CX0 P w K mg base N qual (defScope st) f cdv A outer s H E).nox Wf p (startR N ds) c (defBody st) o) : FnOk P w K mg base CX0 (k + 1) f fd ps (spF K R) := by
  refine F.ok S (fun vs H Q E h => spF_len hl h) (fun cdv A outer s H vs Q E hr h => ?_)
  obtain ⟨p, c, ds, o, h1, h2, h3, h4⟩ := h
  have b := body cdv A outer s H E hr p ds c o h3
  obtain ⟨d, nw, c', rfl⟩ := hv _ _ _ h3
  rcases b with b | ⟨rfl, ρ', b⟩
  · exact ⟨_, b, sr_start h1 h2, fun v H1 e1 p1 dv hn => h4 v H1 e1 p1 dv hn⟩
  · exact ⟨_, b, sr_start h1 h2, fun σ' H1 e1 s1 => h4 .non H1 e1 s1.pl .non fun _ => New.sc (by intro a q; cases q)⟩
theorem fn_exc (F : Fun K x qual st f fd) (S : FnScope N ps (defScope st)) (hl : ∀ ds c o, R ds c o → ds.length = ps.length)
    (body : ∀ (cdv : Value) (A : Around) (outer : List Env) (s : Shared) (H : Hp) (E : XK), Room k (A.deeper (envOfC qual (defScope st) s.heap.objs.size f cdv)) → ∀ (p : HD) (ds : List D) (c : PC) (o : EO), R ds c o →
      Takes (cxOf (L2.CX P w) P w K mg base N qual (defScope st) f cdv A outer s H E) (fun cls d _ H => E cls d H) →
      BodyOk (cxOf (L2.CX P w) P w K mg base N qual (defScope st) f cdv A outer s H E) (fun cls d _ H => E cls d H) p (startR N ds) c (defBody st) o) : FnOk P w K mg base (L2.CX P w) (k + 1) f fd ps (spF K R) := by
  refine F.okX S (fun vs H Q E h => spF_len hl h) (fun cdv A outer s H vs Q E hr h => ?_)
  obtain ⟨p, c, ds, o, h1, h2, h3, h4⟩ := h
  have b := body cdv A outer s H E hr p ds c o h3 (takes_of rfl rfl rfl rfl)
  cases o with
  | val d nw c' =>
    rcases b with b | ⟨rfl, ρ', b⟩
    · exact ⟨_, b, sr_start h1 h2, fun v H1 e1 p1 dv hn => h4 v H1 e1 p1 dv hn⟩
    · exact ⟨_, b, sr_start h1 h2, fun σ' H1 e1 s1 => h4 .non H1 e1 s1.pl .non fun _ => New.sc (by intro a q; cases q)⟩
  | ex C fs c' => exact ⟨_, b, sr_start h1 h2, fun ρ' dx fv σ' H1 e1 s1 _ hx hf => h4 dx fv H1 e1 s1.pl hx hf⟩
end
end LA

namespace LA
open PySem PySem.Spec PyProof.Rows L2
/-! ### what is walked -/
/-- pairs, each a new tuple -/
def Itp (n : Nat) (f g : Nat → V) : It :=
  ⟨fun i _ => i < n, fun i H v H' => ∃ T, v = .ref T ∧ H T = none ∧ H' = upd H T (.tup [f i, g i]), fun i _ => i = n⟩
theorem turn_pair {P : Program} {w : World} {K : PySem.W.Frag} {elts : List Expr} {kk : Nat} {tpos : Pos} {it : Addr} {fp wr : List Addr} {n : Nat} {f g : Nat → V} {P1 P2 : Nat → Value → Prop} {St : Nat → Heap → Prop}
    (G : ∀ A : Around, A.handled = none → GoesN P w A (.Tuple elts kk tpos) it fp wr n (fun i h₀ v h => ∃ T x y, v = .ref T ∧ h₀.objs.size ≤ T ∧ P1 i x ∧ P2 i y ∧ h.IsTuple T #[x, y]) St)
    (h1 : ∀ i x, i < n → P1 i x → RelV (f i) x) (h2 : ∀ i x, i < n → P2 i x → RelV (g i) x) (mem : it ∈ fp) (obj : ∀ i h, St i h → ∀ b ∈ fp, ∃ o, h.get? b = some o ∧ ∀ v, o.data ≠ .cell v)
    (hself : ∀ (A : Around) (i : Nat) (s : Shared) (Q : Value → Shared → Prop) (E : Value → Shared → Prop), St i s.heap → Q (.ref it) s → wpAny (model P w) A (pyIter (.ref it)) Q E s) :
    Turn P w K (.Tuple elts kk tpos) (Itp n f g) fp it St where
  mem := mem
  obj := obj
  keep := fun i h h' st k => (G { handled := none, frames := none, guards := none, depth := 0, units := 0 } rfl).frame i h h' st k
  item := by
    intro X hP hw hK hc i pins s σ H E I hf st hg
    subst hP hw hK
    have GA := G X.A (I.ok.hd hc)
    refine wpAny_mono (GA.goes i s (fun v s₂ => ∃ x H', Inv X pins σ H' s₂ ∧ RelV x v ∧ (Itp n f g).yld i H x H' ∧ St (i + 1) s₂.heap ∧ ∀ b ∈ fp, H' b = none) E hg st fun v h' tk hY st' hk _ => ?_) (fun r s1 ⟨v, e, q⟩ => ⟨v, e, q⟩) fun _ _ z => z
    obtain ⟨T, x, y, rfl, hT, p1, p2, ht⟩ := hY
    have new : ObjOk X.prog X.w (upd H T (.tup [f i, g i])) h' T (.tup [f i, g i]) := ⟨by show 2 ≤ sizeLine; decide, [x, y], .cons (h1 i x hg p1) (.cons (h2 i y hg p2) .nil), ht⟩
    have I1 : Inv X pins σ (upd H T (.tup [f i, g i])) { s with heap := h', toks := tk } := I.turnedNew (ch := wr) hk (fun b hb => hf b (GA.sub b hb)) hT new
    refine ⟨.ref T, _, I1, rfl, ⟨T, rfl, I.hok.fresh hT, rfl⟩, st', fun b hb => ?_⟩
    obtain ⟨o, e, _⟩ := obj i s.heap st b hb
    rw [upd_ne (Nat.ne_of_lt (Nat.lt_of_lt_of_le (Heap.lt_size e) hT))]
    exact (hf b hb).1
  done := by
    intro X hP hw hK hc i pins s σ H E I hf st hg
    subst hP hw hK
    have GA := G X.A (I.ok.hd hc)
    have e : i = n := hg
    subst e
    exact wpAny_mono (GA.stops s (fun s1 => Inv X pins σ H s1) E st fun h' tk hk _ => I.turnedL hk fun b hb => hf b (GA.sub b hb)) (fun r s1 q => q) fun _ _ z => z
  self := hself
/-- the i-th sign of a text, as a value -/
def sgn (z : Str) (i : Nat) : V := .str ⟨#[z.cps.toList.getD i 0]⟩
theorem sgn_of {z : Str} {i : Nat} {x : Value} (h : ∃ c u, z.cps[i]? = some c ∧ x = .str ⟨#[c]⟩ u) : RelV (sgn z i) x := by
  obtain ⟨c, u, h1, rfl⟩ := h
  have e : z.cps.toList.getD i 0 = c := by
    rw [List.getD_eq_getElem?_getD, Array.getElem?_toList, h1]
    rfl
  exact ⟨u, by rw [e]⟩
def iZipS (ta : TA) : TI := fun σ H R => ta σ H fun vs H1 => ∃ a b : Str, vs = [.str a, .str b] ∧ R (Itp (min a.cps.size b.cps.size) (sgn a) (sgn b)) H1
theorem pi_zipS {X : Cx} {e e2 : Expr} {ta : TA} {p pos tpos : Pos} {elts : List Expr} {kk : Nat} (hg : Gl X "zip") (hm : X.mg "zip" = none) (ha : PA X [e, e2] ta)
    (hs : starEach [e, e2] X.env = (false, eval e X.env) :: starEach [e2] X.env := by rfl) (hpl : (backTo pos (starEach [e2] X.env)).any (·.1) = false := by rfl) :
    PI X (.Tuple elts kk tpos) (.Call (.Name "zip" p) [e, e2] [] pos) (iZipS ta) := by
  refine ⟨fun pins s σ H R I h => ?_⟩
  refine Call_ (ld_blt I hg hm PyProof.Rows.boot_zip (PyProof.Rows.callWith_type1 (thn (ha.run pos pins s σ H _ I h) fun us s1 ⟨vs, H1, I1, r1, q1⟩ => ?_) hs hpl))
  obtain ⟨a, b, ex, q⟩ := q1
  subst ex
  cases r1 with
  | cons r rr =>
    cases rr with
    | cons r' rr =>
      cases rr
      obtain ⟨t, rfl⟩ := r
      obtain ⟨t', rfl⟩ := r'
      refine zip_begins2 (begins_text a t) (begins_text b t') trivial trivial fun h' hz hTI hTO o1 o2 hsz hk => wpAny_pyIter_zip hz ?_
      have I2 : Inv X pins σ H1 { s1 with heap := h' } := I1.kept (t' := s1.toks) hk
      have SZ := zip_sep2 (N := s1.heap.objs.size) (fp1 := []) (fp2 := []) (fun b hb => by cases hb) (fun b hb => by cases hb)
      refine ⟨s1.heap.objs.size + 4, _, _, _, H1, rfl, I2, turn_pair (fun A hA => GoesN.zip2 SZ (Draws.text (A := A.in1) hA _ a t) (Draws.text (A := A.in1) hA _ b t')) (fun i x _ hx => sgn_of hx) (fun i x _ hx => sgn_of hx) (List.mem_cons_self ..) (fun i h st c hc => ?_) (fun A i s Q E st h => wpAny_pyIter_zip st.1 h),
        ⟨hz, hTI, ⟨_, _, hTO⟩, ⟨_, o1, rfl, rfl⟩, ⟨_, o2, rfl, rfl⟩⟩, fun c hc => ?_, q⟩
      · obtain ⟨hz, hTI, ⟨x, y, hTO⟩, ⟨p1, e1, _, d1⟩, ⟨p2, e2, _, d2⟩⟩ := st
        have e' : c = s1.heap.objs.size + 4 ∨ c = s1.heap.objs.size + 2 ∨ c = s1.heap.objs.size + 3 ∨ c = s1.heap.objs.size ∨ c = s1.heap.objs.size + 1 := by simpa using hc
        rcases e' with q | q | q | q | q
        · rw [q]; exact ⟨_, hz, fun v q => nomatch q⟩
        · rw [q]; exact ⟨_, hTI, fun v q => nomatch q⟩
        · rw [q]; exact ⟨_, hTO, fun v q => nomatch q⟩
        · rw [q]; exact ⟨p1, e1, fun v q => by rw [d1] at q; cases q⟩
        · rw [q]; exact ⟨p2, e2, fun v q => by rw [d2] at q; cases q⟩
      · have e' : c = s1.heap.objs.size + 4 ∨ c = s1.heap.objs.size + 2 ∨ c = s1.heap.objs.size + 3 ∨ c = s1.heap.objs.size ∨ c = s1.heap.objs.size + 1 := by simpa using hc
        have hle : s1.heap.objs.size ≤ c := by
          rcases e' with z | z | z | z | z
          · rw [z]; exact Nat.le_add_right _ _
          · rw [z]; exact Nat.le_add_right _ _
          · rw [z]; exact Nat.le_add_right _ _
          · rw [z]; exact Nat.le_refl _
          · rw [z]; exact Nat.le_add_right _ _
        exact I1.fpOk hle (I1.hok.fresh hle)
end LA

namespace LA
open PySem PySem.Spec PyProof.Rows L2
/-- an iterator that yields the data xs, whatever else is made meanwhile -/
def Yields (K : PySem.W.Frag) (p : HD) (J : It) (xs : List D) (H0 : Hp) : Prop :=
  ∀ (q : HD) (c : PC) (H1 : Hp), q.m = p.m → Sub (hide p H0) (hide q H1) → PoolAt K q H1 c →
    J.stop xs.length H1 ∧ ∀ i d, xs[i]? = some d → J.go i H1 ∧ ∀ x H2, J.yld i H1 x H2 → Ext q H1 H2 ∧ PoolAt K q H2 c ∧ DV K q H2 x d
def tI (K : PySem.W.Frag) (W : WX) (p : HD) (ρ : Rho) (c : PC) (xs : List D) (c' : PC) : TI := fun σ H R => SR K p H σ ρ c ∧ ∀ J H', Ext p H H' → PoolAt K p H' c' → Yields K p J xs H' → R J H'
abbrev RI (X : Cx) (W : WX) (p : HD) (ρ : Rho) (c : PC) (tg it : Expr) (xs : List D) (c' : PC) : Prop := PI X tg it (tI X.K W p ρ c xs c')
theorem pi_imp {X : Cx} {tg e : Expr} {t t' : TI} (h : PI X tg e t) (w : ∀ σ H R, t' σ H R → t σ H R) : PI X tg e t' := ⟨fun pins s σ H Q I q => h.run pins s σ H Q I (w σ H Q q)⟩
section
variable {X : Cx} {W : WX} {p : HD} {ρ ρ1 : Rho} {c c1 c2 c3 : PC} {e e2 tg : Expr} {es : List Expr} {pos : Pos} {d d1 d2 : D} {n1 n2 nw : Bool} {K : PySem.W.Frag}
def chars (z : Str) : List D := z.cps.toList.map fun ch => D.str ⟨#[ch]⟩
theorem ri_str {z : Str} (h : RE X W p ρ c e (.val (.str z) nw c1)) : RI X W p ρ c tg e (chars z) c1 :=
  pi_imp (pi_str h) fun σ H R ⟨s, k⟩ => ⟨s, fun v H1 e1 p1 dv _ => by
    cases dv
    refine ⟨z, rfl, k _ H1 e1 p1 fun q c' H2 _ _ p2 => ⟨?_, fun i d hd => ⟨?_, fun x H3 y => ?_⟩⟩⟩
    · show z.cps.size ≤ (chars z).length
      unfold chars
      rw [List.length_map, Array.length_toList]
      exact Nat.le_refl _
    · have hl := (List.getElem?_eq_some_iff.mp hd).1
      unfold chars at hl
      rw [List.length_map, Array.length_toList] at hl
      exact hl
    · obtain ⟨rfl, ch, h1, rfl⟩ := y
      refine ⟨Ext.refl _ _, p2, ?_⟩
      unfold chars at hd
      rw [List.getElem?_map, Array.getElem?_toList, h1] at hd
      have e' := Option.some.inj hd
      rw [← e']
      exact .str _⟩
theorem ri_lst {g : G} {xs : List D} (h : RE X W p ρ c e (.val (.lst g xs) nw c1)) : RI X W p ρ c tg e xs c1 :=
  pi_imp (pi_list h) fun σ H R ⟨s, k⟩ => ⟨s, fun v H1 e1 p1 dv _ => by
    cases dv with
    | @lst a vs _ _ hb hq r =>
      refine ⟨a, rfl, ⟨vs, un_sqL hq⟩, k _ H1 e1 p1 fun q c' H2 qe qs p2 => ?_⟩
      have hq2 : SqL X.K H2 a vs := un_sqL (qs.sqL hq)
      refine ⟨⟨vs, hq2, Nat.le_of_eq r.length⟩, fun i d hd => ?_⟩
      obtain ⟨v, h1, h2⟩ := r.get hd
      refine ⟨⟨vs, v, hq2, h1⟩, fun x H3 y => ?_⟩
      obtain ⟨rfl, h3⟩ := y
      have e' : x = v := Option.some.inj ((h3 vs hq2).symm.trans h1)
      subst e'
      exact ⟨Ext.refl _ _, p2, h2.sub qs (fun i a z => by rw [qe]; exact z)⟩⟩
def intsD (n : Nat) : List D := (List.range n).map fun i => D.int ((i : Nat) : Int)
theorem ri_range {ps : Pos} {n : Int} (hm : X.mg "range" = none) (h : RE X W p ρ c e (.val (.int n) nw c1)) (h1 : -(2 ^ 62) ≤ n) (h2 : n < 2 ^ 62) (hg : Gl X "range" := by rfl) (hs : starEach [e] X.env = [(false, eval e X.env)] := by rfl) : RI X W p ρ c tg (.Call (.Name "range" ps) [e] [] pos) (intsD n.toNat) c1 :=
  pi_imp (pi_range1 hg hm (ra_cons (W := W) h (ra_nil (W := W)) (by rw [hs]; rfl)) hs) fun σ H R ⟨s, k⟩ => ⟨s, fun vs H1 e1 p1 dvs => by
    cases dvs with
    | cons hv hr =>
      cases hr
      cases hv
      refine ⟨n, rfl, h1, h2, k _ H1 e1 p1 fun q c' H2 qe qs p2 => ⟨?_, fun i d hd => ⟨?_, fun x H3 y => ?_⟩⟩⟩
      · show n.toNat ≤ (intsD n.toNat).length
        unfold intsD
        rw [List.length_map, List.length_range]
        exact Nat.le_refl _
      · have hl := (List.getElem?_eq_some_iff.mp hd).1
        unfold intsD at hl
        rw [List.length_map, List.length_range] at hl
        exact hl
      · obtain ⟨rfl, rfl⟩ := y
        refine ⟨Ext.refl _ _, p2, ?_⟩
        have hl := (List.getElem?_eq_some_iff.mp hd).1
        unfold intsD at hd hl
        rw [List.length_map, List.length_range] at hl
        rw [List.getElem?_map, List.getElem?_range hl] at hd
        have e' := Option.some.inj hd
        rw [← e', Int.zero_add]
        exact .int _⟩
/-- pairs of signs -/
def zips (a b : Str) : List D := (List.range (min a.cps.size b.cps.size)).map fun i => D.tup [.str ⟨#[a.cps.toList.getD i 0]⟩, .str ⟨#[b.cps.toList.getD i 0]⟩]
theorem ri_zipS {ps tpos : Pos} {elts : List Expr} {kk : Nat} {a b : Str} (hm : X.mg "zip" = none) (h : RA X W p ρ c [e, e2] (.val [.str a, .str b] c1)) (hg : Gl X "zip" := by rfl)
    (hs : starEach [e, e2] X.env = (false, eval e X.env) :: starEach [e2] X.env := by rfl) (hpl : (backTo pos (starEach [e2] X.env)).any (·.1) = false := by rfl) :
    RI X W p ρ c (.Tuple elts kk tpos) (.Call (.Name "zip" ps) [e, e2] [] pos) (zips a b) c1 :=
  pi_imp (pi_zipS hg hm h hs hpl) fun σ H R ⟨s, k⟩ => ⟨s, fun vs H1 e1 p1 dvs => by
    cases dvs with
    | cons hv hr =>
      cases hr with
      | cons hv2 hr =>
        cases hr
        cases hv
        cases hv2
        refine ⟨a, b, rfl, k _ H1 e1 p1 fun q c' H2 qe qs p2 => ⟨?_, fun i d hd => ⟨?_, fun x H3 y => ?_⟩⟩⟩
        · show (zips a b).length = min a.cps.size b.cps.size
          unfold zips
          rw [List.length_map, List.length_range]
        · have hl := (List.getElem?_eq_some_iff.mp hd).1
          unfold zips at hl
          rw [List.length_map, List.length_range] at hl
          exact hl
        · obtain ⟨T, rfl, hT, rfl⟩ := y
          have hl := (List.getElem?_eq_some_iff.mp hd).1
          unfold zips at hd hl
          rw [List.length_map, List.length_range] at hl
          rw [List.getElem?_map, List.getElem?_range hl] at hd
          have e' := Option.some.inj hd
          rw [← e']
          exact ⟨Ext.new hT, p2.upd hT, .tup (.inl (.inl (hide_upd p2 hT))) (.cons (.str _) (.cons (.str _) .nil))⟩⟩

/-! ### list comprehensions -/
theorem wipe_get {σ : L2.St} {i : Nat} : ∀ {vs : List Nat}, i ∈ vs → i < σ.length → (wipe σ vs)[i]? = some none
  | v :: vs, h, hl => by
    unfold wipe
    by_cases e : v = i
    · subst e
      rw [List.getElem?_set_self (by rw [wipe_length]; exact hl)]
    · rw [List.getElem?_set_ne e]
      exact wipe_get ((List.mem_cons.mp h).resolve_left fun z => e z.symm) hl
theorem wipe_ext {σ τ : L2.St} {vs : List Nat} (hl : σ.length = τ.length) (h : ∀ i, i ∉ vs → σ[i]? = τ[i]?) : wipe σ vs = wipe τ vs := by
  refine List.ext_getElem? fun i => ?_
  by_cases hi : i ∈ vs
  · by_cases hn : i < σ.length
    · rw [wipe_get hi hn, wipe_get hi (by rw [← hl]; exact hn)]
    · rw [List.getElem?_eq_none (by rw [wipe_length]; omega), List.getElem?_eq_none (by rw [wipe_length]; omega)]
  · rw [wipe_out hi, wipe_out hi, h i hi]
theorem wipe_wipe {σ : L2.St} {vs : List Nat} : wipe (wipe σ vs) vs = wipe σ vs := wipe_ext (wipe_length σ vs) fun i hi => wipe_out hi
theorem wipe_set {σ : L2.St} {vs : List Nat} {j : Nat} {x : Option V} (hj : j ∈ vs) : wipe (σ.set j x) vs = wipe σ vs := wipe_ext (List.length_set) fun i hi => List.getElem?_set_ne (fun z => hi (by rw [← z]; exact hj))
/-- the slots vs of the frame forgotten -/
def wipeR (ρ : Rho) : List Nat → Rho
  | [] => ρ
  | v :: vs => (wipeR ρ vs).set v none
theorem wipeR_len (ρ : Rho) : ∀ vs : List Nat, (wipeR ρ vs).length = ρ.length
  | [] => rfl
  | v :: vs => by unfold wipeR; rw [List.length_set, wipeR_len ρ vs]
theorem wipeR_some {ρ : Rho} {i : Nat} {d : D} : ∀ {vs : List Nat}, (wipeR ρ vs)[i]? = some (some d) → ρ[i]? = some (some d) ∧ i ∉ vs
  | [], h => ⟨h, by simp⟩
  | v :: vs, h => by
    unfold wipeR at h
    by_cases hi : v = i
    · subst hi
      rw [List.getElem?_set] at h
      split at h
      · split at h <;> cases h
      · exact absurd rfl ‹¬ _›
    · rw [List.getElem?_set_ne hi] at h
      obtain ⟨h1, h2⟩ := wipeR_some h
      exact ⟨h1, fun m => (List.mem_cons.mp m).elim (fun z => hi z.symm) h2⟩
theorem SR.wipe {H : Hp} {σ : L2.St} (s : SR K p H σ ρ c) (vs : List Nat) : SR K p H (L2.wipe σ vs) (wipeR ρ vs) c :=
  s.weak (by rw [wipe_length, wipeR_len]; exact s.len) (fun i d h => (wipeR_some h).1) fun i v d h1 h2 => by
    rw [wipe_out (wipeR_some h1).2]
    exact h2
/-- what a target does with a datum: the slots it sets -/
structure TgOk (K : PySem.W.Frag) (g : TG) (vs : List Nat) (d : D) (ρ ρ' : Rho) : Prop where
  run : ∀ (q : HD) (c : PC) (x : V) (σ : L2.St) (H : Hp) (Q : L2.St → Hp → Prop), DV K q H x d → SR K q H σ ρ c → PoolAt K q H c → (∀ σ2, SR K q H σ2 ρ' c → L2.wipe σ2 vs = L2.wipe σ vs → Q σ2 H) → g x σ H Q
theorem tg_name {j : Nat} {vs : List Nat} (hj : j ∈ vs) : TgOk K (gName j) vs d ρ (ρ.set j (some d)) := ⟨fun q c x σ H Q dv s hp k => k _ (s.set j dv) (wipe_set hj)⟩
theorem tg_two {i j : Nat} {vs : List Nat} (hi : i ∈ vs) (hj : j ∈ vs) : TgOk K (gTup K 2 (gCons (gName i) (gCons (gName j) gNil))) vs (.tup [d1, d2]) ρ ((ρ.set i (some d1)).set j (some d2)) :=
  ⟨fun q c x σ H Q dv s hp k => by
    cases dv with
    | tup hq r =>
      cases r with
      | cons h1 r =>
        cases r with
        | cons h2 r =>
          cases r
          exact ⟨_, _, rfl, un_sqT hq, rfl, _, _, rfl, _, _, rfl, rfl, k _ ((s.set i h1).set j h2) ((wipe_set hj).trans (wipe_set hi))⟩⟩
/-- what is collected over n turns -/
def coll (b : Nat → Bool) (y : Nat → D) : Nat → List D
  | 0 => []
  | n + 1 => coll b y n ++ if b n then [y n] else []
theorem coll_len (b : Nat → Bool) (y : Nat → D) : ∀ n, (coll b y n).length ≤ n
  | 0 => Nat.le_refl _
  | n + 1 => by
    have h := coll_len b y n
    show (coll b y n ++ if b n then [y n] else []).length ≤ n + 1
    rw [List.length_append]
    split
    · show _ + 1 ≤ _
      omega
    · show _ + 0 ≤ _
      omega
theorem ext_also {p : HD} {a : Addr} {H H' : Hp} (e : Ext p H H') : Ext (p.also a) H H' := e
/-- what the tests and the element of a list comprehension are read by -/
def ttU (K : PySem.W.Frag) (xs : List D) (b : Nat → Bool) (cs cm : Nat → PC) (ρt : Nat → Rho) : TT := fun σ H Q => ∃ (q : HD) (i : Nat) (d : D), xs[i]? = some d ∧ tT K Wf q (ρt i) (cs i) (.val (b i) (cm i)) σ H Q
def teU (K : PySem.W.Frag) (xs : List D) (b : Nat → Bool) (y : Nat → D) (cs cm : Nat → PC) (ρt : Nat → Rho) (nws : Nat → Bool) : TE := fun σ H Q => ∃ (q : HD) (i : Nat) (d : D), xs[i]? = some d ∧ b i = true ∧ tE K Wf q (ρt i) (cm i) (.val (y i) (nws i) (cs (i + 1))) σ H Q
theorem lc_read {xs : List D} {g : TG} {vs : List Nat} {b : Nat → Bool} {y : Nat → D} {cs cm : Nat → PC} {ρt : Nat → Rho} {nws : Nat → Bool}
    (htg : ∀ i d, xs[i]? = some d → TgOk K g vs d (wipeR ρ vs) (ρt i))
    (hno : ∀ i d, xs[i]? = some d → b i = false → cs (i + 1) = cm i) (hz : xs.length ≤ 100000) : ∀ σ H Q, tE K W p ρ c (.val (.lst ⟨false, true⟩ (coll b y xs.length)) true (cs xs.length)) σ H Q → tLc (tI K W p ρ c xs (cs 0)) g (ttU K xs b cs cm ρt) (teU K xs b y cs cm ρt nws) vs σ H Q := by
  refine fun σ H Q ⟨s, k⟩ => ⟨s, fun J H1 e1 p1 yl L nL => ?_⟩
  -- the invariant
  have yl' := yl (p.also L)
  have hsub : Sub (hide p H1) (hide (p.also L) H1) := also_sub nL
  have s1 : SR K p H1 σ ρ (cs 0) := s.mono e1 p1
  have s2 : SR K (p.also L) H1 σ ρ (cs 0) → True := fun _ => trivial
  refine ⟨fun i m H2 => m = xs.length - i ∧ i ≤ xs.length ∧ Ext p H1 H2 ∧ (∃ vs, H2 L = some (.lst vs) ∧ DVs K (p.also L) H2 vs (coll b y i)) ∧ PoolAt K (p.also L) H2 (cs i), ⟨xs.length, by simp, Nat.zero_le _, Ext.new nL, ⟨[], upd_same, .nil⟩, p1.also nL⟩, ?_⟩
  rintro i m H2 ⟨rfl, hi', e2, ⟨vs, hL, dvs⟩, pq⟩
  have p2 := pq.less
  have nLp : L ∉ p.m := fun z => p1.not nL (.inl z)
  obtain ⟨hstop, hgo⟩ := yl' (cs i) H2 rfl (fun b o y => (ext_also e2).hide b o (hsub b o y)) pq
  by_cases hlt : i < xs.length
  · have hd : xs[i]? = some xs[i] := List.getElem?_eq_getElem hlt
    obtain ⟨g1, g2⟩ := hgo i _ hd
    refine .inr ⟨g1, fun H' => ∃ vs, H' L = some (.lst vs) ∧ DVs K (p.also L) H' vs (coll b y (i + 1)) ∧ Ext p H1 H' ∧ PoolAt K (p.also L) H' (cs (i + 1)), fun H' ⟨vs', a1, a2, a3, a4⟩ => ⟨xs.length - (i + 1), by omega, rfl, hlt, a3, ⟨vs', a1, a2⟩, a4⟩, fun x H3 hy => ?_⟩
    obtain ⟨e3, p3, dx⟩ := g2 x H3 hy
    have sH : SR K (p.also L) H3 σ ρ (cs i) := ⟨s.len, fun j d hj => by
      obtain ⟨v, h1, h2⟩ := s1.at' j d hj
      exact ⟨v, h1, ((h2.also nL).mono (ext_also e2)).mono e3⟩, p3⟩
    refine (htg i _ hd).run (p.also L) (cs i) x _ H3 _ dx (sH.wipe _) p3 fun σ2 s2 hw => ⟨hw.trans wipe_wipe, p.also L, i, _, hd, s2, fun H4 e4 p4 => ?_⟩
    have hL4 : H4 L = some (.lst vs) := e4 L _ nLp (e3 L _ nLp hL)
    have e24 : Ext p H2 H4 := fun a o n h => e4 a o n (e3 a o n h)
    cases hb : b i with
    | false =>
      refine iteF ⟨vs, hL4, ?_, e2.trans e24, ?_⟩
      · show DVs K (p.also L) H4 vs (coll b y i ++ if b i then [y i] else [])
        rw [hb, if_neg Bool.false_ne_true, List.append_nil]
        exact dvs.mono (ext_also e24)
      · rw [hno i _ hd hb]
        exact p4
    | true =>
      refine iteT ⟨p.also L, i, _, hd, hb, s2.mono e4 p4, fun v H5 e5 p5 dv _ => ?_⟩
      have hL5 : H5 L = some (.lst vs) := e5 L _ nLp hL4
      have e25 : Ext p H2 H5 := fun a o n h => e5 a o n (e24 a o n h)
      have up : ∀ a o, a ≠ L → H5 a = some o → upd H5 L (.lst (vs ++ [v])) a = some o := fun a o n h => by
        rw [upd_ne n]
        exact h
      have sb : Sub (hide (p.also L) H5) (hide (p.also L) (upd H5 L (.lst (vs ++ [v])))) := fun a o h => by
        obtain ⟨h1, h2⟩ := hide_some h
        have hn : a ≠ L := fun z => h2 (.inr (by rw [z]; exact List.mem_cons_self))
        rw [hide_ne h2]
        exact up a o hn h1
      refine ⟨vs, hL5, ?_, vs ++ [v], upd_same, ?_, ?_, ?_⟩
      · have := coll_len b y i
        rw [dvs.length]
        exact sz_lt (by omega)
      · show DVs K (p.also L) _ (vs ++ [v]) (coll b y i ++ if b i then [y i] else [])
        rw [hb, if_pos rfl]
        exact DVs.app ((dvs.mono (ext_also e25)).sub sb fun _ _ z => z) (.cons (dv.sub sb fun _ _ z => z) .nil)
      · refine fun a o n h => ?_
        have hn : a ≠ L := ne_of_none h nL
        exact up a o hn (e25 a o n (e2 a o n h))
      · exact p5.other List.mem_cons_self nLp
  · have e : i = xs.length := by omega
    subst e
    have hh : hide p H2 L = some (.lst vs) := by
      rw [hide_ne (p1.not nL)]
      exact hL
    exact .inl ⟨hstop, k (.ref L) H2 (e1.trans e2) p2 (.lst ⟨(fun z => nomatch z), fun _ => hh⟩ (.inl (.inl hh)) (dvs.sub sub_also fun _ _ z => z)) fun _ => New.back e1 fun b z => by
      cases z
      exact ⟨⟨nL, nLp⟩, pq, fun g ds z => by
        cases z
        exact ⟨vs, hL, dvs⟩⟩⟩
theorem re_lc {elt iter : Expr} {ifs : List Expr} {scope : Scope} {own : List (Str × Nat)} {xs : List D} {g : TG} (b : Nat → Bool) (y : Nat → D) (cs cm : Nat → PC) (ρt : Nat → Rho) (nws : Nat → Bool) (hc : X.calm = true) (hN : X.N.Nodup) (hi : RI X W p ρ c tg iter xs (cs 0)) (ok : BlkOk X.N X.env.scope scope own)
    (hg : ∀ (s : Shared) (H : Hp) (C : Addr) (cl : List (Str × Addr)) (fp : List Addr), PG (X.blk s H scope (compEnvC scope cl C X.env) fp) tg g)
    (htg : ∀ i d, xs[i]? = some d → TgOk X.K g (own.map (·.2)) d (wipeR ρ (own.map (·.2))) (ρt i))
    (ht : ∀ i d, xs[i]? = some d → ∀ (q : HD) (s : Shared) (H : Hp) (C : Addr) (cl : List (Str × Addr)) (fp : List Addr), PTs (X.blk s H scope (compEnvC scope cl C X.env) fp) ifs (tT X.K Wf q (ρt i) (cs i) (.val (b i) (cm i))))
    (he : ∀ i d, xs[i]? = some d → b i = true → ∀ (q : HD) (s : Shared) (H : Hp) (C : Addr) (cl : List (Str × Addr)) (fp : List Addr), RE (X.blk s H scope (compEnvC scope cl C X.env) fp) Wf q (ρt i) (cm i) elt (.val (y i) (nws i) (cs (i + 1))))
    (hno : ∀ i d, xs[i]? = some d → b i = false → cs (i + 1) = cm i) (hz : xs.length ≤ 100000)
    (hs : ∀ x, foldedSetIterable iter X.env x = pure x := by intro _; rfl) : RE X W p ρ c (.ListComp elt [⟨tg, iter, ifs, 0⟩] scope pos) (.val (.lst ⟨false, true⟩ (coll b y xs.length)) true (cs xs.length)) :=
  pe_imp (pe_lc (tt := ttU X.K xs b cs cm ρt) (te := teU X.K xs b y cs cm ρt nws) hc hN hi ok hg (fun s H C cl fp => ⟨fun pins s' σ H' Q I ⟨q, i, d, hd, h⟩ => (ht i d hd q s H C cl fp).run pins s' σ H' Q I h⟩)
    (fun s H C cl fp => ⟨fun pins s' σ H' Q I ⟨q, i, d, hd, hb, h⟩ => (he i d hd hb q s H C cl fp).run pins s' σ H' Q I h⟩) hs) (lc_read htg hno hz)
/-- name = [..] -/
theorem rs_lc {elt iter : Expr} {ifs : List Expr} {scope : Scope} {own : List (Str × Nat)} {xs : List D} {g : TG} {yn : Str} {py spos : Pos} (j : Nat) (b : Nat → Bool) (y : Nat → D) (cs cm : Nat → PC) (ρt : Nat → Rho) (nws : Nat → Bool) (hc : X.calm = true) (hN : X.N.Nodup) (hi : RI X W p ρ c tg iter xs (cs 0)) (ok : BlkOk X.N X.env.scope scope own)
    (hg : ∀ (s : Shared) (H : Hp) (C : Addr) (cl : List (Str × Addr)) (fp : List Addr), PG (X.blk s H scope (compEnvC scope cl C X.env) fp) tg g)
    (htg : ∀ i d, xs[i]? = some d → TgOk X.K g (own.map (·.2)) d (wipeR ρ (own.map (·.2))) (ρt i))
    (ht : ∀ i d, xs[i]? = some d → ∀ (q : HD) (s : Shared) (H : Hp) (C : Addr) (cl : List (Str × Addr)) (fp : List Addr), PTs (X.blk s H scope (compEnvC scope cl C X.env) fp) ifs (tT X.K Wf q (ρt i) (cs i) (.val (b i) (cm i))))
    (he : ∀ i d, xs[i]? = some d → b i = true → ∀ (q : HD) (s : Shared) (H : Hp) (C : Addr) (cl : List (Str × Addr)) (fp : List Addr), RE (X.blk s H scope (compEnvC scope cl C X.env) fp) Wf q (ρt i) (cm i) elt (.val (y i) (nws i) (cs (i + 1))))
    (hno : ∀ i d, xs[i]? = some d → b i = false → cs (i + 1) = cm i) (hz : xs.length ≤ 100000) (hy : X.N[j]? = some yn := by rfl) (hyl : X.env.scope.names.lookup yn = some .local := by rfl) (hsw : swapsWith (.ListComp elt [⟨tg, iter, ifs, 0⟩] scope pos) (some (.Name yn py)) spos.line X.env = pure true := by exact sw_true rfl rfl rfl (by decide +kernel))
    (hs : ∀ x, foldedSetIterable iter X.env x = pure x := by intro _; rfl) : RS X W p ρ c (.Assign [.Name yn py] (.ListComp elt [⟨tg, iter, ifs, 0⟩] scope pos) spos) (.nx (ρ.set j (some (.lst ⟨false, true⟩ (coll b y xs.length)))) (cs xs.length)) :=
  ps_imp (ps_setLc (tt := ttU X.K xs b cs cm ρt) (te := teU X.K xs b y cs cm ρt nws) hc hN hy hyl hsw hi ok hg (fun s H C cl fp => ⟨fun pins s' σ H' Q I ⟨q, i, d, hd, h⟩ => (ht i d hd q s H C cl fp).run pins s' σ H' Q I h⟩)
    (fun s H C cl fp => ⟨fun pins s' σ H' Q I ⟨q, i, d, hd, hb, h⟩ => (he i d hd hb q s H C cl fp).run pins s' σ H' Q I h⟩) hs) fun De σ H h => lc_read htg hno hz σ H _ ⟨h.1, fun v H1 e1 p1 dv _ => h.2 _ H1 e1 ((h.1.mono e1 p1).set j dv)⟩
end
end LA

namespace LA
open PySem PySem.Spec PyProof.Rows L2
/-! ### data as the model's own data; repr -/
mutual
def toPy : D → PyData
  | .non => .none
  | .bl b => .bool b
  | .int i => .int i
  | .str s => .str s
  | .lst _ xs => .list (toPys xs)
  | .tup xs => .tuple (toPys xs)
  | .dct kvs => .dict (toPyk kvs)
  | .mut _ => .none
  | .ty _ => .none
  | .cls _ => .none
  | .exn _ _ _ => .none
  | .obj _ _ => .none
def toPys : List D → List PyData
  | [] => []
  | d :: r => toPy d :: toPys r
def toPyk : List (Key × D) → List (PyData × PyData)
  | [] => []
  | (k, d) :: r => ((match k with | .inl i => .int i | .inr x => .str x), toPy d) :: toPyk r
end
/-! no pool within, and every list, if big, behind the run's own objects -/
mutual
def okD (big : Bool) : D → Bool
  | .lst g xs => (g.s || !big) && okDs big xs
  | .tup xs => okDs big xs
  | .dct kvs => okDk big kvs
  | .mut _ => false
  | .ty _ => false
  | .cls _ => false
  | .exn _ _ _ => false
  | .obj _ _ => false
  | _ => true
def okDs (big : Bool) : List D → Bool
  | [] => true
  | d :: r => okD big d && okDs big r
def okDk (big : Bool) : List (Key × D) → Bool
  | [] => true
  | (_, d) :: r => okD big d && okDk big r
end
def NoSys (big : Bool) (as : List Addr) : Prop := big = true → sysModules ∉ as
theorem NoSys.app {big : Bool} {as bs : List Addr} (h1 : NoSys big as) (h2 : NoSys big bs) : NoSys big (as ++ bs) := fun b m => (List.mem_append.mp m).elim (h1 b) (h2 b)
section
variable {X : Cx} {pins : List (Addr × Obj)} {σ : L2.St} {H : Hp} {s : Shared} {p : HD}
theorem keys_read {P : Program} {w : World} {h : Heap} : ∀ {es : List DictEntry} {vs : List (Key × Value)}, Pairs (mixKind P w) es vs → ∀ {kvs : List (Key × V)} {ds : List (Key × D)} {K : PySem.W.Frag}, KV kvs vs → DVk K p H kvs ds → ReadsAll h (es.map (·.key)) ((toPyk ds).map (·.1)) [] ∧ Vals (kvs.map (·.2)) (es.map (·.val))
  | _, _, .nil, _, _, _, .nil, .nil => ⟨.nil, .nil⟩
  | e :: es, (k, u) :: vs, .cons h1 h2 h3, (k', v) :: kvs, _, _, .cons r t, .cons (d := d) hd hk => by
    obtain ⟨a1, a2⟩ := keys_read (h := h) h3 t hk
    obtain ⟨r1, r2⟩ := r
    have r1 : k' = k := r1
    have h2 : e.val = u := h2
    subst r1 h2
    refine ⟨?_, .cons r2 a2⟩
    have hkey : keyIs k' e.key = true := h1
    rcases keyIs_shape hkey with ⟨i, t, e1, e2⟩ | ⟨x, t, e1, e2⟩
    · subst e1
      show ReadsAll _ (e.key :: es.map (·.key)) (.int i :: (toPyk _).map (·.1)) ([] ++ [])
      rw [e2]
      exact .cons (.int i t) a1
    · subst e1
      show ReadsAll _ (e.key :: es.map (·.key)) (.str x :: (toPyk _).map (·.1)) ([] ++ [])
      rw [e2]
      exact .cons (.str x t) a1
mutual
theorem reads_of {big : Bool} (I : Inv X pins σ H s) : ∀ (d : D) (v : V) (u : Value), DV X.K p H v d → okD big d = true → RelV v u → ∃ as, Reads s.heap u (toPy d) as ∧ NoSys big as
  | .non, _, _, h, _, r => by
    cases h
    cases r
    exact ⟨[], by unfold toPy; exact .none, fun _ m => nomatch m⟩
  | .bl b, _, _, h, _, r => by
    cases h
    cases r
    exact ⟨[], by unfold toPy; exact .bool b, fun _ m => nomatch m⟩
  | .int i, _, _, h, _, r => by
    cases h
    obtain ⟨t, rfl⟩ := r
    exact ⟨[], by unfold toPy; exact .int i t, fun _ m => nomatch m⟩
  | .str x, _, _, h, _, r => by
    cases h
    obtain ⟨t, rfl⟩ := r
    exact ⟨[], by unfold toPy; exact .str x t, fun _ m => nomatch m⟩
  | .lst g ds, _, _, .lst (a := a) hb hq ha, o, r => by
    obtain rfl := (show _ = Value.ref a from r)
    unfold okD at o
    obtain ⟨o1, o2⟩ := Bool.and_eq_true_iff.mp o
    obtain ⟨its, rv, ⟨ob, n, ho, hc, _, hd⟩, _⟩ := I.list (un_sqL hq)
    obtain ⟨as, q1, q2⟩ := readss_of (big := big) I ds _ its ha o2 rv
    refine ⟨_, by unfold toPy; exact Reads.list ho hc hd q1, fun b m => ?_⟩
    rcases List.mem_cons.mp m with m | m
    · subst b
      have hg : g.s = true := by simpa using o1
      exact hb.1 hg m.symm
    · exact q2 b m
  | .tup ds, _, _, .tup (a := a) hq ha, o, r => by
    obtain rfl := (show _ = Value.ref a from r)
    unfold okD at o
    obtain ⟨its, rv, ⟨ob, ho, hc, n, hd⟩, _⟩ := I.tuple (un_sqT hq)
    obtain ⟨as, q1, q2⟩ := readss_of (big := big) I ds _ its ha o rv
    exact ⟨_, by unfold toPy; exact Reads.tuple ho hc hd q1, q2⟩
  | .dct ds, _, _, .dct (a := a) hq hk, o, r => by
    obtain rfl := (show _ = Value.ref a from r)
    unfold okD at o
    obtain ⟨hz, hs, vs, rel, ob, es, ep, ho, hx, hd, _, hp, _⟩ := dk_rd I.hok (un_rd hq)
    obtain ⟨k1, k2⟩ := keys_read (h := s.heap) hp rel hk
    obtain ⟨bs, q1, q2⟩ := readsk_of (big := big) I ds _ _ hk o k2
    refine ⟨_, by unfold toPy; exact Reads.dict ho hx.1 hd k1 q1, fun b m => ?_⟩
    rcases List.mem_cons.mp m with m | m
    · rw [← m] at hs
      exact absurd hs (by decide)
    · exact q2 b m
  | .mut _, _, _, _, o, _ => by cases o
  | .ty _, _, _, _, o, _ => by cases o
  | .cls _, _, _, _, o, _ => by cases o
  | .exn _ _ _, _, _, _, o, _ => by cases o
  | .obj _ _, _, _, _, o, _ => by cases o
theorem readss_of {big : Bool} (I : Inv X pins σ H s) : ∀ (ds : List D) (vs : List V) (us : List Value), DVs X.K p H vs ds → okDs big ds = true → Vals vs us → ∃ as, ReadsAll s.heap us (toPys ds) as ∧ NoSys big as
  | [], _, _, h, _, r => by
    cases h
    cases r
    exact ⟨[], by unfold toPys; exact .nil, fun _ m => nomatch m⟩
  | d :: ds, _, _, .cons h1 h2, o, r => by
    unfold okDs at o
    obtain ⟨o1, o2⟩ := Bool.and_eq_true_iff.mp o
    cases r with
    | cons r1 r2 =>
      obtain ⟨as, q1, n1⟩ := reads_of (big := big) I d _ _ h1 o1 r1
      obtain ⟨bs, q2, n2⟩ := readss_of (big := big) I ds _ _ h2 o2 r2
      exact ⟨_, by unfold toPys; exact .cons q1 q2, n1.app n2⟩
theorem readsk_of {big : Bool} (I : Inv X pins σ H s) : ∀ (ds : List (Key × D)) (kvs : List (Key × V)) (us : List Value), DVk X.K p H kvs ds → okDk big ds = true → Vals (kvs.map (·.2)) us → ∃ as, ReadsAll s.heap us ((toPyk ds).map (·.2)) as ∧ NoSys big as
  | [], _, _, h, _, r => by
    cases h
    cases r
    exact ⟨[], by unfold toPyk; exact .nil, fun _ m => nomatch m⟩
  | (k, d) :: ds, _, _, .cons h1 h2, o, r => by
    unfold okDk at o
    obtain ⟨o1, o2⟩ := Bool.and_eq_true_iff.mp o
    cases r with
    | cons r1 r2 =>
      obtain ⟨as, q1, n1⟩ := reads_of (big := big) I d _ _ h1 o1 r1
      obtain ⟨bs, q2, n2⟩ := readsk_of (big := big) I ds _ _ h2 o2 r2
      exact ⟨_, by unfold toPyk; exact .cons q1 q2, n1.app n2⟩
end
/-- what repr asks of a datum: big where a dict stands within -/
structure Shows (d : D) : Prop where
  ok : okD (toPy d).hasDict d = true
  sh : (toPy d).showable = true
  dp : (toPy d).depth ≤ 60
  sz : (toPy d).shown.length ≤ sizeLine
theorem shown_int (i : Int) : PyData.shown (.int i) = toString i := by unfold PyData.shown; rfl
def rRep (K : PySem.W.Frag) : List V → Hp → VK → Prop := fun xs H Q => ∃ (p : HD) (v : V) (d : D), xs = [v] ∧ DV K p H v d ∧ Shows d ∧ Q (.str (toPy d).shown) H
theorem call_repr (hg : X.A.guards = some []) (hu : X.A.units + 70 < cLine) : CallR X (.builtin "repr") (rRep X.K) := by
  intro pins s σ H xs us Q I r h
  obtain ⟨p, v, d, rfl, dv, S, q⟩ := h
  obtain ⟨u, rfl, ru⟩ := vals1 r
  have sz := S.sz
  have byref : ∀ a, v = .ref a → wpAny (model X.prog X.w) X.A (call (.builtin "repr") [u]) (EP X pins σ Q) X.xe s := fun a e => by
    subst e
    obtain rfl : u = Value.ref a := ru
    obtain ⟨as, q1, q2⟩ := reads_of (big := (toPy d).hasDict) I d _ _ dv S.ok rfl
    exact repr_of_reads' q1 S.sh q2 hg (by have := S.dp; omega) (fun _ _ e => e) (fun h' u tk hk => ⟨.str _, H, I.kept (t' := tk) hk, ⟨u, rfl⟩, q⟩) sz
  cases dv with
  | non =>
    cases ru
    refine PySem.P.repr_of_none ⟨.str _, H, I.tok _, ⟨_, rfl⟩, ?_⟩
    unfold toPy PyData.shown at q
    exact q
  | bl b =>
    cases ru
    refine PySem.P.repr_of_bool ⟨.str _, H, I.tok _, ⟨_, rfl⟩, ?_⟩
    unfold toPy PyData.shown at q
    exact q
  | int i =>
    obtain ⟨t, rfl⟩ := ru
    have hs := S.sh
    unfold toPy PyData.showable at hs
    refine PySem.P.repr_of_int (of_decide_eq_true hs) ⟨.str _, H, I.tok _, ⟨_, rfl⟩, ?_⟩
    unfold toPy PyData.shown at q
    exact q
  | str x =>
    obtain ⟨t, rfl⟩ := ru
    unfold toPy PyData.shown at sz
    refine PySem.P.repr_of_str ⟨.str _, H, I.tok _, ⟨_, rfl⟩, ?_⟩ sz
    unfold toPy PyData.shown at q
    exact q
  | lst _ _ _ => exact byref _ rfl
  | tup _ _ => exact byref _ rfl
  | dct _ _ => exact byref _ rfl
  | «mut» _ => exact absurd S.ok (by unfold okD; exact Bool.false_ne_true)
  | ty _ => exact absurd S.ok (by unfold okD; exact Bool.false_ne_true)
  | cls _ => exact absurd S.ok (by unfold okD; exact Bool.false_ne_true)
  | exn _ _ => exact absurd S.ok (by unfold okD; exact Bool.false_ne_true)
  | obj _ _ => exact absurd S.ok (by unfold okD; exact Bool.false_ne_true)
end
section
variable {K : PySem.W.Frag} {p : HD} {c : PC}
theorem cv_repr {d : D} (h : Shows d) : CV K p (rRep K) [d] (.str (toPy d).shown) true c := fun vs H Q dvs hp k => by
  cases dvs with
  | cons hv r =>
    cases r
    exact ⟨p, _, d, rfl, hv, h, k _ H (Ext.refl p H) hp (.str _) fun _ => New.sc (by intro a h; cases h)⟩
/-! ### all, isinstance, join, list(range) -/
theorem of_bools {H : Hp} : ∀ {vs : List V} {bs : List Bool}, DVs K p H vs (bs.map D.bl) → vs = bs.map V.bl
  | _, [], .nil => rfl
  | _, b :: r, .cons h t => by
    cases h
    rw [of_bools t]
    rfl
theorem cv_all {g : G} {bs : List Bool} : CV K p (rAll K) [.lst g (bs.map D.bl)] (.bl (bs.all id)) true c := fun vs H Q dvs hp k => by
  cases dvs with
  | cons hv r =>
    cases r
    cases hv with
    | lst _ hq ha =>
      rw [of_bools ha] at hq
      exact ⟨_, bs, rfl, un_sqL hq, k _ H (Ext.refl p H) hp (.bl _) fun _ => New.sc (by intro a h; cases h)⟩
/-- the built-in type of a datum -/
def tyD : D → Option String
  | .non => some "NoneType"
  | .bl _ => some "bool"
  | .int _ => some "int"
  | .str _ => some "str"
  | .lst _ _ => some "list"
  | .tup _ => some "tuple"
  | .dct _ => some "dict"
  | .mut _ => none
  | .ty _ => none
  | .cls _ => none
  | .exn _ _ _ => none
  | .obj _ _ => none
end
end LA

namespace LA
open PySem PySem.Spec PyProof.Rows L2
section
variable {X : Cx} {W : WX} {p : HD} {ρ ρ1 : Rho} {c c1 c2 c3 : PC} {e e2 a b o tg : Expr} {es : List Expr} {pos apos : Pos} {d d1 d2 : D} {n1 n2 nw : Bool} {K : PySem.W.Frag}
/-! ### isinstance -/
theorem tyx_of {H : Hp} {v : V} {d : D} {t : String} (h : DV K p H v d) (e : tyD d = some t) : TyX K H v (.type t) := by
  cases h with
  | non => cases e; exact .base .non
  | bl b => cases e; exact .base (.bl b)
  | int i => cases e; exact .base (.int i)
  | str x => cases e; exact .base (.str x)
  | lst _ hq _ =>
    cases e
    rcases un_sqL hq with (h | ⟨o, h⟩) | ⟨o, its, n, hk, hc, _⟩
    · exact .base (.lst h)
    · exact .base (.frz h)
    · exact .kList hk hc
  | tup hq _ =>
    cases e
    rcases un_sqT hq with (h | ⟨o, h⟩) | ⟨o, its, n, hk, hc, _⟩
    · exact .base (.tup h)
    · exact .fTuple h
    · exact .kTuple hk hc
  | dct hq _ =>
    cases e
    rcases un_rd hq with h | ⟨o, h⟩
    · exact .base (.dK h)
    · exact .fDict h
  | «mut» _ => cases e
  | obj _ _ => cases e
  | ty _ => cases e
  | cls _ => cases e
  | exn _ _ => cases e
theorem cv_isi {t n : String} {k : Bool} (hd : tyD d = some t) (hk : kitB t n = some k) : CV K p (rIsi K) [d, .ty n] (.bl k) true c := fun vs H Q dvs hp kk => by
  cases dvs with
  | cons hv r =>
    cases r with
    | cons hv2 r =>
      cases r
      cases hv2
      exact ⟨_, _, _, _, k, rfl, .ty n, tyx_of hv hd, kit_ty hk, kk _ H (Ext.refl p H) hp (.bl _) fun _ => New.sc (by intro a h; cases h)⟩
theorem re_ty {x : Str} {n : String} (hm : X.mg x = none) (hv : bootBuiltins x = some (.type n)) (hg : Gl X x := by rfl) (hn : x ≠ "__name__" := by decide) (hd : (x == ("__debug__" : Str)) = false := by decide) : RE X W p ρ c (.Name x pos) (.val (.ty n) true c) :=
  re_c (pe_bltn (v := .ty n) hg hm hv rfl hn hd) (fun _ => .ty n) (by intro a h; cases h)
/-! ### sep.join(list of texts) -/
theorem re_join {g : G} {sep : Str} {ss : List Str} (ho : RE X W p ρ c o (.val (.str sep) n1 c1)) (he : RE X W p ρ c1 e (.val (.lst g (ss.map D.str)) n2 c2)) (hz : (ss.map (·.length)).sum + ss.length * sep.length ≤ 16777216)
    (hs : starEach [e] X.env = [(false, eval e X.env)] := by rfl) (hbase : attributeBase o "join" X.env (eval o X.env) = eval o X.env := by rfl) (hline : (apos.endLine == pos.line) = true := by rfl) :
    RE X W p ρ c (.Call (.Attribute o "join" apos) [e] [] pos) (.val (.str (Txt.join sep ss)) true c2) :=
  pe_imp (pe_join ho he hs hbase hline) fun σ H Q ⟨s, k⟩ => ⟨s, fun v H1 e1 p1 dv _ => by
    cases dv
    refine ⟨⟨sep, rfl⟩, s.mono e1 p1, fun u H2 e2 p2 du _ => ?_⟩
    cases du with
    | lst _ hq ha =>
      rw [of_strs ha] at hq
      exact ⟨sep, _, ss, rfl, rfl, .inl (un_sqL hq), hz, k _ H2 (e1.trans e2) p2 (.str _) fun _ => New.sc (by intro a h; cases h)⟩⟩
/-! ### list(range(n)) -/
theorem dvs_ints {H : Hp} : ∀ (l : List Nat), DVs K p H (l.map fun i => V.int ((0 : Int) + (i : Nat))) (l.map fun i => D.int ((i : Nat) : Int))
  | [] => .nil
  | i :: r => .cons (by
    show DV K p H (.int ((0 : Int) + (i : Nat))) (.int ((i : Nat) : Int))
    rw [Int.zero_add]
    exact .int _) (dvs_ints r)
theorem re_listRg {pl pr : Pos} {n : Int} (hc : X.calm = true) (ha : RE X W p ρ c e (.val (.int n) nw c1)) (h0 : 0 ≤ n) (h1 : n ≤ 100000) (hm : X.mg "range" = none) (hml : X.mg "list" = none) (hg : Gl X "range" := by rfl) (hgl : Gl X "list" := by rfl)
    (na : starEach [e] X.env = (false, eval e X.env) :: starEach [] X.env := by rfl)
    (nb : starEach [.Call (.Name "range" pr) [e] [] pos] X.env = (false, eval (.Call (.Name "range" pr) [e] [] pos) X.env) :: starEach [] X.env := by rfl) :
    RE X W p ρ c (.Call (.Name "list" pl) [.Call (.Name "range" pr) [e] [] pos] [] apos) (.val (.lst ⟨false, true⟩ (intsD n.toNat)) true c1) :=
  pe_imp (pe_listRg hc hgl hml (prg_1 hg hm ha na) nb) fun σ H Q ⟨s, k⟩ => ⟨s, fun v H1 e1 p1 dv _ => by
    cases dv
    refine ⟨n, rfl, RgOk.of_le (by decide) (by omega) (by decide) h0, fun q hq => ?_⟩
    have dv : DVs X.K p H1 (rgV 0 n) (intsD n.toNat) := by
      unfold rgV intsD
      rw [Int.sub_zero]
      exact dvs_ints _
    exact k _ _ (e1.trans (Ext.new hq)) (p1.upd hq) (.lst ⟨(fun z => nomatch z), fun _ => hide_upd p1 hq⟩ (.inl (.inl (hide_upd p1 hq))) (dv.mono (Ext.new hq))) fun _ => (New.lst p1 hq dv).back e1⟩
/-! ### {k: v}, the key a written text -/
theorem re_dct1 {x : Str} {j : Nat} {kp : Pos} (hv : ∀ q : HD, RE X W q ρ c e (.val d nw c1)) : RE X W p ρ c (.Dict [some (.Constant (.str x) j kp)] [e] pos) (.val (.dct [(.inr x, d)]) true c1) := by
  have N : ∀ (trs : List (TE × TE)), trs = [(tC (.str x), fun σ H Q => ∃ q : HD, tE X.K W q ρ c (.val d nw c1) σ H Q)] → PPs X pos [some (.Constant (.str x) j kp)] [e] trs := fun trs h => by
    subst h
    exact pps_cons pe_str ⟨fun pins s σ H Q I ⟨q, h⟩ => (hv q).run pins s σ H Q I h⟩ pps_nil
  refine pe_imp (pe_disp (N _ rfl) (by rfl) (by rfl) (fun z => by cases z) (by show 1 ≤ 15; decide)) fun σ H Q ⟨s, k⟩ => ?_
  intro L nL
  have pq : PoolAt X.K (p.also L) (upd H L (.dK [])) c := s.pl.also nL
  have nLp : L ∉ p.m := fun z => s.pl.not nL (.inl z)
  refine ⟨p.also L, ⟨s.len, fun i d hd => ?_, pq⟩, fun v H2 e2 p2 dv _ => ?_⟩
  · obtain ⟨v, h1, h2⟩ := s.at' i d hd
    exact ⟨v, h1, (h2.also nL).mono (Ext.new nL)⟩
  · have hL : H2 L = some (.dK []) := e2 L _ nLp upd_same
    have sb : Sub (hide (p.also L) H2) (hide p (upd H2 L (.dK (mergeK [] [(.inr x, v)])))) := fun a o h => by
      obtain ⟨h1, h2⟩ := hide_some h
      have hn : a ≠ L := fun z => h2 (.inr (by rw [z]; exact List.mem_cons_self))
      rw [hide_ne (show ¬ p.hid a from fun z => h2 (z.elim .inl fun m => .inr (List.mem_cons_of_mem _ m))), upd_ne hn]
      exact h1
    refine ⟨hL, [(.inr x, v)], rfl, by show 1 ≤ 15; decide, ?_⟩
    have e1 : Ext p H (upd H2 L (.dK (mergeK [] [(.inr x, v)]))) := fun a o n h => by
      rw [upd_ne (ne_of_none h nL)]
      exact e2 a o n (by rw [upd_ne (ne_of_none h nL)]; exact h)
    refine k _ _ e1 (p2.other List.mem_cons_self nLp).less (.dct (.inl ?_) (.cons (dv.sub sb fun _ _ z => z) .nil)) fun _ => (fun b z => by
      cases z
      exact ⟨⟨nL, nLp⟩, p2.other List.mem_cons_self nLp, fun g ds z => nomatch z⟩)
    rw [hide_ne (s.pl.not nL), upd_same]
    rfl
end
end LA

namespace LA
open PySem PySem.Spec PyProof.Rows L2
/-! ### try with several clauses, each with or without a name -/
/-- a clause: its class, the slot of its name, what its suite reads -/
structure Cl where
  c : Value
  i : Option Nat
  ts : Addr → Value → Option Addr → TS
def inSlot : Option Nat → V → L2.St → L2.St
  | none, _, σ => σ
  | some i, v, σ => σ.set i (some v)
def outSlot : Option Nat → L2.St → L2.St
  | none, σ => σ
  | some i, σ => σ.set i none
def Ends.behind (D : Ends) (i : Option Nat) : Ends := { nx := fun σ' H' => D.nx (outSlot i σ') H', rt := D.rt, bk := fun σ' H' => D.bk (outSlot i σ') H', ct := fun σ' H' => D.ct (outSlot i σ') H' }
def wCl (K : PySem.W.Frag) (Wo : WX) (D : Ends) : List Cl → WX
  | [] => Wo
  | l :: r => fun cls d σ H => ∃ b, PySem.W.exmOne K cls l.c = some b ∧ (b = true → ∀ a, H a = none → l.ts a cls d (Ends.behind D l.i) (inSlot l.i (.ref a) σ) H) ∧ (b = false → wCl K Wo D r cls d σ H)
inductive ClsOk (X : Cx) : List ExceptHandler → List Cl → Prop
  | nil : ClsOk X [] []
  | bare {x : Str} {c : Value} {ts : Addr → Value → Option Addr → TS} {b0 : Stmt} {su : List Stmt} {np hp : Pos} {hs : List ExceptHandler} {l : List Cl} (nm : Names X x c)
      (run : ∀ (a : Addr) (oe : Obj) (cls : Value) (d : Option Addr) (pn : List (Addr × Obj)), Zc cls d oe → (∃ vs, oe.data = .fields vs) → PSs (X.suite a ((a, oe) :: pn)) (b0 :: su) (ts a cls d)) (r : ClsOk X hs l) :
      ClsOk X (.ExceptHandler (some (.Name x np)) none (b0 :: su) hp :: hs) (⟨c, none, ts⟩ :: l)
  | named {x n : Str} {c : Value} {i : Nat} {ts : Addr → Value → Option Addr → TS} {b0 : Stmt} {su : List Stmt} {np hp : Pos} {hs : List ExceptHandler} {l : List Cl} (nm : Names X x c) (hi : X.N[i]? = some n) (hl : X.env.kindOf n = some .local)
      (run : ∀ (a : Addr) (oe : Obj) (cls : Value) (d : Option Addr) (pn : List (Addr × Obj)), Zc cls d oe → (∃ vs, oe.data = .fields vs) → PSs (X.suite a ((a, oe) :: pn)) (b0 :: su) (ts a cls d)) (r : ClsOk X hs l) :
      ClsOk X (.ExceptHandler (some (.Name x np)) (some n) (b0 :: su) hp :: hs) (⟨c, some i, ts⟩ :: l)
section
variable {X : Cx} {body : List Stmt} {h0 : ExceptHandler} {hs : List ExceptHandler} {l : List Cl} {pos : Pos} {tb : WX → TS} {Wo : WX}
theorem ps_tryCl (hst : X.stack = X.env :: X.outer) (hfr : X.env.frame = some X.env.locals) (hN : X.N.Nodup) (tk : Takes X Wo)
    (hb : ∀ (W : WX) (pn : List (Addr × Obj)) (xe : Value → Shared → Prop), Takes (X.tr pn xe) W → PassesOwn (model X.prog X.w) X.A X.env xe → PSs (X.tr pn xe) body (tb W))
    (hh : ClsOk X (h0 :: hs) l) : PS X (.Try body (h0 :: hs) [] [] pos) (fun D σ H => tb (wCl X.K Wo D l) D σ H) := by
  refine ⟨fun pins s σ H D I hw => ?_⟩
  have OK := I.ok
  have fr2 : X.A.frames = some (X.env :: X.outer) := OK.frames.trans (by rw [hst])
  refine wpAny_Try_except (wpAny_mono ((hb (wCl X.K Wo D l) (X.pn ++ pins) (fun ev sa => wpAny (model X.prog X.w) X.A (noteFrame ev X.env) (fun _ sb => wpAny (model X.prog X.w) X.A (setFlight ev none) (fun _ sc =>
    wpAny (model X.prog X.w) X.A (handleBy ev X.env (h0 :: hs)) (SP X pins D) X.xe sc) X.xe sb) X.xe sa) (fun u sr xx => ?_) PassesOwn.looking).run [] s σ H D (I.toTry _) hw) (fun fl sr q => ?_) fun ev sr q => q)
  · obtain ⟨a, B, sI, pins', σ1, H1, cls, d, rfl, J1, nb, up, sky, na, os, ag, wish⟩ := xx
    have JA : Inv X pins σ1 H1 sI := J1.ofTry OK
    have skyA : Sky B (X.env :: X.outer) a (Zc cls d) X.env.locals sr.heap := by
      rw [← hst]
      exact sky
    show wpAny (model X.prog X.w) X.A (noteFrame (.ref a) X.env) _ _ _
    refine Sky.land Zc.steady fr2 hfr skyA fun hp3 fly upB => ?_
    have JB : Inv X pins σ1 H1 { sr with heap := hp3 } := JA.landed nb fly.1 (up.trans upB) os ag
    obtain ⟨ob, fv, g1, g2, g3⟩ := fly.there
    have notIn : ∀ {hp : Heap} {o : Obj} {ws : Array Value}, hp.FunFrames B (X.env :: X.outer) → hp.get? a = some o → o.data = .fields ws → a ∉ frs (X.env :: X.outer) := fun {hp o ws} ff y z m => by
      obtain ⟨_, o2, y2, nf⟩ := ff.mem m
      rw [y] at y2
      cases y2
      exact nf _ z
    have nAll := notIn fly.2.2.1 g1 g3
    have nLoc : a ≠ X.env.locals := fun z => nAll (List.mem_filterMap.mpr ⟨X.env, List.mem_cons_self, by rw [hfr, z]⟩)
    have nFs : a ∉ X.fs := fun m => by
      obtain ⟨en, hen, z⟩ := List.mem_filterMap.mp m
      exact nAll (List.mem_filterMap.mpr ⟨en, List.mem_cons_of_mem _ hen, z⟩)
    have SB := JB.suite g1 g3 na nLoc nFs
    have seen : ∀ {x : Str} {np : Pos} {c : Value} {Q : Value → Shared → Prop} {E : Value → Shared → Prop}, Names X x c → Q c { sr with heap := hp3 } → wpAny (model X.prog X.w) (X.A.mark (some (.ref a))) (eval (.Name x np) X.env) Q E { sr with heap := hp3 } := fun {x np c Q E} nm q => by
      obtain ⟨hg, hd, hm | ⟨hm, hv, hnn⟩⟩ := nm
      · exact ld_glob (X := X.suite a ((a, ob) :: (X.pn ++ pins))) SB hg hm q hd
      · exact ld_blt (X := X.suite a ((a, ob) :: (X.pn ++ pins))) SB hg hm hv q hnn hd
    have walk : ∀ {hs' : List ExceptHandler} {l' : List Cl}, ClsOk X hs' l' → wCl X.K Wo D l' cls d σ1 H1 → wpAny (model X.prog X.w) X.A (handleBy (.ref a) X.env hs') (SP X pins D) X.xe { sr with heap := hp3 } := by
      intro hs' l' ck
      induction ck with
      | nil =>
        intro wz
        refine wpAny_handleBy_nil ?_
        obtain ⟨z1, z2, z3, oe, vs, T, oT, tz, ho, hz, hdat, hf1, hrst⟩ := id fly
        unfold PySem.passOn
        refine wpAny_bind (wpAny_field ho hdat hf1 ?_)
        rw [if_neg (show ¬ ((Value.ref T == Value.none) = true) by simp)]
        have onw : wpAny (model X.prog X.w) X.A (setFlight (.ref a) X.env.frame) (fun _ sd => wpAny (model X.prog X.w) X.A (throw (.ref a) : Sem Flow) (SP X pins D) X.xe sd) X.xe { sr with heap := hp3 } := by
          rw [hfr]
          refine HandSPX.setFlight_upZ fly fun hp4 held upC => wpAny_throw (tk _ _ ?_)
          exact ⟨a, B, sI, pins, σ1, H1, cls, d, rfl, JA, nb, (up.trans upB).trans upC, .inr (.inr (by rw [hst]; exact held)), na, os, ag, wz⟩
        first
          | exact wpAny_bind (wpAny_pure (wpAny_bind onw))
          | exact wpAny_bind onw
      | @bare x c ts b0 su np hp hs2 l2 nm run r ih =>
        intro wz
        obtain ⟨b, hb1, yes, no⟩ := wz
        refine wpAny_handleBy_cons (codeAny_handlers_test ?_) (by intro z; cases z)
        have LT : PySem.W.Looks (model X.prog X.w) hp3 (typeOf (.ref a)) cls := fun A Q E s' kp q => wpAny_typeOf_ref (kp _ _ g1) (by rw [g2.1]; exact q)
        refine seen nm ((PySem.W.exm_one (M := model X.prog X.w) JB.kIn LT hb1).here ?_)
        cases b with
        | false =>
          show wpAny _ X.A (handleBy (.ref a) X.env hs2) _ _ _
          exact ih (no rfl)
        | true =>
          refine codeAny_handlers_suite ?_
          refine HandSPX.lands_againZ fly fun hp4 fly4 upC => ?_
          have JC : Inv X pins σ1 H1 { sr with heap := hp4 } := JA.landed nb fly4.1 ((up.trans upB).trans upC) os ag
          obtain ⟨o4, w4, y4, z4, d4⟩ := fly4.there
          refine wpAny_mono ((run a o4 cls d (X.pn ++ pins) z4 ⟨_, d4⟩).run [] _ _ H1 _ (JC.suite y4 d4 na nLoc nFs) (yes rfl a na)) (fun fl st q => ?_) fun _ _ z => False.elim z
          cases fl with
          | next => obtain ⟨σ6, H6, S6, q6⟩ := q; exact ⟨σ6, H6, S6.unsuite OK, q6⟩
          | brk => obtain ⟨σ6, H6, S6, q6⟩ := q; exact ⟨σ6, H6, S6.unsuite OK, q6⟩
          | cont => obtain ⟨σ6, H6, S6, q6⟩ := q; exact ⟨σ6, H6, S6.unsuite OK, q6⟩
          | ret u => obtain ⟨v6, σ6, H6, S6, r6, q6⟩ := q; exact ⟨v6, σ6, H6, S6.unsuite OK, r6, q6⟩
      | @named x n c i ts b0 su np hp hs2 l2 nm hi hl run r ih =>
        intro wz
        obtain ⟨b, hb1, yes, no⟩ := wz
        refine wpAny_handleBy_cons (codeAny_handlers_test ?_) (by intro z; cases z)
        have LT : PySem.W.Looks (model X.prog X.w) hp3 (typeOf (.ref a)) cls := fun A Q E s' kp q => wpAny_typeOf_ref (kp _ _ g1) (by rw [g2.1]; exact q)
        refine seen nm ((PySem.W.exm_one (M := model X.prog X.w) JB.kIn LT hb1).here ?_)
        cases b with
        | false =>
          show wpAny _ X.A (handleBy (.ref a) X.env hs2) _ _ _
          exact ih (no rfl)
        | true =>
          refine codeAny_handlers_suite_as ?_
          refine HandSPX.lands_againZ fly fun hp4 fly4 upC => ?_
          have JC : Inv X pins σ1 H1 { sr with heap := hp4 } := JA.landed nb fly4.1 ((up.trans upB).trans upC) os ag
          obtain ⟨o4, w4, y4, z4, d4⟩ := fly4.there
          refine store_ok (X := X.suite a ((a, o4) :: (X.pn ++ pins))) (v := .ref a) (JC.suite y4 d4 na nLoc nFs) hN hi (.inl hl) rfl (fun s5 S5 => ?_) (.inr hl)
          refine wpAny_mono ((run a o4 cls d (X.pn ++ pins) z4 ⟨_, d4⟩).run [] s5 _ H1 _ S5 (yes rfl a na)) (fun fl st q => ?_) fun _ _ z => False.elim z
          have close : ∀ {σ6 : L2.St} {H6 : Hp} {Q : Shared → Prop}, Inv (X.suite a ((a, o4) :: (X.pn ++ pins))) [] σ6 H6 st → (∀ s7, Inv X pins (σ6.set i none) H6 s7 → Q s7) →
              wpAny (model X.prog X.w) X.A (do bindName X.env n .none; unbindBehindTheSuite X.env n hp) (fun _ s7 => Q s7) X.xe st := fun {σ6 H6 Q} S6 hq => gone_ok (S6.unsuite OK) hN hi hl hq
          cases fl with
          | next => obtain ⟨σ6, H6, S6, q6⟩ := q; exact close S6 fun s7 J7 => ⟨_, H6, J7, q6⟩
          | brk => obtain ⟨σ6, H6, S6, q6⟩ := q; exact close S6 fun s7 J7 => ⟨_, H6, J7, q6⟩
          | cont => obtain ⟨σ6, H6, S6, q6⟩ := q; exact close S6 fun s7 J7 => ⟨_, H6, J7, q6⟩
          | ret u => obtain ⟨v6, σ6, H6, S6, r6, q6⟩ := q; exact close S6 fun s7 J7 => ⟨v6, _, H6, J7, r6, q6⟩
    exact walk hh wish
  · cases fl with
    | next => obtain ⟨σ6, H6, J6, q6⟩ := q; exact wpAny_execs_nil ⟨σ6, H6, J6.ofTry OK, q6⟩
    | brk => obtain ⟨σ6, H6, J6, q6⟩ := q; exact ⟨σ6, H6, J6.ofTry OK, q6⟩
    | cont => obtain ⟨σ6, H6, J6, q6⟩ := q; exact ⟨σ6, H6, J6.ofTry OK, q6⟩
    | ret u => obtain ⟨v6, σ6, H6, J6, r6, q6⟩ := q; exact ⟨v6, σ6, H6, J6.ofTry OK, r6, q6⟩
end
end LA

namespace LA
open PySem PySem.Spec PyProof.Rows L2
/-! ### exceptions with fields -/
/-- __init__(self, y): self.f = y -/
def spIni1 (K : PySem.W.Frag) (f : Str) : Sp := fun vs H Q _ => ∃ (a C : Addr) (y : V), vs = [.ref a, y] ∧ OexC K C ∧ PySem.W.findIn K (.ref C) f = some none ∧ H a = some (exo a C none) ∧
  ∀ dx, H dx = none → dx ≠ a → Q .non (upd (upd H dx (exd dx [(f, y)])) a (exo a C (some dx)))
/-- __init__(self, y, z): self.f = y; self.g = z -/
def spIni2 (K : PySem.W.Frag) (f g : Str) : Sp := fun vs H Q _ => ∃ (a C : Addr) (y z : V), vs = [.ref a, y, z] ∧ OexC K C ∧ PySem.W.findIn K (.ref C) f = some none ∧ PySem.W.findIn K (.ref C) g = some none ∧ H a = some (exo a C none) ∧
  ∀ dx, H dx = none → dx ≠ a → Q .non (upd (upd (upd H dx (exd dx [(f, y)])) a (exo a C (some dx))) dx (exd dx [(g, z), (f, y)]))
section
variable {P : Program} {w : World} {K : PySem.W.Frag} {mg : Str → Option Value} {base : Heap} {qual : Str} {st : Stmt} {fI : Addr} {fd : FuncData}
theorem vis_of {N ps : List Str} {sc : Scope} (S : FnScope N ps sc) {x : Str} (h : x ∈ ps) : Vis sc x := (S.par x h).elim .inl fun z => .inr (.inl z)
theorem ok_ini1 {f pn : Str} {q1 q2 q3 q4 : Pos} (F : Fun K "__init__" qual st fI fd) (S : FnScope ["self", pn] ["self", pn] (defScope st)) (hb : defBody st = [.Assign [.Attribute (.Name "self" q1) f q2] (.Name pn q3) q4])
    (h1 : (pn == ("__debug__" : Str)) = false) (h2 : (pn == ("__classdict__" : Str)) = false) : FnOk P w K mg base CX0 1 fI fd ["self", pn] (spIni1 K f) := by
  refine F.ok S (fun vs H Q E h => ?_) (fun cdv A outer s H vs Q E hr h => ?_)
  · obtain ⟨a, C, y, rfl, _⟩ := h
    rfl
  · obtain ⟨a, C, y, rfl, T, hno, ha, k⟩ := h
    rw [hb]
    refine ⟨_, pss_one (ps_ost (pv 0 (hv := vis_of S (List.mem_cons_self ..))) (pv 1 (hN := rfl) (hv := vis_of S (List.mem_cons_of_mem _ (List.mem_cons_self ..))) (hd := h1) (hcd := h2))), ?_⟩
    exact ⟨y, rfl, .ref a, rfl, a, C, rfl, T, hno, .inl ⟨ha, fun dx n ne => k dx n ne⟩⟩
theorem ok_ini2 {f g pn pm : Str} {q1 q2 q3 q4 r1 r2 r3 r4 : Pos} (F : Fun K "__init__" qual st fI fd) (S : FnScope ["self", pn, pm] ["self", pn, pm] (defScope st))
    (hb : defBody st = [.Assign [.Attribute (.Name "self" q1) f q2] (.Name pn q3) q4, .Assign [.Attribute (.Name "self" r1) g r2] (.Name pm r3) r4])
    (h1 : (pn == ("__debug__" : Str)) = false) (h2 : (pn == ("__classdict__" : Str)) = false) (h3 : (pm == ("__debug__" : Str)) = false) (h4 : (pm == ("__classdict__" : Str)) = false) : FnOk P w K mg base CX0 1 fI fd ["self", pn, pm] (spIni2 K f g) := by
  refine F.ok S (fun vs H Q E h => ?_) (fun cdv A outer s H vs Q E hr h => ?_)
  · obtain ⟨a, C, y, z, rfl, _⟩ := h
    rfl
  · obtain ⟨a, C, y, z, rfl, T, hno, hno2, ha, k⟩ := h
    rw [hb]
    have m1 : pn ∈ (["self", pn, pm] : List Str) := List.mem_cons_of_mem _ (List.mem_cons_self ..)
    have m2 : pm ∈ (["self", pn, pm] : List Str) := List.mem_cons_of_mem _ (List.mem_cons_of_mem _ (List.mem_cons_self ..))
    refine ⟨_, pss_cons (ps_ost (pv 0 (hv := vis_of S (List.mem_cons_self ..))) (pv 1 (hN := rfl) (hv := vis_of S m1) (hd := h1) (hcd := h2)))
      (pss_one (ps_ost (pv 0 (hv := vis_of S (List.mem_cons_self ..))) (pv 2 (hN := rfl) (hv := vis_of S m2) (hd := h3) (hcd := h4)))), ?_⟩
    refine ⟨y, rfl, .ref a, rfl, a, C, rfl, T, hno, .inl ⟨ha, fun dx n ne => ?_⟩⟩
    exact ⟨z, rfl, .ref a, rfl, a, C, rfl, T, hno2, .inr ⟨dx, [(f, y)], upd_same, by rw [upd_ne ne]; exact upd_same, (by show 1 ≤ 900; decide), k dx n ne⟩⟩
end
section
variable {X : Cx} {W : WX} {p : HD} {ρ : Rho} {c c1 c2 : PC} {e e2 : Expr} {pos pos2 xp : Pos} {d d2 : D} {n1 n2 : Bool} {x f g pn pm : Str} {C fI : Addr} {fd : FuncData} {k : Nat}
/-- the heap when the exception has left, by what it has in sight -/
theorem fin_ex {K : PySem.W.Frag} {H1 G : Hp} {a dx : Addr} {fs : List (Str × V)} (na : H1 a = none) (nd : H1 dx = none) (hG : ∀ b, b ≠ a → b ≠ dx → G b = H1 b) (hp : PoolAt K p H1 c) : Ext p H1 (upd (L2.del G a) dx (.xd fs)) ∧ PoolAt K p (upd (L2.del G a) dx (.xd fs)) c ∧ hide p (upd (L2.del G a) dx (.xd fs)) dx = some (.xd fs) := by
  have at' : ∀ b, b ≠ a → b ≠ dx → upd (L2.del G a) dx (.xd fs) b = H1 b := fun b h1 h2 => by
    rw [upd_ne h2, del_ne h1, hG b h1 h2]
  have e : Ext p H1 (upd (L2.del G a) dx (.xd fs)) := fun b o _ h => by
    rw [at' b (ne_of_none h na) (ne_of_none h nd)]
    exact h
  refine ⟨e, ⟨⟨hp.1.1, hp.1.2.1, fun i b x h1 h2 => ?_⟩, fun b z => ?_⟩, ?_⟩
  · obtain ⟨o, q⟩ := hp.ex (List.mem_of_getElem? h1)
    exact (hp.1.2.2 i b x h1 h2).sub e.hide (at' b (ne_of_none q na) (ne_of_none q nd))
  · obtain ⟨o, q⟩ := hp.2 b z
    exact ⟨o, by rw [at' b (ne_of_none q na) (ne_of_none q nd)]; exact q⟩
  · rw [hide_ne (hp.not nd), upd_same]
theorem rs_raise1 (hc : X.calm = true) (tk : Takes X W) (T : OexC X.K C) (hno : PySem.W.findIn X.K (.ref C) f = some none) (iC : PySem.W.findIn X.K (.ref C) "__init__" = some (some (.ref fI))) (tI : PySem.W.typeIn X.K (.ref fI) = some (.type "function"))
    (F1 : FnOk X.prog X.w X.K X.mg X.base CX0 k fI fd ["self", pn] (spIni1 X.K f)) (hr : Room (k + 1) X.A) (hb : Binds X.K fd ["self", pn] []) (hm : X.mg x = some (.ref C)) (he : RE X W p ρ c e (.val d n1 c1)) (hg : Gl X x := by rfl)
    (hdb : (x == ("__debug__" : Str)) = false := by decide) (hs : starEach (e :: []) X.env = (false, eval e X.env) :: starEach [] X.env := by rfl) (hpl : (backTo pos (starEach [] X.env)).any (·.1) = false := by rfl) :
    RS X W p ρ c (.Raise (some (.Call (.Name x xp) [e] [] pos)) none pos2) (.ex C [(f, d)] c1) :=
  ps_imp (ps_raise hc tk (pmk_oex T iC tI F1 hr hb .nil pass0 hg hm (ra_cons (W := W) he (ra_nil (W := W)) hs) hdb hs hpl)) fun De σ H h => ⟨h.1, fun vs H1 e1 p1 dvs => by
    cases dvs with
    | @cons y _ _ _ dy r =>
      cases r
      refine ⟨by show 1 ≤ 1000; decide, fun a na => ⟨a, C, y, rfl, T, hno, upd_same, fun dx n ne => ⟨rfl, dx, [(f, y)], upd_same, by rw [upd_ne ne]; exact upd_same, ?_, ?_⟩⟩⟩
      · rw [upd_ne ne] at n
        exact n
      · have nd : H1 dx = none := by
          rw [upd_ne ne] at n
          exact n
        obtain ⟨q1, q2, q3⟩ := fin_ex (p := p) (fs := [(f, y)]) na nd (G := upd (upd (upd H1 a (exo a C none)) dx (exd dx [(f, y)])) a (exo a C (some dx))) (fun b h1 h2 => by rw [upd_ne h1, upd_ne h2, upd_ne h1]) p1
        exact h.2 ρ dx [(f, y)] σ _ (e1.trans q1) (h.1.mono (e1.trans q1) q2) rfl q3 (.cons (dy.mono q1) .nil)⟩
theorem rs_raise2 (hc : X.calm = true) (tk : Takes X W) (T : OexC X.K C) (hno : PySem.W.findIn X.K (.ref C) f = some none) (hno2 : PySem.W.findIn X.K (.ref C) g = some none) (iC : PySem.W.findIn X.K (.ref C) "__init__" = some (some (.ref fI))) (tI : PySem.W.typeIn X.K (.ref fI) = some (.type "function"))
    (F1 : FnOk X.prog X.w X.K X.mg X.base CX0 k fI fd ["self", pn, pm] (spIni2 X.K f g)) (hr : Room (k + 1) X.A) (hb : Binds X.K fd ["self", pn, pm] []) (hm : X.mg x = some (.ref C)) (he : RE X W p ρ c e (.val d n1 c1)) (he2 : RE X W p ρ c1 e2 (.val d2 n2 c2)) (hg : Gl X x := by rfl)
    (hdb : (x == ("__debug__" : Str)) = false := by decide) (hs : starEach (e :: [e2]) X.env = (false, eval e X.env) :: starEach [e2] X.env := by rfl) (hs2 : starEach (e2 :: []) X.env = (false, eval e2 X.env) :: starEach [] X.env := by rfl) (hpl : (backTo pos (starEach [e2] X.env)).any (·.1) = false := by rfl) :
    RS X W p ρ c (.Raise (some (.Call (.Name x xp) [e, e2] [] pos)) none pos2) (.ex C [(g, d2), (f, d)] c2) :=
  ps_imp (ps_raise hc tk (pmk_oex T iC tI F1 hr hb .nil pass0 hg hm (ra_cons (W := W) he (ra_cons (W := W) he2 (ra_nil (W := W)) hs2) hs) hdb hs hpl)) fun De σ H h => ⟨h.1, fun vs H1 e1 p1 dvs => by
    cases dvs with
    | @cons y _ _ _ dy r =>
      cases r with
      | @cons z _ _ _ dz r =>
        cases r
        refine ⟨by show 2 ≤ 1000; decide, fun a na => ⟨a, C, y, z, rfl, T, hno, hno2, upd_same, fun dx n ne => ?_⟩⟩
        have nd : H1 dx = none := by
          rw [upd_ne ne] at n
          exact n
        refine ⟨rfl, dx, [(g, z), (f, y)], by rw [upd_ne (Ne.symm ne)]; exact upd_same, upd_same, nd, ?_⟩
        obtain ⟨q1, q2, q3⟩ := fin_ex (p := p) (fs := [(g, z), (f, y)]) na nd (G := upd (upd (upd (upd H1 a (exo a C none)) dx (exd dx [(f, y)])) a (exo a C (some dx))) dx (exd dx [(g, z), (f, y)])) (fun b h1 h2 => by rw [upd_ne h2, upd_ne h1, upd_ne h2, upd_ne h1]) p1
        exact h.2 ρ dx _ σ _ (e1.trans q1) (h.1.mono (e1.trans q1) q2) rfl q3 (.cons (dz.mono q1) (.cons (dy.mono q1) .nil))⟩
end
/-! ### the field of a caught exception -/
theorem re_xf {X : Cx} {a C dx : Addr} {oe : Obj} {cls : Value} {pn : List (Addr × Obj)} {e : Expr} {pos : Pos} {n : Str} {p : HD} {ρ : Rho} {c c1 : PC} {fs : List (Str × D)} {d : D} {nw : Bool} {W : WX} (T : XfC X.K C) (hno : PySem.W.findIn X.K (.ref C) n = some none) (hz : Zc cls (some dx) oe) (hf : ∃ vs, oe.data = .fields vs) (hc : cls = .ref C)
    (he : RE (X.suite a ((a, oe) :: pn)) W p ρ c e (.val (.exn a dx fs) nw c1)) (hl : fs.lookup n = some d) (hb : attributeBase e n X.env (eval e X.env) = eval e X.env := by rfl) : RE (X.suite a ((a, oe) :: pn)) W p ρ c (.Attribute e n pos) (.val d false c1) :=
  pe_imp (pe_xf T hno hz hf he hb) fun σ H Q ⟨s, k⟩ => ⟨s, fun v H1 e1 p1 dv _ => by
    cases dv with
    | exn hx hfv =>
      obtain ⟨y, h1, h2⟩ := hfv.get hl
      exact ⟨rfl, hc, dx, _, y, rfl, (hide_some hx).1, h1, k y H1 e1 p1 h2 fun q => nomatch q⟩⟩
end LA

namespace LA
open PySem PySem.Spec PyProof.Rows L2
/-! ### for over an iterator of data -/
section
variable {X : Cx} {W : WX} {p : HD} {ρ : Rho} {c : PC} {tg it : Expr} {body : List Stmt} {pos : Pos} {xs : List D} {g : TG} {vs : List Nat}
/-- n turns go on, then the end or a turn that returns -/
theorem rs_for (n : Nat) (ρs ρt : Nat → Rho) (cs : Nat → PC) (o : SO) (hp : PassesOwn (model X.prog X.w) X.A X.env X.xe) (hc : X.calm = true) (h0 : ρs 0 = ρ) (hi : RI X W p ρ c tg it xs (cs 0)) (hg : PG X tg g)
    (htg : ∀ i d, xs[i]? = some d → i ≤ n → TgOk X.K g vs d (ρs i) (ρt i))
    (hb : ∀ i d, xs[i]? = some d → i < n → RSs X W p (ρt i) (cs i) body (.nx (ρs (i + 1)) (cs (i + 1))))
    (hend : (n = xs.length ∧ o = .nx (ρs n) (cs n)) ∨ ∃ d dd nw cc, xs[n]? = some d ∧ o = .rt dd nw cc ∧ RSs X W p (ρt n) (cs n) body o)
    (hs : ∀ x, foldedSetIterable it X.env x = pure x := by intro _; rfl) : RS X W p ρ c (.For tg it body [] pos) o := by
  subst h0
  have hn : n ≤ xs.length := by
    rcases hend with ⟨h, _⟩ | ⟨d, _, _, _, h, _⟩
    · omega
    · have := (List.getElem?_eq_some_iff.mp h).1
      omega
  have PU : PSs X body (fun De σ H => ∃ (i : Nat) (so : SO), RSs X W p (ρt i) (cs i) body so ∧ tSt X.K W p (ρt i) (cs i) so De σ H) := ⟨fun pins s σ H De I ⟨i, so, h1, h2⟩ => h1.run pins s σ H De I h2⟩
  refine ps_imp (ps_for hp hc hi hg PU hs) fun De σ H h => ?_
  refine ⟨st_sr h, fun J H1 e1 p1 yl => ?_⟩
  refine ⟨fun i m σ2 H2 => m = xs.length - i ∧ i ≤ n ∧ Ext p H1 H2 ∧ SR X.K p H2 σ2 (ρs i) (cs i), ⟨xs.length, by simp, Nat.zero_le _, Ext.refl _ _, (st_sr h).mono e1 p1⟩, ?_⟩
  rintro i m σ2 H2 ⟨rfl, hi', e2, s2⟩
  obtain ⟨hstop, hgo⟩ := yl p (cs i) H2 rfl e2.hide s2.pl
  by_cases hlt : i < n
  · have hd : xs[i]? = some (xs[i]'(Nat.lt_of_lt_of_le hlt hn)) := List.getElem?_eq_getElem _
    obtain ⟨g1, g2⟩ := hgo i _ hd
    refine .inr ⟨g1, fun σ' H' => Ext p H1 H' ∧ SR X.K p H' σ' (ρs (i + 1)) (cs (i + 1)), fun σ' H' ⟨a1, a2⟩ => ⟨xs.length - (i + 1), by omega, rfl, hlt, a1, a2⟩, fun x H3 hy => ?_⟩
    obtain ⟨e3, p3, dx⟩ := g2 x H3 hy
    refine (htg i _ hd hi').run p (cs i) x _ H3 _ dx (s2.mono e3 p3) p3 fun σ3 s3 _ => ⟨i, _, hb i _ hd hlt, s3, fun σ4 H4 e4 s4 => ⟨(e2.trans e3).trans e4, s4⟩⟩
  · have e : i = n := by omega
    subst e
    rcases hend with ⟨h1, h2⟩ | ⟨d, dd, nw, cc, h1, h2, h3⟩
    · subst h2
      rw [← h1] at hstop
      exact .inl ⟨hstop, h.2 σ2 H2 (e1.trans e2) s2⟩
    · subst h2
      obtain ⟨g1, g2⟩ := hgo i _ h1
      refine .inr ⟨g1, fun _ _ => False, fun _ _ z => z.elim, fun x H3 hy => ?_⟩
      obtain ⟨e3, p3, dx⟩ := g2 x H3 hy
      refine (htg i _ h1 hi').run p (cs i) x _ H3 _ dx (s2.mono e3 p3) p3 fun σ3 s3 _ => ⟨i, _, h3, s3, fun v H4 e4 p4 dv hn' => ?_⟩
      have e04 : Ext p H H4 := e1.trans (e2.trans (e3.trans e4))
      exact h.2 v H4 e04 p4 dv fun q => (hn' q).back (e1.trans (e2.trans e3))
theorem rs_for_all (ρs ρt : Nat → Rho) (cs : Nat → PC) (hp : PassesOwn (model X.prog X.w) X.A X.env X.xe) (hc : X.calm = true) (h0 : ρs 0 = ρ) (hi : RI X W p ρ c tg it xs (cs 0)) (hg : PG X tg g)
    (htg : ∀ i d, xs[i]? = some d → TgOk X.K g vs d (ρs i) (ρt i))
    (hb : ∀ i d, xs[i]? = some d → RSs X W p (ρt i) (cs i) body (.nx (ρs (i + 1)) (cs (i + 1))))
    (hs : ∀ x, foldedSetIterable it X.env x = pure x := by intro _; rfl) : RS X W p ρ c (.For tg it body [] pos) (.nx (ρs xs.length) (cs xs.length)) :=
  rs_for xs.length ρs ρt cs _ hp hc h0 hi hg (fun i d h _ => htg i d h) (fun i d h _ => hb i d h) (.inl ⟨rfl, rfl⟩) hs
end
/-! ### try -/
inductive Picks (K : PySem.W.Frag) (c : Value) : List Cl → Cl → Prop
  | here {l : Cl} {r : List Cl} : PySem.W.exmOne K c l.c = some true → Picks K c (l :: r) l
  | there {l m : Cl} {r : List Cl} : PySem.W.exmOne K c l.c = some false → Picks K c r m → Picks K c (l :: r) m
theorem wCl_of {K : PySem.W.Frag} {Wo : WX} {De : Ends} {cls : Value} {d : Option Addr} {σ : L2.St} {H : Hp} {m : Cl} : ∀ {l : List Cl}, Picks K cls l m → (∀ a, H a = none → m.ts a cls d (Ends.behind De m.i) (inSlot m.i (.ref a) σ) H) → wCl K Wo De l cls d σ H
  | _, .here h, k => ⟨true, h, (fun _ => k), fun z => nomatch z⟩
  | _, .there h r, k => ⟨false, h, (fun z => nomatch z), fun _ => wCl_of r k⟩
def blank (n : Nat) : Rho := List.replicate n none
theorem SR.blank {K : PySem.W.Frag} {p : HD} {H : Hp} {σ : L2.St} {ρ : Rho} {c : PC} (s : SR K p H σ ρ c) {n : Nat} (hn : ρ.length = n) : SR K p H σ (LA.blank n) c :=
  ⟨by unfold LA.blank; rw [List.length_replicate, ← hn]; exact s.len, (fun i d h => by
    unfold LA.blank at h
    rw [List.getElem?_replicate] at h
    split at h
    · cases h
    · cases h), s.pl⟩
section
variable {X : Cx} {W : WX} {p : HD} {ρ : Rho} {c c1 c2 : PC} {body : List Stmt} {h0 : ExceptHandler} {hs : List ExceptHandler} {l : List Cl} {pos : Pos} {o : SO} {d : D} {nw : Bool} {C : Addr} {fs : List (Str × D)}
/-- what a suite with the exception in slot i is read by -/
def tsD (K : PySem.W.Frag) (W : WX) (p : HD) (n : Nat) (C : Addr) (fs : List (Str × D)) (c1 : PC) (i : Option Nat) (o : SO) : Addr → Value → Option Addr → TS := fun a cls dd De σ H =>
  cls = .ref C ∧ ∃ dx, dd = some dx ∧ tSt K W p (match i with | none => blank n | some i => (blank n).set i (some (.exn a dx fs))) c1 o De σ H
theorem rs_try (hst : X.stack = X.env :: X.outer) (hfr : X.env.frame = some X.env.locals) (hN : X.N.Nodup) (tk : Takes X W)
    (hb : ∀ (W' : WX) (pn : List (Addr × Obj)) (xe : Value → Shared → Prop), Takes (X.tr pn xe) W' → PassesOwn (model X.prog X.w) X.A X.env xe → RSs (X.tr pn xe) W' p ρ c body (.rt d nw c1))
    (hh : ClsOk X (h0 :: hs) l) : RS X W p ρ c (.Try body (h0 :: hs) [] [] pos) (.rt d nw c1) :=
  ps_imp (ps_tryCl (tb := fun W' => tSt X.K W' p ρ c (.rt d nw c1)) hst hfr hN tk hb hh) fun De σ H h => h
theorem rs_tryX {i : Nat} (hst : X.stack = X.env :: X.outer) (hfr : X.env.frame = some X.env.locals) (hN : X.N.Nodup) (tk : Takes X W)
    (hb : ∀ (W' : WX) (pn : List (Addr × Obj)) (xe : Value → Shared → Prop), Takes (X.tr pn xe) W' → PassesOwn (model X.prog X.w) X.A X.env xe → RSs (X.tr pn xe) W' p ρ c body (.ex C fs c1))
    (hh : ClsOk X (h0 :: hs) l) {cv : Value} (pk : Picks X.K (.ref C) l ⟨cv, some i, tsD X.K W p ρ.length C fs c1 (some i) (.rt d nw c2)⟩) : RS X W p ρ c (.Try body (h0 :: hs) [] [] pos) (.rt d nw c2) :=
  ps_imp (ps_tryCl (tb := fun W' => tSt X.K W' p ρ c (.ex C fs c1)) hst hfr hN tk hb hh) fun De σ H h => ⟨h.1, fun ρ' dx fv σ1 H1 e1 s1 hl hx hf => wCl_of pk fun a na =>
    ⟨rfl, dx, rfl, (s1.blank hl).set i (.exn hx hf), fun v H2 e2 p2 dv hn => h.2 v H2 (e1.trans e2) p2 dv fun q => (hn q).back e1⟩⟩
/-- the suites of the clauses: one that is never come to -/
theorem cl_no {x n : Str} {cv : Value} {i : Nat} {b0 : Stmt} {su : List Stmt} {np hp : Pos} (nm : Names X x cv) (hi : X.N[i]? = some n) (hl : X.env.kindOf n = some .local) (r : ClsOk X hs l) :
    ClsOk X (.ExceptHandler (some (.Name x np)) (some n) (b0 :: su) hp :: hs) (⟨cv, some i, fun _ _ _ => tNever⟩ :: l) := .named nm hi hl (fun _ _ _ _ _ _ _ => pss_never) r
theorem cl_no0 {x : Str} {cv : Value} {b0 : Stmt} {su : List Stmt} {np hp : Pos} (nm : Names X x cv) (r : ClsOk X hs l) :
    ClsOk X (.ExceptHandler (some (.Name x np)) none (b0 :: su) hp :: hs) (⟨cv, none, fun _ _ _ => tNever⟩ :: l) := .bare nm (fun _ _ _ _ _ _ _ => pss_never) r
theorem cl_yes {x n : Str} {cv : Value} {i m : Nat} {b0 : Stmt} {su : List Stmt} {np hp : Pos} (nm : Names X x cv) (hi : X.N[i]? = some n) (hl : X.env.kindOf n = some .local)
    (run : ∀ (a dx : Addr) (oe : Obj) (pn : List (Addr × Obj)), Zc (.ref C) (some dx) oe → (∃ vs, oe.data = .fields vs) → RSs (X.suite a ((a, oe) :: pn)) W p ((blank m).set i (some (.exn a dx fs))) c1 (b0 :: su) o) (r : ClsOk X hs l) :
    ClsOk X (.ExceptHandler (some (.Name x np)) (some n) (b0 :: su) hp :: hs) (⟨cv, some i, tsD X.K W p m C fs c1 (some i) o⟩ :: l) :=
  .named nm hi hl (fun a oe cls dd pn z f => ⟨fun pins s σ H De I ⟨h1, dx, h2, h3⟩ => by
    subst h1 h2
    exact (run a dx oe pn z f).run pins s σ H De I h3⟩) r
end
/-! ### a new list that is changed: the rest of a block with it out of sight -/
def scB (d : D) : Bool := (scD d).isSome
theorem scB_ref {K : PySem.W.Frag} {p : HD} {H : Hp} {a : Addr} {d : D} (h : DV K p H (.ref a) d) (e : scB d = true) : False := by
  cases h <;> cases e
inductive LowR (n : Nat) : Rho → Prop
  | nil : LowR n []
  | non {r : Rho} : LowR n r → LowR n (none :: r)
  | one {d : D} {r : Rho} : lowD n d = true → LowR n r → LowR n (some d :: r)
theorem LowR.get {n : Nat} : ∀ {r : Rho}, LowR n r → ∀ (i : Nat) (d : D), r[i]? = some (some d) → lowD n d = true
  | _, .nil, _, _, h => by simp at h
  | _, .non _, 0, _, h => by cases h
  | _, .one h _, 0, _, z => by
    cases Option.some.inj (Option.some.inj z)
    exact h
  | _, .non h, i + 1, d, z => LowR.get h i d z
  | _, .one _ h, i + 1, d, z => LowR.get h i d z
/-- an outcome within, and without -/
inductive Outs (n : Nat) : SO → SO → Prop
  | nx {ρ : Rho} {c c' : PC} : LowR n ρ → c.take n = c' → Outs n (.nx ρ c) (.nx ρ c')
  | rt {d : D} {nw : Bool} {c c' : PC} : lowD n d = true → c.take n = c' → Outs n (.rt d nw c) (.rt d nw c')
  | ex {C : Addr} {fs : List (Str × D)} {c c' : PC} : lowDf n fs = true → c.take n = c' → Outs n (.ex C fs c) (.ex C fs c')
section
variable {K : PySem.W.Frag} {p : HD} {H H1 H2 : Hp} {a : Addr} {c c1 : PC}
theorem mut_at {i : Nat} {b : Addr} (h : p.m[i]? = some b) : (p.mut a).m[i]? = some b := by
  show (p.m ++ [a])[i]? = some b
  rw [List.getElem?_append_left (List.getElem?_eq_some_iff.mp h).1]
  exact h
theorem at_mut {i : Nat} {b : Addr} (l : i < p.m.length) (h : (p.mut a).m[i]? = some b) : p.m[i]? = some b := by
  have h : (p.m ++ [a])[i]? = some b := h
  rw [List.getElem?_append_left l] at h
  exact h
theorem mut_hid {b : Addr} : (p.mut a).hid b ↔ p.hid b ∨ b = a := by
  show b ∈ p.m ++ [a] ∨ b ∈ p.z ↔ (b ∈ p.m ∨ b ∈ p.z) ∨ b = a
  rw [List.mem_append, List.mem_singleton]
  constructor
  · rintro ((h | h) | h)
    · exact .inl (.inl h)
    · exact .inr h
    · exact .inl (.inr h)
  · rintro ((h | h) | h)
    · exact .inl (.inl h)
    · exact .inr h
    · exact .inl (.inr h)
theorem sub_mut : Sub (hide (p.mut a) H) (hide p H) := fun b o h => by
  obtain ⟨h1, h2⟩ := hide_some h
  rw [hide_ne (fun z => h2 (mut_hid.mpr (.inl z)))]
  exact h1
theorem also_mut : Sub (hide (p.also a) H) (hide (p.mut a) H) := fun b o h => by
  obtain ⟨h1, h2⟩ := hide_some h
  rw [hide_ne (show ¬ (p.mut a).hid b from fun z => h2 ((mut_hid.mp z).elim (fun q => q.elim .inl fun q => .inr (List.mem_cons_of_mem _ q)) fun q => .inr (by rw [q]; exact List.mem_cons_self)))]
  exact h1
theorem sub_new (n : H a = none) (e : Ext p H H1) : Sub (hide p H) (hide (p.mut a) H1) := fun b o h => by
  obtain ⟨h1, h2⟩ := hide_some h
  rw [hide_ne (fun z => (mut_hid.mp z).elim h2 fun q => by rw [q, n] at h1; cases h1)]
  exact e b o (fun z => h2 (.inl z)) h1
/-- in -/
theorem PoolAt.in' {x : Cell} (h : PoolAt K (p.also a) H c) (nm : a ∉ p.m) (hx : CellAt K (p.mut a) H a x) : PoolAt K (p.mut a) H (c ++ [x]) := by
  have hl : p.m.length = c.length := h.1.2.1
  refine ⟨⟨?_, ?_, fun i b y hi hy => ?_⟩, fun b m => h.2 b (List.mem_cons_of_mem _ m)⟩
  · show (p.m ++ [a]).Nodup
    rw [List.nodup_append]
    refine ⟨h.1.1, by simp, fun x hx y hy => ?_⟩
    rw [List.mem_singleton.mp hy]
    exact fun z => nm (by rw [← z]; exact hx)
  · show (p.m ++ [a]).length = (c ++ [x]).length
    rw [List.length_append, List.length_append, hl]
    rfl
  · by_cases l : i < p.m.length
    · rw [List.getElem?_append_left (by rw [← hl]; exact l)] at hy
      exact (h.1.2.2 i b y (at_mut l hi) hy).sub also_mut rfl
    · have hi' : (p.m ++ [a])[i]? = some b := hi
      rw [List.getElem?_append_right (by omega)] at hi' hy
      have li := (List.getElem?_eq_some_iff.mp hi').1
      have e : i - p.m.length = 0 := by
        have : i - p.m.length < 1 := li
        omega
      rw [e] at hi'
      rw [show i - c.length = 0 by omega] at hy
      cases hi'
      cases hy
      exact hx
/-- out -/
theorem PoolAt.out (h : PoolAt K (p.mut a) H c) : PoolAt K p H (c.take p.m.length) := by
  have hl : (p.m ++ [a]).length = c.length := h.1.2.1
  rw [List.length_append] at hl
  have hl : p.m.length + 1 = c.length := hl
  refine ⟨⟨?_, ?_, fun i b y hi hy => ?_⟩, fun b m => h.2 b m⟩
  · have q : (p.m ++ [a]).Nodup := h.1.1
    exact (List.nodup_append.mp q).1
  · rw [List.length_take]
    omega
  · have l := (List.getElem?_eq_some_iff.mp hi).1
    rw [List.getElem?_take_of_lt l] at hy
    exact (h.1.2.2 i b y (mut_at hi) hy).sub sub_mut rfl
theorem also_out {b : Addr} (h : PoolAt K ((p.mut a).also b) H c) : PoolAt K (p.also b) H (c.take p.m.length) := PoolAt.out (p := p.also b) (a := a) h
theorem SR.out {σ : L2.St} {ρ : Rho} {n : Nat} (s : SR K (p.mut a) H σ ρ c) (hn : p.m.length = n) (l : LowR n ρ) : SR K p H σ ρ (c.take n) :=
  ⟨s.len, fun i d h => by
    obtain ⟨v, h1, h2⟩ := s.at' i d h
    exact ⟨v, h1, h2.low sub_mut (fun i b li hi => at_mut (by rw [hn]; exact li) hi) (l.get i d h)⟩, by rw [← hn]; exact s.pl.out⟩
theorem sub_also_mut {b : Addr} : Sub (hide ((p.mut a).also b) H) (hide (p.also b) H) := fun x o h => by
  obtain ⟨h1, h2⟩ := hide_some h
  rw [hide_ne (show ¬ (p.also b).hid x from fun z => h2 (z.elim (fun q => .inl (List.mem_append.mpr (.inl q))) .inr))]
  exact h1
theorem New.out {v : V} {d : D} {n : Nat} (hn : p.m.length = n) (l : lowD n d = true) (h : New K (p.mut a) H H1 c v d) : New K p H H1 (c.take n) v d := fun b e => by
  obtain ⟨⟨h1, h2⟩, h3, h4⟩ := h b e
  subst hn
  refine ⟨⟨h1, fun z => h2 (List.mem_append.mpr (.inl z))⟩, also_out h3, fun g ds e' => ?_⟩
  obtain ⟨vs, q1, q2⟩ := h4 g ds e'
  subst e'
  unfold lowD at l
  exact ⟨vs, q1, q2.low (n := p.m.length) sub_also_mut (fun i b li hi => at_mut li hi) l⟩
end
/-! more than one -/
def HD.muts (p : HD) : List Addr → HD
  | [] => p
  | a :: r => (HD.muts p r).mut a
section
variable {K : PySem.W.Frag} {p : HD} {H H1 H2 : Hp} {c c1 : PC}
theorem muts_len : ∀ (as : List Addr), (p.muts as).m.length = p.m.length + as.length
  | [] => rfl
  | a :: r => by
    show ((p.muts r).m ++ [a]).length = _
    rw [List.length_append, muts_len r]
    rfl
theorem muts_mem {b : Addr} : ∀ {as : List Addr}, b ∈ (p.muts as).m → b ∈ p.m ∨ b ∈ as
  | [], h => .inl h
  | a :: r, h => by
    rcases List.mem_append.mp (show b ∈ (p.muts r).m ++ [a] from h) with h | h
    · exact (muts_mem h).elim .inl fun z => .inr (List.mem_cons_of_mem _ z)
    · exact .inr (by rw [List.mem_singleton.mp h]; exact List.mem_cons_self)
theorem sub_muts : ∀ {as : List Addr}, Sub (hide (p.muts as) H) (hide p H)
  | [] => sub_refl _
  | a :: r => Sub.trans sub_mut (sub_muts (as := r))
theorem at_muts {i : Nat} {b : Addr} (l : i < p.m.length) : ∀ {as : List Addr}, (p.muts as).m[i]? = some b → p.m[i]? = some b
  | [], h => h
  | a :: r, h => at_muts l (as := r) (at_mut (by rw [muts_len]; omega) h)
theorem PoolAt.outs : ∀ {as : List Addr} {c : PC}, PoolAt K (p.muts as) H c → PoolAt K p H (c.take p.m.length)
  | [], c, h => by
    have e : c.length ≤ p.m.length := Nat.le_of_eq h.1.2.1.symm
    rw [List.take_of_length_le e]
    exact h
  | a :: r, c, h => by
    have q := PoolAt.outs (as := r) (PoolAt.out (p := p.muts r) h)
    rw [List.take_take, Nat.min_eq_left (by rw [muts_len]; omega)] at q
    exact q
theorem sub_alsos {b : Addr} : ∀ {as : List Addr}, Sub (hide ((p.muts as).also b) H) (hide (p.also b) H)
  | [] => sub_refl _
  | a :: r => Sub.trans (sub_also_mut (p := p.muts r)) (sub_alsos (as := r))
theorem also_outs {b : Addr} : ∀ {as : List Addr} {c : PC}, PoolAt K ((p.muts as).also b) H c → PoolAt K (p.also b) H (c.take p.m.length)
  | [], c, h => by
    have e : c.length ≤ p.m.length := Nat.le_of_eq h.1.2.1.symm
    rw [List.take_of_length_le e]
    exact h
  | a :: r, c, h => by
    have q := also_outs (as := r) (also_out (p := p.muts r) h)
    rw [List.take_take, Nat.min_eq_left (by rw [muts_len]; omega)] at q
    exact q
theorem New.outs {v : V} {d : D} {n : Nat} {as : List Addr} (hn : p.m.length = n) (l : lowD n d = true) (h : New K (p.muts as) H H1 c v d) : New K p H H1 (c.take n) v d := fun b e => by
  obtain ⟨⟨h1, h2⟩, h3, h4⟩ := h b e
  subst hn
  refine ⟨⟨h1, fun z => h2 ?_⟩, also_outs h3, fun g ds e' => ?_⟩
  · have key : ∀ (as : List Addr), b ∈ (p.muts as).m := fun as => by
      induction as with
      | nil => exact z
      | cons a r ih => exact List.mem_append.mpr (.inl ih)
    exact key as
  · obtain ⟨vs, q1, q2⟩ := h4 g ds e'
    subst e'
    unfold lowD at l
    exact ⟨vs, q1, q2.low (n := p.m.length) sub_alsos (fun i b li hi => at_muts (p := p) li hi) l⟩
end
section
variable {X : Cx} {W : WX} {p : HD} {as : List Addr} {ρ ρ1 ρ' : Rho} {c c1 c2 c3 : PC} {e : Expr} {st : Stmt} {sts rest : List Stmt} {pos pos' : Pos} {g : G} {ds ds2 : List D} {so so' : SO} {d : D}
/-- within, with what is wanted without -/
def tSo (K : PySem.W.Frag) (W : WX) (p : HD) (as : List Addr) (ρ : Rho) (c : PC) (so : SO) : TS := fun De σ H => ∃ (H0 : Hp) (σ0 : L2.St) (ρ0 : Rho) (c0 : PC), (∀ a ∈ as, H0 a = none ∧ a ∉ p.m) ∧ Ext p H0 H ∧ tSt K W p ρ0 c0 so De σ0 H0 ∧ ρ.length = ρ0.length ∧ SR K (p.muts as) H σ ρ c
abbrev RSo (X : Cx) (W : WX) (p : HD) (as : List Addr) (ρ : Rho) (c : PC) (sts : List Stmt) (so : SO) : Prop := PSs X sts (tSo X.K W p as ρ c so)
theorem ext_muts {H0 H H1 : Hp} (na : ∀ a ∈ as, H0 a = none ∧ a ∉ p.m) (e1 : Ext p H0 H) (e2 : Ext (p.muts as) H H1) : Ext p H0 H1 := fun b o n q => by
  refine e2 b o (fun z => ?_) (e1 b o n q)
  rcases muts_mem z with z | z
  · exact n z
  · rw [(na b z).1] at q
    cases q
theorem tSo_st {K : PySem.W.Frag} {De : Ends} {σ : L2.St} {H : Hp} (ho : Outs p.m.length so' so) (h : tSo K W p as ρ c so De σ H) : tSt K W (p.muts as) ρ c so' De σ H := by
  obtain ⟨H0, σ0, ρ0, c0, na, e1, h, hl, s⟩ := h
  cases ho with
  | nx hl' hc =>
    subst hc
    exact ⟨s, fun σ' H2 e2 s2 => h.2 σ' H2 (ext_muts na e1 e2) ⟨s2.len, fun i d q => by
      obtain ⟨v, h1, h2⟩ := s2.at' i d q
      exact ⟨v, h1, h2.low sub_muts (fun i b li hi => at_muts li hi) (hl'.get i d q)⟩, s2.pl.outs⟩⟩
  | rt hl' hc =>
    subst hc
    exact ⟨s, fun v H2 e2 p2 dv hw => h.2 v H2 (ext_muts na e1 e2) p2.outs (dv.low sub_muts (fun i b li hi => at_muts li hi) hl') fun q => New.back e1 (New.outs rfl hl' (hw q))⟩
  | ex hl' hc =>
    subst hc
    refine ⟨s, fun ρ2 dx fv σ2 H2 e2 s2 l2 hx hf => ?_⟩
    refine h.2 (List.replicate ρ2.length none) dx fv σ2 H2 (ext_muts na e1 e2) ⟨by rw [List.length_replicate]; exact s2.len, fun i d q => ?_, s2.pl.outs⟩ (by rw [List.length_replicate, l2, hl]) (sub_muts dx _ hx) (hf.low (n := p.m.length) sub_muts (fun i b li hi => at_muts li hi) hl')
    rw [List.getElem?_replicate] at q
    split at q <;> cases q
theorem rso_of (h : RSo X W p [] ρ c sts so) : RSs X W p ρ c sts so := pss_imp h fun De σ H q => ⟨H, σ, ρ, c, (fun _ m => nomatch m), Ext.refl _ _, q, rfl, st_sr q⟩
theorem rso_in (h : RSs X W p ρ c sts so) : RSo X W p [] ρ c sts so := pss_imp h fun De σ H ⟨H0, σ0, ρ0, c0, na, e1, q, hl, s⟩ => by
  cases so with
  | nx ρ' c' => exact ⟨s, fun σ2 H2 e2 s2 => q.2 σ2 H2 (e1.trans e2) s2⟩
  | rt d nw c' => exact ⟨s, fun v H2 e2 p2 dv hn => q.2 v H2 (e1.trans e2) p2 dv fun z => (hn z).back e1⟩
  | ex C fs c' => exact ⟨s, fun ρ' dx fv σ2 H2 e2 s2 hl' hx hf => q.2 ρ' dx fv σ2 H2 (e1.trans e2) s2 (hl'.trans hl) hx hf⟩
/-- the rest within, to its end; c0 of them stand without -/
theorem rso_end (n : Nat) (h : RSs X W (p.muts as) ρ c sts so') (ho : Outs n so' so) (hn : n + as.length = c.length) : RSo X W p as ρ c sts so := pss_imp h fun De σ H q => by
  have e : p.m.length = n := by
    obtain ⟨H0, σ0, ρ0, c0, na, e1, h, hl, s⟩ := q
    have := s.pl.1.2.1
    rw [muts_len] at this
    omega
  exact tSo_st (by rw [e]; exact ho) q
theorem rso_cons (h1 : RS X W (p.muts as) ρ c st (.nx ρ1 c1)) (h2 : RSo X W p as ρ1 c1 rest so) (hl : ρ1.length = ρ.length := by rfl) : RSo X W p as ρ c (st :: rest) so := by
  refine pss_imp (pss_cons h1 h2) fun De σ H ⟨H0, σ0, ρ0, c0, na, e1, h, hl', s⟩ => ⟨s, fun σ1 H1 e2 s1 => ⟨H0, σ0, ρ0, c0, na, ext_muts na e1 e2, h, hl.trans hl', s1⟩⟩
/-- the frame once a new list has been put out of sight -/
theorem SR.in' {a : Addr} {σ : L2.St} {H H1 : Hp} {K : PySem.W.Frag} {i : Nat} (s : SR K p H σ ρ c) (na : H a = none) (nm : a ∉ p.m) (e1 : Ext p H H1) (pa : PoolAt K (p.also a) H1 c1) {vs : List V} (hv : H1 a = some (.lst vs)) (dvs : DVs K (p.also a) H1 vs ds) (hds : lowDs 0 ds = true) :
    SR K (p.mut a) H1 (σ.set i (some (.ref a))) (ρ.set i (some (.mut c1.length))) (c1 ++ [.lst ds]) := by
  have hl : p.m.length = c1.length := pa.1.2.1
  have p1 : PoolAt K (p.mut a) H1 (c1 ++ [.lst ds]) := pa.in' nm ⟨vs, hv, dvs.low (n := 0) (fun b o y => by rw [hide_flat]; exact also_mut b o y) (fun i b li _ => absurd li (Nat.not_lt_zero _)) hds⟩
  refine SR.set ⟨s.len, fun j d q => ?_, p1⟩ i (.mut ?_)
  · obtain ⟨x, q1, q2⟩ := s.at' j d q
    exact ⟨x, q1, q2.sub (sub_new na e1) fun i b hi => mut_at hi⟩
  · show (p.m ++ [a])[c1.length]? = some a
    rw [← hl, List.getElem?_append_right (Nat.le_refl _)]
    simp
/-- a name becomes a new object -/
def tN (K : PySem.W.Frag) (p : HD) (ρ : Rho) (c : PC) (i : Nat) (d : D) (c1 : PC) : TS := fun De σ H => SR K p H σ ρ c ∧ ∀ v H', Ext p H H' → PoolAt K p H' c1 → DV K p H' v d → New K p H H' c1 v d → De.nx (σ.set i (some v)) H'
abbrev RN (X : Cx) (p : HD) (ρ : Rho) (c : PC) (st : Stmt) (i : Nat) (d : D) (c1 : PC) : Prop := PS X st (tN X.K p ρ c i d c1)
theorem rn_set (i : Nat) {x : Str} (hN : X.N.Nodup) (h : RE X W p ρ c e (.val d true c1))
    (hi : X.N[i]? = some x := by rfl) (hx : Loc X.env.scope x := by first | exact Or.inl rfl | exact Or.inr rfl) (hs : swapsWith e (some (.Name x pos')) pos.line X.env = pure false := by rfl)
    (hf : X.fn x = true ∨ X.env.scope.names.lookup x = some .local := by first | exact .inl rfl | exact .inr rfl) : RN X p ρ c (.Assign [.Name x pos'] e pos) i d c1 :=
  ps_imp (ps_set hN hi hx h hs hf) fun De σ H ⟨s, k⟩ => ⟨s, fun v H1 e1 p1 dv hn => k v H1 e1 p1 dv (hn rfl)⟩
/-- x = a new list, out of sight from then on -/
theorem rso_new (i : Nat) (h : RN X (p.muts as) ρ c st i (.lst g ds) c1) (hds : lowDs 0 ds = true)
    (hr : ∀ a, RSo X W p (a :: as) (ρ.set i (some (.mut c1.length))) (c1 ++ [.lst ds]) rest so) : RSo X W p as ρ c (st :: rest) so := by
  have PU : PSs X rest (fun De σ H => ∃ a, tSo X.K W p (a :: as) (ρ.set i (some (.mut c1.length))) (c1 ++ [.lst ds]) so De σ H) := ⟨fun pins s σ H De I ⟨a, h2⟩ => (hr a).run pins s σ H De I h2⟩
  refine pss_imp (pss_cons h PU) fun De σ H ⟨H0, σ0, ρ0, c0, na, e1, q, hl, s⟩ => ⟨s, fun v H1 e2 p1 dv hn => ?_⟩
  cases dv with
  | @lst a vs _ _ hb hq r =>
    obtain ⟨⟨nA, nm⟩, pa, hc⟩ := hn a rfl
    obtain ⟨vs', hv, dvs⟩ := hc _ _ rfl
    have n0 : H0 a = none ∧ a ∉ p.m := by
      have nmp : a ∉ p.m := fun z => nm (by
        have key : ∀ (as : List Addr), a ∈ (p.muts as).m := fun as => by
          induction as with
          | nil => exact z
          | cons b r ih => exact List.mem_append.mpr (.inl ih)
        exact key as)
      refine ⟨?_, nmp⟩
      cases q0 : H0 a with
      | none => rfl
      | some o =>
        rw [e1 a o nmp q0] at nA
        cases nA
    exact ⟨a, H0, σ0, ρ0, c0, fun b m => (List.mem_cons.mp m).elim (fun z => by rw [z]; exact n0) (na b), ext_muts na e1 e2, q, by rw [List.length_set]; exact hl, s.in' nA nm e2 pa hv dvs hds⟩
/-- it comes into sight again -/
theorem rso_frz (i : Nat) {a : Addr} (h : RSo X W p as (ρ.set i (some (.lst ⟨false, true⟩ ds))) c rest so) (hi : ρ[i]? = some (some (.mut c.length))) (hlow : LowR c.length (ρ.set i none)) : RSo X W p (a :: as) ρ (c ++ [.lst ds]) rest so := by
  refine pss_imp h fun De σ H ⟨H0, σ0, ρ0, c0, na, e1, q, hl, s⟩ => ⟨H0, σ0, ρ0, c0, fun b m => na b (List.mem_cons_of_mem _ m), e1, q, by rw [List.length_set]; exact hl, ?_⟩
  have hn : (p.muts as).m.length = c.length := by
    have := s.pl.1.2.1
    rw [List.length_append] at this
    have e : ((p.muts as).m ++ [a]).length = c.length + 1 := this
    rw [List.length_append] at e
    exact Nat.succ.inj e
  have hnm : (p.muts as).m.length = c.length := hn
  have po : PoolAt X.K (p.muts as) H c := by
    have z := PoolAt.out (p := p.muts as) s.pl
    rw [hn, List.take_left'] at z
    · exact z
    · rfl
  have ha : ((p.muts as).m ++ [a])[c.length]? = some a := by
    rw [← hn, List.getElem?_append_right (Nat.le_refl _)]
    simp
  have nda : a ∉ (p.muts as).m := fun z => by
    have nd : ((p.muts as).m ++ [a]).Nodup := s.pl.1.1
    exact (List.nodup_append.mp nd).2.2 a z a (List.mem_singleton.mpr rfl) rfl
  obtain ⟨vs, hv, dvs⟩ : CellAt X.K ((p.muts as).mut a) H a (.lst ds) := s.pl.1.2.2 c.length a (.lst ds) ha (by simp)
  have vis : hide (p.muts as) H a = some (.lst vs) := by
    rw [hide_ne]
    · exact hv
    · rintro (z | z)
      · exact nda z
      · have zz : ∀ (as : List Addr), (p.muts as).z = p.z := fun as => by
          induction as with
          | nil => rfl
          | cons b r ih => exact ih
        rw [zz as] at z
        obtain ⟨o, ho⟩ := (st_sr q).pl.2 a z
        rw [(na a List.mem_cons_self).1] at ho
        cases ho
  refine ⟨?_, fun j d q => ?_, po⟩
  · rw [List.length_set]
    exact s.len
  · by_cases e : i = j
    · subst e
      have lt : i < ρ.length := (List.getElem?_eq_some_iff.mp hi).1
      rw [List.getElem?_set_self lt] at q
      cases q
      obtain ⟨v, h1, h2⟩ := s.at' i _ hi
      refine ⟨v, h1, ?_⟩
      generalize hm : D.mut c.length = dm at h2
      cases h2 <;> cases hm
      rename_i b hb
      have eb : b = a := by
        have hb' : ((p.muts as).m ++ [a])[c.length]? = some b := hb
        rw [ha] at hb'
        exact (Option.some.inj hb').symm
      subst eb
      exact .lst ⟨(fun z => nomatch z), fun _ => vis⟩ (.inl (.inl vis)) (dvs.sub (fun b o y => by rw [hide_flat] at y; exact sub_mut b o y) fun i b z => by simp [HD.flat] at z)
    · have q' := q
      rw [List.getElem?_set_ne e] at q
      obtain ⟨v, h1, h2⟩ := s.at' j d q
      exact ⟨v, h1, h2.low (n := c.length) sub_mut (fun i b li hi => at_mut (by rw [hn]; exact li) hi) (hlow.get j d (by rw [List.getElem?_set_ne e]; exact q))⟩
/-- it is forgotten -/
theorem rso_drop {a : Addr} {x : Cell} (h : RSo X W p as ρ' c rest so) (hw : ∀ (i : Nat) (d : D), ρ'[i]? = some (some d) → ρ[i]? = some (some d)) (hl' : ρ'.length = ρ.length) (hlow : LowR c.length ρ') : RSo X W p (a :: as) ρ (c ++ [x]) rest so := by
  refine pss_imp h fun De σ H ⟨H0, σ0, ρ0, c0, na, e1, q, hl, s⟩ => ⟨H0, σ0, ρ0, c0, fun b m => na b (List.mem_cons_of_mem _ m), e1, q, by rw [hl']; exact hl, ?_⟩
  have hn : (p.muts as).m.length = c.length := by
    have := s.pl.1.2.1
    rw [List.length_append] at this
    have e : ((p.muts as).m ++ [a]).length = c.length + 1 := this
    rw [List.length_append] at e
    exact Nat.succ.inj e
  have po : PoolAt X.K (p.muts as) H c := by
    have z := PoolAt.out (p := p.muts as) s.pl
    rw [hn, List.take_left'] at z
    · exact z
    · rfl
  refine ⟨by rw [hl']; exact s.len, fun j d q => ?_, po⟩
  obtain ⟨v, h1, h2⟩ := s.at' j d (hw j d q)
  exact ⟨v, h1, h2.low (n := c.length) sub_mut (fun i b li hi => at_mut (by rw [hn]; exact li) hi) (hlow.get j d q)⟩
end
end LA

namespace LA
open PySem PySem.Spec PyProof.Rows L2
section
variable {X : Cx} {W : WX} {p : HD} {ρ : Rho} {c c1 c2 : PC} {e ei : Expr} {pos xp jp sp apos cpos : Pos} {d : D} {nw nw2 : Bool} {K : PySem.W.Frag} {x : Str} {k : Nat} {ds : List D}
/-! ### changing lists read and written -/
theorem DV.unflat {H : Hp} {v : V} {d : D} (h : DV K p.flat H v d) : DV K p H v d := h.sub (fun b o y => by rw [hide_flat] at y; exact y) fun i b z => by simp [HD.flat] at z
theorem DVs.unflat {H : Hp} {v : List V} {d : List D} (h : DVs K p.flat H v d) : DVs K p H v d := h.sub (fun b o y => by rw [hide_flat] at y; exact y) fun i b z => by simp [HD.flat] at z
theorem DV.flat {H : Hp} {v : V} {d : D} (h : DV K p H v d) (l : lowD 0 d = true) : DV K p.flat H v d := h.low (fun b o y => by rw [hide_flat]; exact y) (fun i b li _ => absurd li (Nat.not_lt_zero _)) l
theorem DVs.flat {H : Hp} {v : List V} {d : List D} (h : DVs K p H v d) (l : lowDs 0 d = true) : DVs K p.flat H v d := h.low (fun b o y => by rw [hide_flat]; exact y) (fun i b li _ => absurd li (Nat.not_lt_zero _)) l
theorem mut_lst {H : Hp} {v : V} (h : DV K p H v (.mut k)) (hp : PoolAt K p H c) (hc : c[k]? = some (.lst ds)) : ∃ a vs, v = .ref a ∧ p.m[k]? = some a ∧ H a = some (.lst vs) ∧ DVs K p.flat H vs ds := by
  cases h with
  | «mut» ha =>
    obtain ⟨vs, h1, h2⟩ := hp.1.2.2 k _ _ ha hc
    exact ⟨_, vs, rfl, ha, h1, h2⟩
theorem DVs.set {q : HD} {H : Hp} {v : V} {d : D} (h : DV K q H v d) : ∀ {us : List V} {ds : List D} {j : Nat}, DVs K q H us ds → DVs K q H (us.set j v) (ds.set j d)
  | _, _, _, .nil => .nil
  | _, _, 0, .cons _ r => .cons h r
  | _, _, j + 1, .cons h' r => .cons h' (DVs.set h (j := j) r)
theorem ov_ixM {i : Int} {j : Nat} (hc : c[k]? = some (.lst ds)) (e : i = (j : Int)) (h : ds[j]? = some d) : OV K p (rIx K) (.mut k) (.int i) d false c := fun v u H Q dv du hp kk => by
  obtain ⟨a, vs, rfl, _, hv, dvs⟩ := mut_lst dv hp hc
  cases du
  obtain ⟨w, h1, h2⟩ := dvs_atI dvs e h
  exact .inl ⟨_, vs, _, w, rfl, rfl, .inl (.inl hv), h1, kk w H (Ext.refl p H) hp h2.unflat fun q => nomatch q⟩
/-- x[j], written -/
theorem re_mix (i k j : Nat) {n : Nat} (hc : c[k]? = some (.lst ds)) (h : ds[j]? = some d) (hρ : ρ[i]? = some (some (.mut k)) := by rfl) (hN : X.N[i]? = some x := by rfl) (hv : Vis X.env.scope x := by first | exact Or.inl rfl | exact Or.inr (Or.inl rfl) | exact Or.inr (Or.inr rfl))
    (hd : (x == ("__debug__" : Str)) = false := by decide) (hcd : (x == ("__classdict__" : Str)) = false := by decide) : RE X W p ρ c (.Subscript (.Name x xp) (.Constant (.int (j : Nat)) n jp) sp) (.val d false c) :=
  re_ix ix_seq (re_var i hN hρ hv hd hcd) re_int (ov_ixM hc rfl h)
theorem ext_upd {H : Hp} {a : Addr} {o : HO} (m : a ∈ p.m) : Ext p H (upd H a o) := fun b u n y => by
  rw [upd_ne (fun z => n (by rw [z]; exact m))]
  exact y
theorem upd_msub {H : Hp} {a : Addr} {o : HO} (m : a ∈ p.m) : Sub (hide p H) (hide p (upd H a o)) := (ext_upd m).hide
/-- x[idx] = e -/
theorem rs_mst (i k j : Nat) (he : RE X W p ρ c e (.val d nw c1)) (hi : RE X W p ρ c1 ei (.val (.int (j : Nat)) nw2 c2)) (hc : c2[k]? = some (.lst ds)) (hj : j < ds.length) (hl : lowD 0 d = true) (hρ : ρ[i]? = some (some (.mut k)) := by rfl) (hN : X.N[i]? = some x := by rfl) (hv : Vis X.env.scope x := by first | exact Or.inl rfl | exact Or.inr (Or.inl rfl) | exact Or.inr (Or.inr rfl))
    (hd : (x == ("__debug__" : Str)) = false := by decide) (hcd : (x == ("__classdict__" : Str)) = false := by decide)
    (hs : swapsWithSole [.Subscript (.Name x xp) ei sp] e pos.line X.env = pure false := by rfl) (hw : swappedStores [.Subscript (.Name x xp) ei sp] e X.env = pure none := by rfl)
    (h1 : (assignEach [.Subscript (.Name x xp) ei sp] X.env).map (·.2) = [assign (.Subscript (.Name x xp) ei sp) X.env] := by rfl)
    (ha : ∀ v, assign (.Subscript (.Name x xp) ei sp) X.env v = (do
      let ov ← holding [v] (eval (.Name x xp) X.env)
      let iv ← holding [v, ov] (eval ei X.env)
      standAt sp
      holding [v, ov, iv] (setItem ov iv v)
      release [v, ov, iv] []) := by intro _; rfl) :
    RS X W p ρ c (.Assign [.Subscript (.Name x xp) ei sp] e pos) (.nx ρ (c2.set k (.lst (ds.set j d)))) :=
  ps_imp (ps_asg he (pg_sub (pe_var hN hv hd hcd) hi set_list ha) hs hw h1) fun De σ H h => ⟨h.1, fun v H1 e1 p1 dv _ => by
    have s1 := h.1.mono e1 p1
    obtain ⟨o, q1, q2⟩ := s1.at' i _ hρ
    refine ⟨o, q1, s1, fun w H2 e2 p2 dw _ => ?_⟩
    cases dw
    obtain ⟨a, vs, rfl, ha, hv', dvs⟩ := mut_lst (q2.mono e2) p2 hc
    have m : a ∈ p.m := List.mem_of_getElem? ha
    refine ⟨a, vs, (j : Nat), j, rfl, rfl, hv', ?_, ?_⟩
    · unfold ixN
      have : j < vs.length := by rw [dvs.length]; exact hj
      simp [this]
    · refine h.2 σ _ ((e1.trans e2).trans (ext_upd m)) ((s1.mono e2 p2).mono (ext_upd m) (p2.put ha ⟨_, upd_same, ?_⟩))
      have sb : Sub (hide p.flat H2) (hide p.flat (upd H2 a (.lst (vs.set j v)))) := by
        rw [hide_flat, hide_flat]
        exact upd_msub m
      exact DVs.set (((dv.mono e2).flat hl).sub sb fun _ _ z => z) (dvs.sub sb fun _ _ z => z)⟩
theorem re_old (h : RE X W p ρ c e (.val d nw c1)) : RE X W p ρ c e (.val d false c1) := pe_imp h fun σ H Q ⟨s, k⟩ => ⟨s, fun v H1 e1 p1 dv _ => k v H1 e1 p1 dv fun z => nomatch z⟩
/-! ### len of a list -/
theorem cv_lenL {g : G} {ds : List D} : CV K p (fun xs H Q => ∃ x n, xs = [x] ∧ LenV K x H n ∧ Q (.int n) H) [.lst g ds] (.int (ds.length : Nat)) true c := fun vs H Q dvs hp k => by
  cases dvs with
  | cons h r =>
    cases r
    cases h with
    | lst _ hq ha =>
      refine ⟨_, ds.length, rfl, .inl ⟨_, un_sqL hq, ha.length.symm⟩, k _ H (Ext.refl p H) hp (.int _) fun _ => New.sc (by intro a h; cases h)⟩
theorem cv_lenM (hc : c[k]? = some (.lst ds)) : CV K p (fun xs H Q => ∃ x n, xs = [x] ∧ LenV K x H n ∧ Q (.int n) H) [.mut k] (.int (ds.length : Nat)) true c := fun vs H Q dvs hp kk => by
  cases dvs with
  | cons h r =>
    cases r
    obtain ⟨a, us, rfl, _, hv, du⟩ := mut_lst h hp hc
    exact ⟨_, ds.length, rfl, .inl ⟨_, .inl (.inl hv), du.length.symm⟩, kk _ H (Ext.refl p H) hp (.int _) fun _ => New.sc (by intro a h; cases h)⟩
/-- x.append(e) -/
theorem rs_app (i k : Nat) (he : RE X W p ρ c e (.val d nw c1)) (hc0 : ∃ ds0, c[k]? = some (.lst ds0)) (hc : c1[k]? = some (.lst ds)) (hz : ds.length < 100000) (hl : lowD 0 d = true) (hρ : ρ[i]? = some (some (.mut k)) := by rfl) (hN : X.N[i]? = some x := by rfl) (hv : Vis X.env.scope x := by first | exact Or.inl rfl | exact Or.inr (Or.inl rfl) | exact Or.inr (Or.inr rfl))
    (hd : (x == ("__debug__" : Str)) = false := by decide) (hcd : (x == ("__classdict__" : Str)) = false := by decide) (hline : (apos.endLine == cpos.line) = true := by rfl) (hsw : swapsWith (.Call (.Attribute (.Name x xp) "append" apos) [e] [] cpos) none pos.line X.env = pure false := by rfl)
    (hbase : attributeBase (.Name x xp) "append" X.env (eval (.Name x xp) X.env) = eval (.Name x xp) X.env := by rfl) (hst : starEach [e] X.env = (false, eval e X.env) :: starEach [] X.env := by rfl)
    (hfew : ((backTo cpos (starEach [e] X.env)).all (fun x => !x.1) && (backToKw cpos (keywordEach [] X.env)).all (fun x => x.1.isSome)
      && decide (([e] : List Expr).length + ([] : List Keyword).length + (if ([] : List Keyword).isEmpty then 0 else 1) < 30)) = true := by rfl) :
    RS X W p ρ c (.Expr (.Call (.Attribute (.Name x xp) "append" apos) [e] [] cpos) pos) (.nx ρ (c1.set k (.lst (ds ++ [d])))) := by
  have PB := pe_bm (cpos := cpos) (apos := apos) PySem.F.plainAttrs_list PySem.F.slot_list_append PySem.F.type_list_append mt_append (pe_var (pos := xp) hN hv hd hcd) (pa_cons he (pa_nil (X := X)) hst) hbase hfew hline hst
  refine ps_imp (ps_expr PB hsw) fun De σ H h => ?_
  obtain ⟨o, q1, q2⟩ := h.1.at' i _ hρ
  obtain ⟨ds0, hc0⟩ := hc0
  obtain ⟨a, vs0, rfl, ha, hv0, _⟩ := mut_lst q2 h.1.pl hc0
  have m : a ∈ p.m := List.mem_of_getElem? ha
  refine ⟨_, q1, .inl ⟨rfl, _, .inl (.inl hv0)⟩, h.1, fun v H1 e1 p1 dv _ => ?_⟩
  obtain ⟨b, vs, eb, hb, hv1, dvs⟩ := mut_lst (q2.mono e1) p1 hc
  cases eb
  refine ⟨a, vs, v, rfl, rfl, hv1, by rw [dvs.length]; exact sz_lt hz, ?_⟩
  have sb : Sub (hide p.flat H1) (hide p.flat (upd H1 a (.lst (vs ++ [v])))) := by
    rw [hide_flat, hide_flat]
    exact upd_msub m
  exact h.2 σ _ (e1.trans (ext_upd m)) ((h.1.mono e1 p1).mono (ext_upd m) (p1.put ha ⟨_, upd_same, DVs.app (dvs.sub sb fun _ _ z => z) (.cons ((dv.flat hl).sub sb fun _ _ z => z) .nil)⟩))
theorem dvs_erase {q : HD} {H : Hp} : ∀ {us : List V} {es : List D} (j : Nat), DVs K q H us es → DVs K q H (us.eraseIdx j) (es.eraseIdx j)
  | _, _, _, .nil => .nil
  | _, _, 0, .cons _ r => r
  | _, _, j + 1, .cons h r => .cons h (dvs_erase j r)
/-- x.pop(e) -/
theorem re_pop (i k j : Nat) (he : RE X W p ρ c e (.val (.int (j : Nat)) nw c1)) (hc0 : ∃ ds0, c[k]? = some (.lst ds0)) (hc : c1[k]? = some (.lst ds)) (hj : ds[j]? = some d) (hz : ds.length < 100000) (hρ : ρ[i]? = some (some (.mut k)) := by rfl) (hN : X.N[i]? = some x := by rfl) (hv : Vis X.env.scope x := by first | exact Or.inl rfl | exact Or.inr (Or.inl rfl) | exact Or.inr (Or.inr rfl))
    (hd : (x == ("__debug__" : Str)) = false := by decide) (hcd : (x == ("__classdict__" : Str)) = false := by decide) (hline : (apos.endLine == cpos.line) = true := by rfl)
    (hbase : attributeBase (.Name x xp) "pop" X.env (eval (.Name x xp) X.env) = eval (.Name x xp) X.env := by rfl) (hst : starEach [e] X.env = (false, eval e X.env) :: starEach [] X.env := by rfl)
    (hfew : ((backTo cpos (starEach [e] X.env)).all (fun x => !x.1) && (backToKw cpos (keywordEach [] X.env)).all (fun x => x.1.isSome)
      && decide (([e] : List Expr).length + ([] : List Keyword).length + (if ([] : List Keyword).isEmpty then 0 else 1) < 30)) = true := by rfl) :
    RE X W p ρ c (.Call (.Attribute (.Name x xp) "pop" apos) [e] [] cpos) (.val d false (c1.set k (.lst (ds.eraseIdx j)))) := by
  have PB := pe_bm (cpos := cpos) (apos := apos) PySem.F.plainAttrs_list PySem.F.slot_list_pop PySem.F.type_list_pop mt_popAt (pe_var (pos := xp) hN hv hd hcd) (pa_cons he (pa_nil (X := X)) hst) hbase hfew hline hst
  refine pe_imp PB fun σ H Q h => ?_
  obtain ⟨o, q1, q2⟩ := h.1.at' i _ hρ
  obtain ⟨ds0, hc0⟩ := hc0
  obtain ⟨a, vs0, rfl, ha, hv0, _⟩ := mut_lst q2 h.1.pl hc0
  have m : a ∈ p.m := List.mem_of_getElem? ha
  refine ⟨_, q1, .inl ⟨rfl, _, .inl (.inl hv0)⟩, h.1, fun v H1 e1 p1 dv _ => ?_⟩
  cases dv
  obtain ⟨b, vs, eb, hb, hv1, dvs⟩ := mut_lst (q2.mono e1) p1 hc
  cases eb
  obtain ⟨w, hw, dw⟩ := dvs.get hj
  have lj : j < ds.length := (List.getElem?_eq_some_iff.mp hj).1
  refine ⟨a, vs, (j : Nat), j, w, rfl, rfl, hv1, by omega, by omega, ?_, hw, ?_⟩
  · unfold seqIndex?
    have : j < vs.length := by rw [dvs.length]; exact lj
    simp [this]
    try omega
  · have sb : Sub (hide p.flat H1) (hide p.flat (upd H1 a (.lst (vs.eraseIdx j)))) := by
      rw [hide_flat, hide_flat]
      exact upd_msub m
    exact h.2 w _ (e1.trans (ext_upd m)) (p1.put ha ⟨_, upd_same, (dvs_erase j dvs).sub sb fun _ _ z => z⟩) (dw.sub sb fun _ _ z => z).unflat fun q => nomatch q
end
end LA

namespace LA
open PySem PySem.Spec PyProof.Rows L2
/-! ### texts by their signs -/
def tx (l : List Nat) : Str := ⟨l.toArray⟩
theorem tx_list (l : List Nat) : (tx l).cps.toList = l := by unfold tx; simp
theorem tx_len (l : List Nat) : (tx l).length = l.length := by
  show (tx l).cps.size = _
  unfold tx
  simp
theorem str_tx (s : Str) : ∃ l, s = tx l := ⟨s.cps.toList, by unfold tx; simp⟩
def chr1 (n : Nat) : Str := ⟨#[n]⟩
theorem chars_tx (l : List Nat) : chars (tx l) = l.map fun n => D.str (chr1 n) := by
  unfold chars
  rw [tx_list]
  rfl
theorem tx_app (a b : List Nat) : tx a ++ tx b = tx (a ++ b) := by
  show (⟨(tx a).cps ++ (tx b).cps⟩ : Str) = _
  unfold tx
  simp
theorem tx_inj {a b : List Nat} (h : tx a = tx b) : a = b := by rw [← tx_list a, ← tx_list b, h]
theorem join_nil : ∀ l : List Nat, Txt.join (Str.ofString "") (l.map chr1) = tx l := by
  intro l
  unfold Txt.join
  rw [StrLaws.glued_eq_join]
  have e0 : (Str.ofString "") = tx [] := by decide
  rw [e0]
  induction l with
  | nil => rfl
  | cons a r ih =>
    cases r with
    | nil => rfl
    | cons b r =>
      show chr1 a ++ tx [] ++ Str.join (tx []) ((b :: r).map chr1) = _
      rw [ih]
      show tx [a] ++ tx [] ++ tx (b :: r) = _
      rw [tx_app, tx_app]
      rfl
theorem sum_sgn : ∀ l : List Nat, ((l.map chr1).map (·.length)).sum = l.length
  | [] => rfl
  | a :: r => by
    have := sum_sgn r
    simp only [List.map_cons, List.sum_cons, List.length_cons] at this ⊢
    rw [this]
    show 1 + r.length = _
    omega
/-! ### collected lists -/
theorem coll_all (y : Nat → D) : ∀ n, coll (fun _ => true) y n = (List.range n).map y
  | 0 => rfl
  | n + 1 => by
    show coll (fun _ => true) y n ++ (if true then [y n] else []) = _
    rw [coll_all y n, List.range_succ, List.map_append]
    rfl
theorem coll_some (b : Nat → Bool) (y : Nat → D) : ∀ n, coll b y n = ((List.range n).filter b).map y
  | 0 => rfl
  | n + 1 => by
    show coll b y n ++ (if b n then [y n] else []) = _
    rw [coll_some b y n, List.range_succ, List.filter_append, List.map_append]
    cases h : b n <;> simp [h]
section
variable {X : Cx} {W : WX} {p : HD} {ρ : Rho} {c c1 c2 c3 : PC} {e a : Expr} {pos : Pos} {d : D} {nw : Bool} {K : PySem.W.Frag}
/-- text * count -/
theorem op_mulS : OpR X (binaryOp .Mult) (fun x y H Q => ∃ z n, x = .str z ∧ y = .int n ∧ MulOk z n ∧ Q (.str (Txt.mul z n)) H) := by
  intro pins s σ H x y v u Q I rx ry h
  obtain ⟨z, n, rfl, rfl, hok, q⟩ := h
  obtain ⟨t, rfl⟩ := rx
  obtain ⟨t', rfl⟩ := ry
  exact SB.mul hok fun t2 k => ⟨.str _, H, I.tok _, ⟨_, rfl⟩, q⟩
theorem ov_mulS {z : Str} {n : Int} (h : MulOk z n) : OV K p (fun x y H Q => ∃ z n, x = .str z ∧ y = .int n ∧ MulOk z n ∧ Q (.str (Txt.mul z n)) H) (.str z) (.int n) (.str (Txt.mul z n)) true c := fun v u H Q dv du hp k => by
  cases dv
  cases du
  exact ⟨z, n, rfl, rfl, h, k _ H (Ext.refl p H) hp (.str _) fun _ => New.sc (by intro a h; cases h)⟩
theorem re_neg {i : Int} (ha : RE X W p ρ c a (.val (.int i) nw c1)) : RE X W p ρ c (.UnaryOp .USub a pos) (.val (.int (-i)) true c1) :=
  pe_imp (pe_un un_neg ha) fun σ H Q ⟨s, k⟩ => ⟨s, fun v H1 e1 p1 dv _ => by
    cases dv
    exact ⟨i, rfl, k _ H1 e1 p1 (.int _) fun _ => New.sc (by intro a h; cases h)⟩⟩
end
end LA
namespace LA
open PySem PySem.Spec PyProof.Rows L2
/-! ### equality of ints and of texts -/
section
variable {p : HD} {c : PC} {K : PySem.W.Frag}
theorem dec_v {α : Type} {a b : α} [DecidableEq α] {f : α → V} (hf : ∀ x y, f x = f y → x = y) : decide (f a = f b) = decide (a = b) := by
  by_cases h : a = b
  · subst h
    simp
  · rw [decide_eq_false h, decide_eq_false fun z => h (hf _ _ z)]
theorem ov_eqI {i j : Int} : OV K p rEq (.int i) (.int j) (.bl (decide (i = j))) true c := by
  have h := ov_eqS (K := K) (p := p) (c := c) (x := .int i) (y := .int j) rfl rfl rfl
  rw [dec_v (f := V.int) fun x y e => by cases e; rfl] at h
  exact h
theorem ov_eqIt {i j : Int} (h : i = j) : OV K p rEq (.int i) (.int j) (.bl true) true c := by
  have q := ov_eqI (K := K) (p := p) (c := c) (i := i) (j := j)
  rw [decide_eq_true h] at q
  exact q
theorem ov_eqIf {i j : Int} (h : ¬ i = j) : OV K p rEq (.int i) (.int j) (.bl false) true c := by
  have q := ov_eqI (K := K) (p := p) (c := c) (i := i) (j := j)
  rw [decide_eq_false h] at q
  exact q
theorem ov_neI {i j : Int} : OV K p rNe (.int i) (.int j) (.bl (!decide (i = j))) true c := by
  have h := ov_neS (K := K) (p := p) (c := c) (x := .int i) (y := .int j) rfl rfl rfl
  rw [dec_v (f := V.int) fun x y e => by cases e; rfl] at h
  exact h
theorem ov_eqT {i j : Str} : OV K p rEq (.str i) (.str j) (.bl (decide (i = j))) true c := by
  have h := ov_eqS (K := K) (p := p) (c := c) (x := .str i) (y := .str j) rfl rfl rfl
  rw [dec_v (f := V.str) fun x y e => by cases e; rfl] at h
  exact h
theorem ov_neT {i j : Str} : OV K p rNe (.str i) (.str j) (.bl (!decide (i = j))) true c := by
  have h := ov_neS (K := K) (p := p) (c := c) (x := .str i) (y := .str j) rfl rfl rfl
  rw [dec_v (f := V.str) fun x y e => by cases e; rfl] at h
  exact h
end
/-! ### defs that are called by their names -/
structure Def0 (P : Program) (w : World) (K : PySem.W.Frag) (mg : Str → Option Value) (base : Heap) (k : Nat) (x : Str) (ps : List Str) (R : FSpec) : Prop where
  ex : ∃ (f : Addr) (fd : FuncData), FnOk P w K mg base CX0 k f fd ps (spF K R) ∧ mg x = some (.ref f) ∧ PySem.W.keepIn K (.ref f) = true ∧ Binds K fd ps []
structure Def1 (P : Program) (w : World) (K : PySem.W.Frag) (mg : Str → Option Value) (base : Heap) (k : Nat) (x : Str) (ps : List Str) (R : FSpec) : Prop where
  ex : ∃ (f : Addr) (fd : FuncData), FnOk P w K mg base (L2.CX P w) k f fd ps (spF K R) ∧ mg x = some (.ref f) ∧ PySem.W.keepIn K (.ref f) = true ∧ Binds K fd ps []
section
variable {X : Cx} {W : WX} {p : HD} {ρ : Rho} {c c1 c2 : PC} {e : Expr} {es : List Expr} {pos xp : Pos} {d : D} {nw : Bool} {k : Nat} {x : Str} {ps : List Str} {R : FSpec} {ds : List D} {o : EO}
theorem re_c0 (T : Def0 X.prog X.w X.K X.mg X.base k x ps R) (hr : Room k X.A) (ha : RA X W p ρ c (e :: es) (.val ds c1)) (ho : R ds c1 (.val d nw c2))
    (hg : Gl X x := by rfl) (hdb : (x == ("__debug__" : Str)) = false := by decide) (he : starEach (e :: es) X.env = (false, eval e X.env) :: starEach es X.env := by rfl) (hpl : (backTo pos (starEach es X.env)).any (·.1) = false := by rfl) :
    RE X W p ρ c (.Call (.Name x xp) (e :: es) [] pos) (.val d nw c2) := by
  obtain ⟨f, fd, h1, h2, h3, h4⟩ := T.ex
  exact re_call h1 hr h2 h3 h4 ha ho hg hdb he hpl
theorem re_c1 (tk : Takes X W) (T : Def1 X.prog X.w X.K X.mg X.base k x ps R) (hr : Room k X.A) (ha : RA X W p ρ c (e :: es) (.val ds c1)) (ho : R ds c1 o)
    (hg : Gl X x := by rfl) (hdb : (x == ("__debug__" : Str)) = false := by decide) (he : starEach (e :: es) X.env = (false, eval e X.env) :: starEach es X.env := by rfl) (hpl : (backTo pos (starEach es X.env)).any (·.1) = false := by rfl) :
    RE X W p ρ c (.Call (.Name x xp) (e :: es) [] pos) o := by
  obtain ⟨f, fd, h1, h2, h3, h4⟩ := T.ex
  exact re_callX tk h1 hr h2 h3 h4 ha ho hg hdb he hpl
end
end LA
namespace LA
open PySem PySem.Spec PyProof.Rows L2
/-! ### comprehensions without a test; signs joined -/
section
variable {X : Cx} {W : WX} {p : HD} {ρ : Rho} {c c1 c2 : PC} {e o tg : Expr} {pos apos : Pos} {n1 n2 : Bool}
theorem re_joinC {g : G} {l : List Nat} (ho : RE X W p ρ c o (.val (.str (Str.ofString "")) n1 c1)) (he : RE X W p ρ c1 e (.val (.lst g (l.map fun n => D.str (chr1 n))) n2 c2)) (hl : l.length ≤ 1000)
    (hs : starEach [e] X.env = [(false, eval e X.env)] := by rfl) (hbase : attributeBase o "join" X.env (eval o X.env) = eval o X.env := by rfl) (hline : (apos.endLine == pos.line) = true := by rfl) :
    RE X W p ρ c (.Call (.Attribute o "join" apos) [e] [] pos) (.val (.str (tx l)) true c2) := by
  rw [← join_nil]
  refine re_join (g := g) (n2 := n2) (ss := l.map chr1) ho ?_ ?_ hs hbase hline
  · rw [List.map_map]
    exact he
  · rw [sum_sgn]
    show _ + _ * 0 ≤ _
    omega
theorem pts_all {q : HD} : PTs X [] (tT X.K W q ρ c (.val true c)) := ⟨fun pins s σ H Q I h => pts_nil.run pins s σ H Q I (h.2 H (Ext.refl _ _) h.1.pl)⟩
theorem re_lcA {elt iter : Expr} {scope : Scope} {own : List (Str × Nat)} {xs : List D} {g : TG} (y : Nat → D) (cs : Nat → PC) (ρt : Nat → Rho) (nws : Nat → Bool) (hc : X.calm = true) (hN : X.N.Nodup) (hi : RI X W p ρ c tg iter xs (cs 0)) (ok : BlkOk X.N X.env.scope scope own)
    (hg : ∀ (s : Shared) (H : Hp) (C : Addr) (cl : List (Str × Addr)) (fp : List Addr), PG (X.blk s H scope (compEnvC scope cl C X.env) fp) tg g)
    (htg : ∀ i d, xs[i]? = some d → TgOk X.K g (own.map (·.2)) d (wipeR ρ (own.map (·.2))) (ρt i))
    (he : ∀ i d, xs[i]? = some d → ∀ (q : HD) (s : Shared) (H : Hp) (C : Addr) (cl : List (Str × Addr)) (fp : List Addr), RE (X.blk s H scope (compEnvC scope cl C X.env) fp) Wf q (ρt i) (cs i) elt (.val (y i) (nws i) (cs (i + 1))))
    (hz : xs.length ≤ 100000)
    (hs : ∀ x, foldedSetIterable iter X.env x = pure x := by intro _; rfl) : RE X W p ρ c (.ListComp elt [⟨tg, iter, [], 0⟩] scope pos) (.val (.lst ⟨false, true⟩ ((List.range xs.length).map y)) true (cs xs.length)) := by
  rw [← coll_all]
  exact re_lc (fun _ => true) y cs cs ρt nws hc hN hi ok hg htg (fun i d h q s H C cl fp => pts_all) (fun i d h _ q s H C cl fp => he i d h q s H C cl fp) (fun i d h z => nomatch z) hz hs
end
theorem intsD_at {n i : Nat} {d : D} (h : (intsD n)[i]? = some d) : d = .int (i : Nat) ∧ i < n := by
  unfold intsD at h
  have hl := (List.getElem?_eq_some_iff.mp h).1
  rw [List.length_map, List.length_range] at hl
  rw [List.getElem?_map, List.getElem?_range hl] at h
  exact ⟨(Option.some.inj h).symm, hl⟩
theorem intsD_len (n : Nat) : (intsD n).length = n := by unfold intsD; rw [List.length_map, List.length_range]
theorem signs_at {l : List Nat} {i : Nat} {d : D} (h : (chars (tx l))[i]? = some d) : d = .str (chr1 (l.getD i 0)) ∧ i < l.length ∧ l[i]? = some (l.getD i 0) := by
  rw [chars_tx] at h
  have hl := (List.getElem?_eq_some_iff.mp h).1
  rw [List.length_map] at hl
  rw [List.getElem?_map, List.getElem?_eq_getElem hl] at h
  refine ⟨?_, hl, ?_⟩
  · rw [List.getD_eq_getElem?_getD, List.getElem?_eq_getElem hl]
    exact (Option.some.inj h).symm
  · rw [List.getD_eq_getElem?_getD, List.getElem?_eq_getElem hl]
    rfl
theorem signs_len (l : List Nat) : (chars (tx l)).length = l.length := by rw [chars_tx, List.length_map]
end LA
namespace LA
open PySem PySem.Spec PyProof.Rows L2
/-! ### a flat list against [] -/
def flatOk : D → Bool
  | .non => true
  | .bl _ => true
  | .int _ => true
  | .str x => PyData.strOk x
  | _ => false
section
variable {K : PySem.W.Frag} {p : HD} {H : Hp} {c : PC}
theorem dp_of {v : V} {d : D} (h : DV K p H v d) (e : flatOk d = true) : Dp K H v (toPy d) := by
  cases h <;> first | (cases e; done) | (unfold toPy; constructor)
theorem dps_of : ∀ {vs : List V} {ds : List D}, DVs K p H vs ds → ds.all flatOk = true → DpAll K H vs (toPys ds)
  | _, _, .nil, _ => by
    unfold toPys
    exact .nil
  | _, _, .cons h r, e => by
    rw [List.all_cons, Bool.and_eq_true_iff] at e
    unfold toPys
    exact .cons (dp_of h e.1) (dps_of r e.2)
theorem flat_lay : ∀ {ds : List D}, ds.all flatOk = true → PyData.canLayAll0 (toPys ds) = true ∧ PyData.depthAll (toPys ds) = 0
  | [], _ => ⟨by unfold toPys PyData.canLayAll0; rfl, by unfold toPys PyData.depthAll; rfl⟩
  | d :: r, e => by
    rw [List.all_cons, Bool.and_eq_true_iff] at e
    obtain ⟨h1, h2⟩ := flat_lay e.2
    unfold toPys PyData.canLayAll0 PyData.depthAll
    rw [h1, h2]
    have he := e.1
    cases d <;> first | (cases he; done) | (unfold toPy PyData.canLay0 PyData.depth; exact ⟨by first | rfl | (rw [Bool.and_true]; exact he), rfl⟩)
theorem shaped_flat {ds : List D} (e : ds.all flatOk = true) : SeqAt.shaped (.list (toPys ds)) = true := by
  obtain ⟨h1, h2⟩ := flat_lay e
  unfold SeqAt.shaped PyData.canLay0 PyData.depth
  rw [h1, h2]
  rfl
theorem eqv_nil (ds : List D) : PyData.eqv (.list (toPys ds)) (.list []) = ds.isEmpty := by
  cases ds with
  | nil => unfold toPys PyData.eqv PyData.eqvAll; rfl
  | cons d r => unfold toPys PyData.eqv PyData.eqvAll; rfl
theorem toPy_lst {g : G} {ds : List D} : toPy (.lst g ds) = .list (toPys ds) := by unfold toPy; rfl
theorem two_nil {v u : V} {g g2 : G} {ds : List D} (dv : DV K p H v (.lst g ds)) (du : DV K p H u (.lst g2 [])) (e : ds.all flatOk = true) : Dp K H v (.list (toPys ds)) ∧ Dp K H u (.list []) := by
  cases dv with
  | lst _ hq r =>
    cases du with
    | lst _ hq2 r2 =>
      cases r2
      exact ⟨.lst (un_sqL hq) (dps_of r e), .lst (un_sqL hq2) .nil⟩
theorem ov_eqNil {g g2 : G} {ds : List D} (e : ds.all flatOk = true) : OV K p (rEqD K) (.lst g ds) (.lst g2 []) (.bl ds.isEmpty) true c := fun v u H Q dv du hp k => by
  obtain ⟨h1, h2⟩ := two_nil dv du e
  refine ⟨_, _, h1, h2, shaped_flat e, by decide, ?_⟩
  rw [eqv_nil]
  exact k _ H (Ext.refl p H) hp (.bl _) fun _ => New.sc (by intro a h; cases h)
theorem ov_neNil {g g2 : G} {ds : List D} (e : ds.all flatOk = true) : OV K p (rNeD K) (.lst g ds) (.lst g2 []) (.bl (!ds.isEmpty)) true c := fun v u H Q dv du hp k => by
  obtain ⟨h1, h2⟩ := two_nil dv du e
  refine ⟨_, _, h1, h2, shaped_flat e, by decide, ?_⟩
  rw [eqv_nil]
  exact k _ H (Ext.refl p H) hp (.bl _) fun _ => New.sc (by intro a h; cases h)
end
/-! ### isinstance by the kind of a datum -/
def isStrD : D → Bool
  | .str _ => true
  | _ => false
def isLstD : D → Bool
  | .lst _ _ => true
  | _ => false
theorem isi_str {d : D} {t : String} (h : tyD d = some t) : kitB t "str" = some (isStrD d) := by
  cases d <;> first | (cases h; done) | (cases h; first | exact (show kitB _ "str" = some false by decide +kernel) | exact (show kitB _ "str" = some true by decide +kernel))
theorem isi_list {d : D} {t : String} (h : tyD d = some t) : kitB t "list" = some (isLstD d) := by
  cases d <;> first | (cases h; done) | (cases h; first | exact (show kitB _ "list" = some false by decide +kernel) | exact (show kitB _ "list" = some true by decide +kernel))
end LA
namespace LA
open PySem PySem.Spec PyProof.Rows L2
theorem cv_lenT {K : PySem.W.Frag} {p : HD} {c : PC} {l : List Nat} (h : l.length ≤ 100000) : CV K p (fun xs H Q => ∃ x n, xs = [x] ∧ LenV K x H n ∧ Q (.int n) H) [.str (tx l)] (.int (l.length : Nat)) true c := fun vs H Q dvs hp k => by
  cases dvs with
  | cons h1 r =>
    cases r
    cases h1
    exact ⟨_, l.length, rfl, ⟨by rw [tx_len]; exact sz_le h, (tx_len l).symm⟩, k _ H (Ext.refl p H) hp (.int _) fun _ => New.sc (by intro a h; cases h)⟩
end LA
namespace LA
open PySem PySem.Spec PyProof.Rows L2
theorem zips_at {a b : List Nat} {i : Nat} {d : D} (h : (zips (tx a) (tx b))[i]? = some d) : d = .tup [.str (chr1 (a.getD i 0)), .str (chr1 (b.getD i 0))] ∧ i < min a.length b.length := by
  unfold zips at h
  have hl := (List.getElem?_eq_some_iff.mp h).1
  rw [List.length_map, List.length_range] at hl
  rw [List.getElem?_map, List.getElem?_range hl, tx_list, tx_list] at h
  have ea : (tx a).cps.size = a.length := tx_len a
  have eb : (tx b).cps.size = b.length := tx_len b
  rw [ea, eb] at hl
  exact ⟨(Option.some.inj h).symm, hl⟩
theorem zips_len (a b : List Nat) : (zips (tx a) (tx b)).length = min a.length b.length := by
  unfold zips
  have ea : (tx a).cps.size = a.length := tx_len a
  have eb : (tx b).cps.size = b.length := tx_len b
  rw [List.length_map, List.length_range, ea, eb]
theorem at_get {l : List Nat} {i : Nat} (h : i < l.length) : (tx l).cps.toList[i]? = some (l.getD i 0) := by
  rw [tx_list, List.getD_eq_getElem?_getD, List.getElem?_eq_getElem h]
  rfl
end LA
namespace LA
open PySem PySem.Spec PyProof.Rows L2
theorem rt_lstB {X : Cx} {W : WX} {p : HD} {ρ : Rho} {c c1 : PC} {e : Expr} {nw b : Bool} {g : G} {ds : List D} (h : RE X W p ρ c e (.val (.lst g ds) nw c1)) (hb : (!ds.isEmpty) = b) (he : ∀ whole, isTrue e X.env whole = (do let v ← whole; standAt e.pos; holding [v] (truthy v)) := by intro _; rfl) : RT X W p ρ c e (.val b c1) := by
  subst hb
  exact rt_lst h he
end LA
namespace LA
open PySem PySem.Spec PyProof.Rows L2
/-! ### forgetting; targets; the larger and the smaller -/
section
variable {X : Cx} {W : WX} {p : HD} {ρ ρ' ρ1 : Rho} {c c1 c2 : PC} {e tg : Expr} {pos : Pos} {d : D} {nw : Bool} {sts : List Stmt} {g : TG} {vs : List Nat} {K : PySem.W.Frag}
theorem rss_weak (h : RSs X W p ρ c sts (.nx ρ1 c1)) (hl : ρ'.length = ρ1.length) (hw : ∀ (i : Nat) (d : D), ρ'[i]? = some (some d) → ρ1[i]? = some (some d)) : RSs X W p ρ c sts (.nx ρ' c1) :=
  pss_imp h fun De σ H ⟨s, k⟩ => ⟨s, fun σ2 H2 e2 s2 => k σ2 H2 e2 (s2.weak (by rw [hl]; exact s2.len) hw fun i v d _ z => z)⟩
theorem rs_tg (he : RE X W p ρ c e (.val d nw c1)) (hg : PG X tg g) (htg : TgOk X.K g vs d ρ ρ') (hs : swapsWithSole [tg] e pos.line X.env = pure false := by rfl) (hw : swappedStores [tg] e X.env = pure none := by rfl)
    (h1 : (assignEach [tg] X.env).map (·.2) = [assign tg X.env] := by rfl) : RS X W p ρ c (.Assign [tg] e pos) (.nx ρ' c1) :=
  ps_imp (ps_asg he hg hs hw h1) fun De σ H h => ⟨h.1, fun v H1 e1 p1 dv _ => htg.run p c1 v σ H1 _ dv (h.1.mono e1 p1) p1 fun σ2 s2 _ => h.2 σ2 H1 e1 s2⟩
theorem cv_min2 {i j : Int} : CV K p (fun xs H Q => ∃ i j, xs = [.int i, .int j] ∧ Q (.int (if j < i then j else i)) H) [.int i, .int j] (.int (if j < i then j else i)) true c := fun vs H Q dvs hp k => by
  cases dvs with
  | cons h1 r =>
    cases r with
    | cons h2 r =>
      cases r
      cases h1
      cases h2
      exact ⟨i, j, rfl, k _ H (Ext.refl p H) hp (.int _) fun _ => New.sc (by intro a h; cases h)⟩
theorem cv_max2 {i j : Int} : CV K p (fun xs H Q => ∃ i j, xs = [.int i, .int j] ∧ Q (.int (if i < j then j else i)) H) [.int i, .int j] (.int (if i < j then j else i)) true c := fun vs H Q dvs hp k => by
  cases dvs with
  | cons h1 r =>
    cases r with
    | cons h2 r =>
      cases r
      cases h1
      cases h2
      exact ⟨i, j, rfl, k _ H (Ext.refl p H) hp (.int _) fun _ => New.sc (by intro a h; cases h)⟩
end
/-! ### what repr asks of small data -/
def smallI (i : Int) : Bool := decide (0 ≤ i) && decide (i < 10)
def smallD : D → Bool
  | .non => true
  | .bl _ => true
  | .int i => smallI i
  | .str x => PyData.strOk x && decide (x.length ≤ 100)
  | _ => false
theorem small_int : ∀ k : Nat, k < 10 → (PyData.int ((k : Nat) : Int)).showable = true ∧ PyData.intsShort 13 (.int ((k : Nat) : Int)) = true ∧ (PyData.int ((k : Nat) : Int)).weight ≤ 100 := by
  decide +kernel
theorem small_one {d : D} (h : smallD d = true) : okD false d = true ∧ (toPy d).showable = true ∧ (toPy d).canLay0 = true ∧ PyData.intsShort 13 (toPy d) = true ∧ (toPy d).weight ≤ 100 ∧ (toPy d).depth = 0 ∧ (toPy d).hasDict = false := by
  cases d with
  | non => exact ⟨rfl, by unfold toPy; decide +kernel, by unfold toPy; decide +kernel, by unfold toPy; decide +kernel, by unfold toPy; decide +kernel, by unfold toPy; decide +kernel, by unfold toPy; decide +kernel⟩
  | bl b => cases b <;> exact ⟨rfl, by unfold toPy; decide +kernel, by unfold toPy; decide +kernel, by unfold toPy; decide +kernel, by unfold toPy; decide +kernel, by unfold toPy; decide +kernel, by unfold toPy; decide +kernel⟩
  | int i =>
    obtain ⟨h1, h2⟩ := Bool.and_eq_true_iff.mp (show smallI i = true from h)
    have h1 := of_decide_eq_true h1
    have h2 := of_decide_eq_true h2
    obtain ⟨k, rfl⟩ : ∃ k : Nat, i = (k : Nat) := ⟨i.toNat, (Int.toNat_of_nonneg h1).symm⟩
    obtain ⟨a, b, c⟩ := small_int k (by omega)
    exact ⟨rfl, by unfold toPy; exact a, by unfold toPy PyData.canLay0; rfl, by unfold toPy; exact b, by unfold toPy; exact c, by unfold toPy PyData.depth; rfl, by unfold toPy PyData.hasDict; rfl⟩
  | str x =>
    obtain ⟨h1, h2⟩ := Bool.and_eq_true_iff.mp (show (PyData.strOk x && decide (x.length ≤ 100)) = true from h)
    exact ⟨rfl, by unfold toPy PyData.showable; rfl, by unfold toPy PyData.canLay0; exact h1, by unfold toPy PyData.intsShort; rfl, by unfold toPy PyData.weight; exact of_decide_eq_true h2, by unfold toPy PyData.depth; rfl, by unfold toPy PyData.hasDict; rfl⟩
  | _ => cases h
theorem small_all : ∀ {ds : List D}, ds.all smallD = true → okDs false ds = true ∧ PyData.showableAll (toPys ds) = true ∧ PyData.canLayAll0 (toPys ds) = true ∧ PyData.intsShortAll 13 (toPys ds) = true ∧ PyData.weightAll (toPys ds) ≤ 101 * ds.length ∧ PyData.depthAll (toPys ds) = 0 ∧ PyData.hasDictAll (toPys ds) = false
  | [], _ => ⟨rfl, by unfold toPys; decide +kernel, by unfold toPys; decide +kernel, by unfold toPys; decide +kernel, by unfold toPys; decide +kernel, by unfold toPys; decide +kernel, by unfold toPys; decide +kernel⟩
  | d :: r, h => by
    rw [List.all_cons, Bool.and_eq_true_iff] at h
    obtain ⟨a1, a2, a3, a4, a5, a6, a7⟩ := small_one h.1
    obtain ⟨b1, b2, b3, b4, b5, b6, b7⟩ := small_all h.2
    unfold okDs toPys PyData.showableAll PyData.canLayAll0 PyData.intsShortAll PyData.weightAll PyData.depthAll PyData.hasDictAll
    rw [a1, a2, a3, a4, a6, a7, b1, b2, b3, b4, b6, b7, List.length_cons]
    exact ⟨rfl, rfl, rfl, rfl, by omega, rfl, rfl⟩
theorem sz_of {d : PyData} (h1 : d.canLay0 = true) (h2 : PyData.intsShort 13 d = true) (h3 : d.weight ≤ 10000) : d.shown.length ≤ sizeLine := by
  have h := PyData.shown_le 13 (by decide) d (PyData.leavesShort_of_canLay0 13 d h1 h2)
  have e : sizeLine = 16777216 := by decide
  omega
theorem shows_small {d : D} (h : smallD d = true) : Shows d := by
  obtain ⟨a1, a2, a3, a4, a5, a6, a7⟩ := small_one h
  exact ⟨by rw [a7]; exact a1, a2, by omega, sz_of a3 a4 (by omega)⟩
theorem shows_list {g : G} {ds : List D} (h : ds.all smallD = true) (hl : ds.length ≤ 90) : Shows (.lst g ds) := by
  obtain ⟨b1, b2, b3, b4, b5, b6, b7⟩ := small_all h
  refine ⟨?_, ?_, ?_, sz_of ?_ ?_ ?_⟩
  · unfold toPy PyData.hasDict okD
    rw [b7, b1]
    simp
  · unfold toPy PyData.showable
    exact b2
  · unfold toPy PyData.depth
    omega
  · unfold toPy PyData.canLay0
    exact b3
  · unfold toPy PyData.intsShort
    exact b4
  · unfold toPy PyData.weight
    omega
end LA
namespace LA
open PySem PySem.Spec PyProof.Rows L2
/-- the first knows no more than the second -/
inductive Less : Rho → Rho → Prop
  | nil : Less [] []
  | skip {o : Option D} {r r1 : Rho} : Less r r1 → Less (none :: r) (o :: r1)
  | same {o : Option D} {r r1 : Rho} : Less r r1 → Less (o :: r) (o :: r1)
theorem Less.len : ∀ {r r1 : Rho}, Less r r1 → r.length = r1.length
  | _, _, .nil => rfl
  | _, _, .skip h => by rw [List.length_cons, List.length_cons, Less.len h]
  | _, _, .same h => by rw [List.length_cons, List.length_cons, Less.len h]
theorem Less.get : ∀ {r r1 : Rho}, Less r r1 → ∀ (i : Nat) (d : D), r[i]? = some (some d) → r1[i]? = some (some d)
  | _, _, .nil, _, _, h => h
  | _, _, .skip _, 0, _, h => by cases h
  | _, _, .same _, 0, _, h => h
  | _, _, .skip h, i + 1, d, z => Less.get h i d z
  | _, _, .same h, i + 1, d, z => Less.get h i d z
theorem rss_less {X : Cx} {W : WX} {p : HD} {ρ ρ' ρ1 : Rho} {c c1 : PC} {sts : List Stmt} (h : RSs X W p ρ c sts (.nx ρ1 c1)) (hw : Less ρ' ρ1) : RSs X W p ρ c sts (.nx ρ' c1) := rss_weak h hw.len hw.get
/-- data without the pool -/
inductive OkR : Rho → Prop
  | nil : OkR []
  | non {r : Rho} : OkR r → OkR (none :: r)
  | one {d : D} {r : Rho} : okD false d = true → OkR r → OkR (some d :: r)
theorem OkR.get : ∀ {r : Rho}, OkR r → ∀ (i : Nat) (d : D), r[i]? = some (some d) → okD false d = true
  | _, .nil, _, _, h => by simp at h
  | _, .non _, 0, _, h => by cases h
  | _, .one h _, 0, _, z => by
    cases Option.some.inj (Option.some.inj z)
    exact h
  | _, .non h, i + 1, d, z => OkR.get h i d z
  | _, .one _ h, i + 1, d, z => OkR.get h i d z
end LA

namespace LA
open PySem PySem.Spec PyProof.Rows L2
/-! ### one call from one place, its guards in view -/
/-- a def of the text called from the place pl: its body's reading is wanted there alone -/
theorem call_at {CX : CXT} {P : Program} {w : World} {K : PySem.W.Frag} {mg : Str → Option Value} {base : Heap} {k : Nat} {x qual : Str} {st : Stmt} {f : Addr} {fd : FuncData} {N ps : List Str} (F : Fun K x qual st f fd) (S : FnScope N ps (defScope st))
    {pl : Around} {up : List Env} {sh : Shared} {G : Hp} {ag : Args} {us : List Value} {vs : List V} {R : VK} {Ex : XK} (room : Room (k + 1) pl) (e0 : Env0 P w K mg base pl up sh G) (bind : BindsTo sh fd ag (ps.zip us)) (rv : Vals vs us) (len : vs.length = ps.length)
    (body : ∀ cdv : Value, Room k (pl.deeper (envOfC qual (defScope st) sh.heap.objs.size f cdv)) → ∃ t, PSs (cxOf CX P w K mg base N qual (defScope st) f cdv pl up sh G Ex) (defBody st) t ∧ t { nx := fun _ G' => R .non G', rt := R } (L2.start N vs) G) :
    codeAny (model P w) pl (.call (.ref f) ag) (CR CX up P w G sh R Ex) sh := by
  obtain ⟨oc, od, kV, doc, pm, an, cdv, ct, osl, rfl, look, code⟩ := F.ex
  obtain ⟨t, runs, want⟩ := body cdv (room.deeper _)
  have inK : K.In sh.heap := e0.mod.kin.keeps fun b o y => (e0.bs b o y).1
  have noLim : sh.heap.NoLimit := e0.mod.nolimit.keeps fun b o y => (e0.bs b o y).1
  have kinds : ∀ y ∈ ps.zip us, (defScope st).names.lookup y.1 = some .local ∨ ((defScope st).names.lookup y.1 = some .cell ∧ ((cellsFrom (sh.heap.objs.size + 1) (defScope st).names []).lookup y.1).isSome = true) := fun ⟨n, v⟩ my =>
    (S.par n (List.of_mem_zip my).1).elim (fun q => .inl q) fun q => .inr ⟨q, PySem.W.cellsFrom_some _ _ _ (.inl q)⟩
  refine codeAny_call_function room.depth (inK _ _ look) rfl S.co S.gen rfl (PySem.W.codeRec_of inK code) (bind _ _ _ _ ?_)
  refine wpAny_newFunctionEnv_cells S.kind kinds fun env ee s1 new => ?_
  subst ee
  refine ⟨noLim.keeps new.toInCall.keep, codeAny_func ?_⟩
  have J : Inv (cxOf CX P w K mg base N qual (defScope st) f cdv pl up sh G Ex) [] (L2.start N vs) G s1 := inv_start S room.hd e0 len rv new
  refine wpAny_mono (runs.run [] s1 (L2.start N vs) G _ J want) (fun fl s2 got => ?_) fun e s2 got => got
  match fl, got with
  | .ret u, ⟨v, σ2, G2, J2, r2, q2⟩ => exact ⟨v, G2, J2.os, J2.bare, J2.base, J2.hok, r2, q2⟩
  | .next, ⟨σ2, G2, J2, q2⟩ => exact ⟨V.non, G2, J2.os, J2.bare, J2.base, J2.hok, rfl, q2⟩
  | .brk, ⟨_, _, _, z⟩ => exact z.elim
  | .cont, ⟨_, _, _, z⟩ => exact z.elim
/-- what a law ends in -/
def LawEnd (s0 : Shared) : Result → Shared → Prop := fun r s2 => r = .ok (.ret (.bool true)) ∧ OldK s0.heap s2.heap ∧ s2.os = s0.os ∧ AllBare s2.gens
/-- the law's call, from a run over a heap of which the script alone may be tracked -/
theorem law_at {P : Program} {w : World} {K : PySem.W.Frag} {mg mb : Str → Option Value} {fa a : Addr} {s0 : Shared} {its : List Value} {ns : List Int}
    (kin : K.In s0.heap) (nsM : s0.heap.Ns mainGlobals mg) (nsB : s0.heap.Ns builtinsNs mb) (bi : ∀ x : Str, x ≠ "__name__" → mb x = bootBuiltins x) (noL : s0.heap.NoLimit) (gen : s0.gens = #[])
    (obj : s0.heap.get? a = some { cls := .type "list", data := .seq its.toArray }) (whole : IntsAre its ns) (short : ns.length ≤ sizeLine)
    (run : ∀ (base : Heap) (G : Hp), K.In base → base.Ns mainGlobals mg → Env0 P w K mg base callerA [] s0 G → SqL K G a (ns.map V.int) →
      codeAny (model P w) callerA (.call (.ref fa) ⟨[.ref a], []⟩) (CR CX0 [] P w G s0 (fun v _ => v = .bl true) fun _ _ _ => False) s0) :
    codeAny (model P w) callerA (.call (.ref fa) ⟨[.ref a], []⟩) (LawEnd s0) s0 := by
  have vals := vals_ints whole
  have same := whole.length
  -- G tracks nothing, or the script as it stands
  have step : ∀ G : Hp, (∀ b u, G b = some u → b = a ∧ K.lookup a = none ∧ ∃ o xs, u = .frz o (.lst xs)) → HOk P w G s0.heap → SqL K G a (ns.map V.int) → codeAny (model P w) callerA (.call (.ref fa) ⟨[.ref a], []⟩) (LawEnd s0) s0 := by
    intro G only hok sq
    have free : ∀ {b : Addr}, b ≠ a → G b = none := fun {b} ne => by
      cases y : G b with
      | none => rfl
      | some u => exact absurd (only b u y).1 ne
    have noDict : ∀ {b : Addr} {o : Obj} {es : Array DictEntry} {ep : Nat}, s0.heap.get? b = some o → o.data = .dict es ep → G b = none := fun {b o es ep} y1 y2 => free fun z => by
      rw [z, obj] at y1
      cases y1
      cases (show Data.seq its.toArray _ = Data.dict es ep from y2)
    have kept : ∀ {b : Addr} {m : Str → Option Value}, s0.heap.Ns b m → (hidT s0.heap G).Ns b m := fun {b m} ⟨o, es, ep, y1, y2, y3⟩ => ⟨o, es, ep, hidT_get y1 (noDict y1 y2), y2, y3⟩
    have kinB : K.In (hidT s0.heap G) := fun b o y => hidT_get (kin b o y) (by
      cases z : G b with
      | none => rfl
      | some u =>
        obtain ⟨rfl, no, _⟩ := only b u z
        rw [no] at y
        cases y)
    have env : Env0 P w K mg (hidT s0.heap G) callerA [] s0 G := ⟨rfl, ⟨kinB, kept nsM, ⟨mb, kept nsB, bi⟩, noL.elim fun mc q => ⟨mc, kept q.1, q.2⟩⟩, fun b o y => of_hidT y, Nat.le_of_eq (hidT_size _ _), trivial, fun b m => absurd (show b ∈ ([] : List Addr) from m) (by simp), hok, .of_eq gen⟩
    refine codeAny_mono (run _ G kinB (kept nsM) env sq) fun r s2 got => ?_
    match r, got with
    | .error e, z => exact z.elim
    | .ok .next, z => exact z.elim
    | .ok .brk, z => exact z.elim
    | .ok .cont, z => exact z.elim
    | .ok (.ret u), ⟨v, G2, os, bare, un, hok2, rel, q⟩ =>
      have q : v = .bl true := q
      subst q
      obtain rfl : u = Value.bool true := rel
      refine ⟨rfl, OldK.of_keep fun b o y => ?_, os, bare⟩
      cases z : G b with
      | none => exact un.keep b o y z (fun m => absurd (show b ∈ ([] : List Addr) from m) (by simp)) (by simp)
      | some u =>
        obtain ⟨rfl, _, ob, xs, rfl⟩ := only b u z
        obtain ⟨y1, _⟩ := hok b _ z
        obtain ⟨y2, _⟩ := hok2 b _ (un.frzs b ob _ z)
        rw [y] at y1
        cases y1
        exact y2
  cases lk : K.lookup a with
  | some o =>
    have y := kin a o lk
    rw [obj] at y
    cases y
    exact step (fun _ => none) (fun b u z => nomatch z) (fun b u z => nomatch z) (.inr ⟨_, its.toArray, _, lk, rfl, rfl, rfl, by rw [List.size_toArray, same]; exact short, by simpa using vals⟩)
  | none =>
    refine step (fun b => if b = a then some (.frz { cls := .type "list", data := .seq its.toArray } (.lst (ns.map V.int))) else none) (fun b u z => ?_) (fun b u z => ?_) (.inl (.inr ⟨{ cls := .type "list", data := .seq its.toArray }, if_pos rfl⟩))
    · by_cases y : b = a
      · have z := (if_pos y).symm.trans z
        cases z
        exact ⟨y, lk, _, _, rfl⟩
      · cases (if_neg y).symm.trans z
    · by_cases y : b = a
      · have z := (if_pos y).symm.trans z
        cases z
        subst y
        exact ⟨obj, by rw [List.length_map]; exact short, its, _, vals, obj⟩
      · cases (if_neg y).symm.trans z
end LA

namespace LA
open PySem PySem.Spec PyProof.Rows L2
/-! ### enumerate over a text -/
def iEnumS (ta : TA) : TI := fun σ H R => ta σ H fun vs H1 => ∃ z : Str, vs = [.str z] ∧ R (Itp z.cps.size (fun i => .int (i : Nat)) (sgn z)) H1
theorem pi_enumS {X : Cx} {e : Expr} {ta : TA} {p pos tpos : Pos} {elts : List Expr} {kk : Nat} (hg : Gl X "enumerate") (hm : X.mg "enumerate" = none) (ha : PA X [e] ta) (hs : starEach [e] X.env = [(false, eval e X.env)] := by rfl) :
    PI X (.Tuple elts kk tpos) (.Call (.Name "enumerate" p) [e] [] pos) (iEnumS ta) := by
  refine ⟨fun pins s σ H R I h => ?_⟩
  refine Call_ (ld_blt I hg hm boot_enumerate (PyProof.Rows.callWith_type1 (thn (ha.run pos pins s σ H _ I h) fun us sh ⟨vs, H1, I1, r1, q1⟩ => ?_) hs rfl))
  obtain ⟨z, ex, q⟩ := q1
  subst ex
  cases r1 with
  | cons r rr =>
    cases rr
    obtain ⟨t, rfl⟩ := r
    refine call_enumerate_str fun hp en it sz kp => wpAny_pyIter_enum en ?_
    have I2 : Inv X pins σ H1 { sh with heap := hp } := I1.kept (t' := sh.toks) kp
    have ne : sh.heap.objs.size + 1 ≠ sh.heap.objs.size := Nat.succ_ne_self _
    refine ⟨sh.heap.objs.size + 1, _, _, _, H1, rfl, I2, turn_pair (P1 := fun i x => ∃ t, x = .int (i : Nat) t)
      (fun A hA => (GoesN.enumFrom 0 (Draws.text (A := A.in1) hA sh.heap.objs.size z t) (sh.heap.objs.size + 1) ne (fun m => ne (List.mem_singleton.mp m)) (List.mem_singleton.mpr rfl)).mono fun i h0 v h1 _ ⟨T, u, x, ev, big, px, tup⟩ => ⟨T, _, x, ev, big, ⟨u, by rw [Int.zero_add]⟩, px, tup⟩)
      (fun i x _ hx => by obtain ⟨u, rfl⟩ := hx; exact ⟨u, rfl⟩) (fun i x _ hx => sgn_of hx) (List.mem_cons_self ..) (fun i h st c hc => ?_) (fun A i s Q E st h => by obtain ⟨⟨old, y⟩, _⟩ := st; exact wpAny_pyIter_enum y h), ⟨⟨_, en⟩, it⟩, fun c hc => ?_, q⟩
    · obtain ⟨⟨old, y⟩, y2⟩ := st
      rcases List.mem_cons.mp hc with w | w
      · rw [w]
        exact ⟨_, y, fun v q => nomatch q⟩
      · rw [List.mem_singleton.mp w]
        obtain ⟨o, y3, _, y4⟩ := y2
        exact ⟨o, y3, fun v q => by rw [y4] at q; cases q⟩
    · have le : sh.heap.objs.size ≤ c := by
        rcases List.mem_cons.mp hc with w | w
        · rw [w]; exact Nat.le_add_right _ _
        · rw [List.mem_singleton.mp w]; exact Nat.le_refl _
      exact I1.fpOk le (I1.hok.fresh le)
section
variable {X : Cx} {W : WX} {p : HD} {ρ : Rho} {c c1 c2 c3 : PC} {e a b cc : Expr} {pos : Pos} {d1 d2 d3 : D} {n1 n2 n3 nw : Bool} {K : PySem.W.Frag}
def enums (l : List Nat) : List D := (List.range l.length).map fun i => D.tup [.int (i : Nat), .str (chr1 (l.getD i 0))]
theorem enums_at {l : List Nat} {i : Nat} {d : D} (h : (enums l)[i]? = some d) : d = .tup [.int (i : Nat), .str (chr1 (l.getD i 0))] ∧ i < l.length := by
  unfold enums at h
  have hl := (List.getElem?_eq_some_iff.mp h).1
  rw [List.length_map, List.length_range] at hl
  rw [List.getElem?_map, List.getElem?_range hl] at h
  exact ⟨(Option.some.inj h).symm, hl⟩
theorem enums_len (l : List Nat) : (enums l).length = l.length := by unfold enums; rw [List.length_map, List.length_range]
theorem ri_enumS {ps tpos : Pos} {elts : List Expr} {kk : Nat} {l : List Nat} (hm : X.mg "enumerate" = none) (h : RE X W p ρ c e (.val (.str (tx l)) nw c1)) (hg : Gl X "enumerate" := by rfl) (hs : starEach [e] X.env = [(false, eval e X.env)] := by rfl) :
    RI X W p ρ c (.Tuple elts kk tpos) (.Call (.Name "enumerate" ps) [e] [] pos) (enums l) c1 :=
  pi_imp (pi_enumS hg hm (ra_cons (W := W) h (ra_nil (W := W)) (by rw [hs]; rfl)) hs) fun σ H R ⟨s, k⟩ => ⟨s, fun vs H1 e1 p1 dvs => by
    cases dvs with
    | cons hv hr =>
      cases hr
      cases hv
      have sz : (tx l).cps.size = l.length := tx_len l
      refine ⟨_, rfl, k _ H1 e1 p1 fun q c' H2 qe qs p2 => ⟨?_, fun i d hd => ?_⟩⟩
      · show (enums l).length = (tx l).cps.size
        rw [enums_len, sz]
      · obtain ⟨rfl, hi⟩ := enums_at hd
        refine ⟨by show i < (tx l).cps.size; rw [sz]; exact hi, fun x H3 y => ?_⟩
        obtain ⟨T, rfl, hT, rfl⟩ := y
        refine ⟨Ext.new hT, p2.upd hT, .tup (.inl (.inl (hide_upd p2 hT))) (.cons (.int _) (.cons ?_ .nil))⟩
        have e' : LA.sgn (tx l) i = .str (chr1 (l.getD i 0)) := by
          unfold LA.sgn
          rw [tx_list]
          rfl
        rw [e']
        exact .str _⟩
/-! ### a < b < c -/
theorem re_chain {op op' : CmpOp} {r r' : R2} {k1 k2 : Bool} (ho : OpR X (compareOp op) r) (ho' : OpR X (compareOp op') r') (ha : RE X W p ρ c a (.val d1 n1 c1)) (hb : RE X W p ρ c1 b (.val d2 n2 c2)) (hc : RE X W p ρ c2 cc (.val d3 n3 c2)) (h1 : OV X.K p r d1 d2 (.bl k1) true c2) (h2 : OV X.K p r' d2 d3 (.bl k2) true c2)
    (hm : lastMarks [op, op'] [b, cc] = false := by with_unfolding_all rfl) : RE X W p ρ c (.Compare a [op, op'] [b, cc] pos) (.val (.bl (k1 && k2)) true c2) :=
  pe_imp (pe_chain ho ho' ha hb hc hm) fun σ H Q ⟨s, k⟩ => ⟨s, fun v H1 e1 p1 dv _ => ⟨s.mono e1 p1, fun u H2 e2 p2 du _ => h1 v u H2 _ (dv.mono e2) du p2 fun w H3 e3 p3 dw _ => by
    cases dw
    refine ⟨k1, rfl, ?_⟩
    have e13 : Ext p H H3 := (e1.trans e2).trans e3
    cases k1 with
    | false => exact iteF (k _ H3 e13 p3 (.bl false) fun _ => New.sc (by intro a h; cases h))
    | true => exact iteT ⟨s.mono e13 p3, fun w H4 e4 p4 dw _ => h2 u w H4 Q (du.mono (e3.trans e4)) dw p4 fun z H5 e5 p5 dz _ => k z H5 ((e13.trans e4).trans e5) p5 dz fun _ => by
        cases dz
        exact New.sc (by intro a h; cases h)⟩⟩⟩
end
end LA

namespace LA
open PySem PySem.Spec PyProof.Rows L2
theorem SR.sub {K : PySem.W.Frag} {p : HD} {H H' : Hp} {σ : L2.St} {ρ : Rho} {c c' : PC} (s : SR K p H σ ρ c) (e : Sub (hide p H) (hide p H')) (q : PoolAt K p H' c') : SR K p H' σ ρ c' :=
  ⟨s.len, fun i d h => by
    obtain ⟨v, h1, h2⟩ := s.at' i d h
    exact ⟨v, h1, h2.sub e fun _ _ z => z⟩, q⟩
/-! ### comprehensions with two for -/
def flat2 (zs : Nat → List D) (y : Nat → Nat → D) : Nat → List D
  | 0 => []
  | n + 1 => flat2 zs y n ++ (List.range (zs n).length).map (y n)
def tiU2 (K : PySem.W.Frag) (xs : List D) (zs : Nat → List D) (ρt : Nat → Rho) (c : PC) : TI := fun σ H R => ∃ (q : HD) (i : Nat) (d : D), xs[i]? = some d ∧ tI K Wf q (ρt i) c (zs i) c σ H R
def teU2 (K : PySem.W.Frag) (xs : List D) (zs : Nat → List D) (y : Nat → Nat → D) (ρu : Nat → Nat → Rho) (nw : Bool) (c : PC) : TE := fun σ H Q => ∃ (q : HD) (i j : Nat) (d e : D), xs[i]? = some d ∧ (zs i)[j]? = some e ∧ tE K Wf q (ρu i j) c (.val (y i j) nw c) σ H Q
section
variable {X : Cx} {W : WX} {p : HD} {ρ : Rho} {c : PC} {K : PySem.W.Frag}
theorem app_at {a L : Addr} {o : HO} {H5 : Hp} {u : HO} {p : HD} (h : hide (p.also L) H5 a = some o) : hide (p.also L) (upd H5 L u) a = some o := by
  obtain ⟨h1, h2⟩ := hide_some h
  rw [hide_ne h2, upd_ne (fun z => h2 (.inr (by rw [z]; exact List.mem_cons_self)))]
  exact h1
theorem lc2_read {xs : List D} {zs : Nat → List D} {y : Nat → Nat → D} {g g1 : TG} {vs vs1 : List Nat} {ρt : Nat → Rho} {ρu : Nat → Nat → Rho} {nw : Bool}
    (htg : ∀ i d, xs[i]? = some d → TgOk K g vs d (wipeR ρ vs) (ρt i)) (htg1 : ∀ i j d e, xs[i]? = some d → (zs i)[j]? = some e → TgOk K g1 vs1 e (wipeR (ρt i) vs1) (ρu i j))
    (hz : ∀ i j d, xs[i]? = some d → j < (zs i).length → (flat2 zs y i).length + j < 100000) : ∀ σ H Q, tE K W p ρ c (.val (.lst ⟨false, true⟩ (flat2 zs y xs.length)) true c) σ H Q → tLc2 (tI K W p ρ c xs c) g tYes (tiU2 K xs zs ρt c) g1 tYes (teU2 K xs zs y ρu nw c) vs vs1 σ H Q := by
  refine fun σ H Q ⟨s, k⟩ => ⟨s, fun J H1 e1 p1 yl L nL => ?_⟩
  have nLp : L ∉ p.m := fun z => p1.not nL (.inl z)
  have s1 : SR K p H1 σ ρ c := s.mono e1 p1
  refine ⟨fun i m H2 => m = xs.length - i ∧ i ≤ xs.length ∧ Ext p H1 H2 ∧ (∃ us, H2 L = some (.lst us) ∧ DVs K (p.also L) H2 us (flat2 zs y i)) ∧ PoolAt K (p.also L) H2 c, ⟨xs.length, by simp, Nat.zero_le _, Ext.new nL, ⟨[], upd_same, .nil⟩, p1.also nL⟩, ?_⟩
  rintro i m H2 ⟨rfl, hi', e2, ⟨us, hL, dus⟩, p2⟩
  obtain ⟨hstop, hgo⟩ := yl (p.also L) c H2 rfl (fun b o z => (ext_also e2).hide b o (also_sub nL b o z)) p2
  by_cases hlt : i < xs.length
  · have hd : xs[i]? = some xs[i] := List.getElem?_eq_getElem hlt
    obtain ⟨g1', g2⟩ := hgo i _ hd
    refine .inr ⟨g1', fun H' => ∃ us, H' L = some (.lst us) ∧ DVs K (p.also L) H' us (flat2 zs y (i + 1)) ∧ Ext p H1 H' ∧ PoolAt K (p.also L) H' c, fun H' ⟨us', a1, a2, a3, a4⟩ => ⟨xs.length - (i + 1), by omega, rfl, hlt, a3, ⟨us', a1, a2⟩, a4⟩, fun x H3 hy => ?_⟩
    obtain ⟨e3, p3, dx⟩ := g2 x H3 hy
    have sH : SR K (p.also L) H3 σ ρ c := ⟨s.len, fun j d hj => by
      obtain ⟨v, h1, h2⟩ := s1.at' j d hj
      exact ⟨v, h1, ((h2.also nL).mono (ext_also e2)).mono e3⟩, p3⟩
    refine (htg i _ hd).run (p.also L) c x _ H3 _ dx (sH.wipe _) p3 fun σ2 s2 hw => ⟨hw.trans wipe_wipe, ?_⟩
    simp only [tYes, if_true]
    refine ⟨p.also L, i, _, hd, s2, fun J1 H4 e4 p4 yl1 => ?_⟩
    have e14 : Ext p H1 H4 := fun a o n h => e4 a o n (e3 a o n (e2 a o n h))
    have hL4 : H4 L = some (.lst us) := e4 L _ nLp (e3 L _ nLp hL)
    refine ⟨fun j k' H5 => k' = (zs i).length - j ∧ j ≤ (zs i).length ∧ Ext p H1 H5 ∧ (∃ us, H5 L = some (.lst us) ∧ DVs K (p.also L) H5 us (flat2 zs y i ++ (List.range j).map (y i))) ∧ PoolAt K (p.also L) H5 c ∧ Sub (hide (p.also L) H4) (hide (p.also L) H5), ⟨(zs i).length, by simp, Nat.zero_le _, e14, ⟨us, hL4, ?_⟩, p4, fun _ _ z => z⟩, ?_⟩
    · show DVs K _ H4 us (flat2 zs y i ++ [])
      rw [List.append_nil]
      exact (dus.mono e3).mono e4
    · rintro j k' H5 ⟨rfl, hj', e5, ⟨ws, hL5, dws⟩, p5, sb5⟩
      obtain ⟨st1, go1⟩ := yl1 (p.also L) c H5 rfl sb5 p5
      by_cases hjl : j < (zs i).length
      · have he : (zs i)[j]? = some ((zs i)[j]'hjl) := List.getElem?_eq_getElem _
        obtain ⟨go2, yl2⟩ := go1 j _ he
        refine .inr ⟨go2, fun H' => ∃ us, H' L = some (.lst us) ∧ DVs K (p.also L) H' us (flat2 zs y i ++ (List.range (j + 1)).map (y i)) ∧ Ext p H1 H' ∧ PoolAt K (p.also L) H' c ∧ Sub (hide (p.also L) H4) (hide (p.also L) H'), fun H' ⟨us', a1, a2, a3, a4, a5⟩ => ⟨(zs i).length - (j + 1), by omega, rfl, hjl, a3, ⟨us', a1, a2⟩, a4, a5⟩, fun x1 H6 hy1 => ?_⟩
        obtain ⟨e6, p6, dx1⟩ := yl2 x1 H6 hy1
        have s6 : SR K (p.also L) H6 σ2 (ρt i) c := (((s2.mono e4 p4).sub sb5 p5).mono e6 p6)
        refine (htg1 i j _ _ hd he).run (p.also L) c x1 _ H6 _ dx1 (s6.wipe _) p6 fun σ3 s3 hw3 => ⟨hw3.trans wipe_wipe, ?_⟩
        refine ⟨p.also L, i, j, _, _, hd, he, s3, fun v H7 e7 p7 dv _ => ?_⟩
        have e57 : Ext (p.also L) H5 H7 := fun a o n h => e7 a o n (e6 a o n h)
        have hL7 : H7 L = some (.lst ws) := e57 L _ nLp hL5
        have sb : Sub (hide (p.also L) H7) (hide (p.also L) (upd H7 L (.lst (ws ++ [v])))) := fun a o h => app_at h
        refine ⟨ws, hL7, ?_, ws ++ [v], upd_same, ?_, ?_, ?_, fun b o z => sb b o (e57.hide b o (sb5 b o z))⟩
        · rw [dws.length, List.length_append, List.length_map, List.length_range]
          exact sz_lt (hz i j _ hd hjl)
        · rw [List.range_succ, List.map_append, ← List.append_assoc]
          exact DVs.app ((dws.mono e57).sub sb fun _ _ z => z) (.cons (dv.sub sb fun _ _ z => z) .nil)
        · intro a o n h
          rw [upd_ne (ne_of_none h nL)]
          exact e57 a o n (e5 a o n h)
        · exact p7.other List.mem_cons_self nLp
      · have ej : j = (zs i).length := by omega
        subst ej
        exact .inl ⟨st1, ws, hL5, dws, e5, p5⟩
  · have e : i = xs.length := by omega
    subst e
    have hh : hide p H2 L = some (.lst us) := by
      rw [hide_ne (p1.not nL)]
      exact hL
    exact .inl ⟨hstop, k (.ref L) H2 (e1.trans e2) p2.less (.lst ⟨(fun z => nomatch z), fun _ => hh⟩ (.inl (.inl hh)) (dus.sub sub_also fun _ _ z => z)) fun _ => New.back e1 fun b z => by
      cases z
      exact ⟨⟨nL, nLp⟩, p2, fun g ds z => by
        cases z
        exact ⟨us, hL, dus⟩⟩⟩
/-- name = [e for x in xs for y in ys] -/
theorem rs_lc2 {elt iter iter1 tg tg1 : Expr} {scope : Scope} {own : List (Str × Nat)} {vs1 : List Nat} {xs : List D} {g g1 : TG} {yn : Str} {py pos spos : Pos} (j : Nat) (zs : Nat → List D) (y : Nat → Nat → D) (ρt : Nat → Rho) (ρu : Nat → Nat → Rho) (nw : Bool) (hc : X.calm = true) (hN : X.N.Nodup) (hi : RI X W p ρ c tg iter xs c) (ok : BlkOk X.N X.env.scope scope own) (hv : ∀ i ∈ vs1, i ∈ own.map (·.2))
    (hg : ∀ (s : Shared) (H : Hp) (C : Addr) (cl : List (Str × Addr)) (fp : List Addr), PG (X.blk s H scope (compEnvC scope cl C X.env) fp) tg g) (hg1 : ∀ (s : Shared) (H : Hp) (C : Addr) (cl : List (Str × Addr)) (fp : List Addr), PG (X.blk s H scope (compEnvC scope cl C X.env) fp) tg1 g1)
    (hi1 : ∀ i d, xs[i]? = some d → ∀ (q : HD) (s : Shared) (H : Hp) (C : Addr) (cl : List (Str × Addr)) (fp : List Addr), RI (X.blk s H scope (compEnvC scope cl C X.env) fp) Wf q (ρt i) c tg1 iter1 (zs i) c)
    (htg : ∀ i d, xs[i]? = some d → TgOk X.K g (own.map (·.2)) d (wipeR ρ (own.map (·.2))) (ρt i)) (htg1 : ∀ i j d e, xs[i]? = some d → (zs i)[j]? = some e → TgOk X.K g1 vs1 e (wipeR (ρt i) vs1) (ρu i j))
    (he : ∀ i j d e, xs[i]? = some d → (zs i)[j]? = some e → ∀ (q : HD) (s : Shared) (H : Hp) (C : Addr) (cl : List (Str × Addr)) (fp : List Addr), RE (X.blk s H scope (compEnvC scope cl C X.env) fp) Wf q (ρu i j) c elt (.val (y i j) nw c))
    (hz : ∀ i j d, xs[i]? = some d → j < (zs i).length → (flat2 zs y i).length + j < 100000) (hy : X.N[j]? = some yn := by rfl) (hyl : X.env.scope.names.lookup yn = some .local := by rfl)
    (hsw : swapsWith (.ListComp elt [⟨tg, iter, [], 0⟩, ⟨tg1, iter1, [], 0⟩] scope pos) (some (.Name yn py)) spos.line X.env = pure true := by exact sw_true rfl rfl rfl (by decide +kernel))
    (hs : ∀ x, foldedSetIterable iter X.env x = pure x := by intro _; rfl) (hs1 : ∀ env x, foldedSetIterable iter1 env x = pure x := by intro _ _; rfl) :
    RS X W p ρ c (.Assign [.Name yn py] (.ListComp elt [⟨tg, iter, [], 0⟩, ⟨tg1, iter1, [], 0⟩] scope pos) spos) (.nx (ρ.set j (some (.lst ⟨false, true⟩ (flat2 zs y xs.length)))) c) :=
  ps_imp (ps_setLc2 (wi1 := tiU2 X.K xs zs ρt c) (te := teU2 X.K xs zs y ρu nw c) hc hN hy hyl hsw hi ok hv hg (fun _ _ _ _ _ => pts_nil) (fun s H C cl fp => ⟨fun pins s' σ H' Q I ⟨q, i, d, hd, h⟩ => (hi1 i d hd q s H C cl fp).run pins s' σ H' Q I h⟩) hg1 (fun _ _ _ _ _ => pts_nil)
    (fun s H C cl fp => ⟨fun pins s' σ H' Q I ⟨q, i, j, d, e, hd, he', h⟩ => (he i j d e hd he' q s H C cl fp).run pins s' σ H' Q I h⟩) hs hs1) fun De σ H h => lc2_read htg htg1 hz σ H _ ⟨h.1, fun v H1 e1 p1 dv _ => h.2 _ H1 e1 ((h.1.mono e1 p1).set j dv)⟩
end
section
variable {X : Cx} {W : WX} {p : HD} {ρ : Rho} {c : PC} {tg : Expr}
theorem rn_lc {elt iter : Expr} {ifs : List Expr} {scope : Scope} {own : List (Str × Nat)} {xs : List D} {g : TG} {yn : Str} {py pos spos : Pos} (j : Nat) (b : Nat → Bool) (y : Nat → D) (cs cm : Nat → PC) (ρt : Nat → Rho) (nws : Nat → Bool) (hc : X.calm = true) (hN : X.N.Nodup) (hi : RI X W p ρ c tg iter xs (cs 0)) (ok : BlkOk X.N X.env.scope scope own)
    (hg : ∀ (s : Shared) (H : Hp) (C : Addr) (cl : List (Str × Addr)) (fp : List Addr), PG (X.blk s H scope (compEnvC scope cl C X.env) fp) tg g)
    (htg : ∀ i d, xs[i]? = some d → TgOk X.K g (own.map (·.2)) d (wipeR ρ (own.map (·.2))) (ρt i))
    (ht : ∀ i d, xs[i]? = some d → ∀ (q : HD) (s : Shared) (H : Hp) (C : Addr) (cl : List (Str × Addr)) (fp : List Addr), PTs (X.blk s H scope (compEnvC scope cl C X.env) fp) ifs (tT X.K Wf q (ρt i) (cs i) (.val (b i) (cm i))))
    (he : ∀ i d, xs[i]? = some d → b i = true → ∀ (q : HD) (s : Shared) (H : Hp) (C : Addr) (cl : List (Str × Addr)) (fp : List Addr), RE (X.blk s H scope (compEnvC scope cl C X.env) fp) Wf q (ρt i) (cm i) elt (.val (y i) (nws i) (cs (i + 1))))
    (hno : ∀ i d, xs[i]? = some d → b i = false → cs (i + 1) = cm i) (hz : xs.length ≤ 100000) (hy : X.N[j]? = some yn := by rfl) (hyl : X.env.scope.names.lookup yn = some .local := by rfl) (hsw : swapsWith (.ListComp elt [⟨tg, iter, ifs, 0⟩] scope pos) (some (.Name yn py)) spos.line X.env = pure true := by exact sw_true rfl rfl rfl (by decide +kernel))
    (hs : ∀ x, foldedSetIterable iter X.env x = pure x := by intro _; rfl) : RN X p ρ c (.Assign [.Name yn py] (.ListComp elt [⟨tg, iter, ifs, 0⟩] scope pos) spos) j (.lst ⟨false, true⟩ (coll b y xs.length)) (cs xs.length) :=
  ps_imp (ps_setLc (tt := ttU X.K xs b cs cm ρt) (te := teU X.K xs b y cs cm ρt nws) hc hN hy hyl hsw hi ok hg (fun s H C cl fp => ⟨fun pins s' σ H' Q I ⟨q, i, d, hd, h⟩ => (ht i d hd q s H C cl fp).run pins s' σ H' Q I h⟩)
    (fun s H C cl fp => ⟨fun pins s' σ H' Q I ⟨q, i, d, hd, hb, h⟩ => (he i d hd hb q s H C cl fp).run pins s' σ H' Q I h⟩) hs) fun De σ H h => lc_read htg hno hz σ H _ ⟨h.1, fun v H1 e1 p1 dv hn => h.2 _ H1 e1 p1 dv (hn rfl)⟩
end
end LA

namespace LA
open PySem PySem.Spec PyProof.Rows L2
/-! ### defs with default values -/
structure Def1D (P : Program) (w : World) (K : PySem.W.Frag) (mg : Str → Option Value) (base : Heap) (k : Nat) (x : Str) (ps : List Str) (R : FSpec) (dvs : List V) : Prop where
  ex : ∃ (f : Addr) (fd : FuncData) (ds : List Value), FnOk P w K mg base (L2.CX P w) k f fd ps (spF K R) ∧ mg x = some (.ref f) ∧ PySem.W.keepIn K (.ref f) = true ∧ Vals dvs ds ∧ Binds K fd ps ds
section
variable {X : Cx} {W : WX} {p : HD} {ρ : Rho} {c c1 c2 : PC} {e : Expr} {es : List Expr} {pos xp : Pos} {d : D} {nw : Bool} {k : Nat} {x : Str} {ps : List Str} {R : FSpec} {ds es' : List D} {o : EO} {dvs : List V}
theorem re_c1D (tk : Takes X W) (T : Def1D X.prog X.w X.K X.mg X.base k x ps R dvs) (hr : Room k X.A) (ha : RA X W p ρ c (e :: es) (.val ds c1)) (hd : ∀ q H, DVs X.K q H dvs es') (ho : R (ds ++ es') c1 o)
    (hg : Gl X x := by rfl) (hdb : (x == ("__debug__" : Str)) = false := by decide) (he : starEach (e :: es) X.env = (false, eval e X.env) :: starEach es X.env := by rfl) (hpl : (backTo pos (starEach es X.env)).any (·.1) = false := by rfl) :
    RE X W p ρ c (.Call (.Name x xp) (e :: es) [] pos) o := by
  obtain ⟨f, fd, us, G, hm, hk, hv, hb⟩ := T.ex
  exact pe_imp (pe_callSD G hr hg hm hk hb hv (fun σ => passAt tk σ) ha hdb he hpl) fun σ H Q h => ⟨tE_sr h, fun vs H1 e1 p1 dvs' => ⟨p, c1, ds ++ es', o, DVs.app dvs' (hd p H1), p1, ho, fo_at h e1⟩⟩
end
section
variable {P : Program} {w : World} {K : PySem.W.Frag} {mg : Str → Option Value} {base : Heap} {x qual : Str} {f : Addr} {fd : FuncData} {N ps : List Str} {k : Nat} {R : FSpec} {params : Arguments} {body : List Stmt} {scope : Scope} {dvs : List V} {kws : List (Str × V)}
theorem fn_excD (F : FunD K x qual params body scope dvs kws f fd) (S : FnScope N ps scope) (hl : ∀ ds c o, R ds c o → ds.length = ps.length)
    (bd : ∀ (cdv : Value) (A : Around) (outer : List Env) (s : Shared) (H : Hp) (E : XK), Room k (A.deeper (envOfC qual scope s.heap.objs.size f cdv)) → ∀ (p : HD) (ds : List D) (c : PC) (o : EO), R ds c o →
      Takes (cxOf (L2.CX P w) P w K mg base N qual scope f cdv A outer s H E) (fun cls d _ H => E cls d H) →
      BodyOk (cxOf (L2.CX P w) P w K mg base N qual scope f cdv A outer s H E) (fun cls d _ H => E cls d H) p (startR N ds) c body o) : FnOk P w K mg base (L2.CX P w) (k + 1) f fd ps (spF K R) := by
  refine F.ok S (fun vs H Q E h => spF_len hl h) (fun cdv A outer s H vs Q E hr h => ?_)
  obtain ⟨p, c, ds, o, h1, h2, h3, h4⟩ := h
  have b := bd cdv A outer s H E hr p ds c o h3 (takes_of rfl rfl rfl rfl)
  cases o with
  | val d nw c' =>
    rcases b with b | ⟨rfl, ρ', b⟩
    · exact ⟨_, b, sr_start h1 h2, fun v H1 e1 p1 dv hn => h4 v H1 e1 p1 dv hn⟩
    · exact ⟨_, b, sr_start h1 h2, fun σ' H1 e1 s1 => h4 .non H1 e1 s1.pl .non fun _ => New.sc (by intro a q; cases q)⟩
  | ex C fs c' => exact ⟨_, b, sr_start h1 h2, fun ρ' dx fv σ' H1 e1 s1 _ hx hf => h4 dx fv H1 e1 s1.pl hx hf⟩
end
end LA

namespace LA
open PySem PySem.Spec PyProof.Rows L2
section
variable {X : Cx} {W : WX} {p : HD} {ρ ρ' : Rho} {c c1 : PC} {e a : Expr} {pos : Pos} {d : D} {nw k : Bool} {K : PySem.W.Frag}
theorem re_not (h : RE X W p ρ c a (.val (.bl k) nw c1)) : RE X W p ρ c (.UnaryOp .Not a pos) (.val (.bl (!k)) true c1) :=
  pe_imp (pe_not h) fun σ H Q ⟨s, kk⟩ => ⟨s, fun v H1 e1 p1 dv _ => by
    cases dv
    exact ⟨k, rfl, kk _ H1 e1 p1 (.bl _) fun _ => New.sc (by intro a h; cases h)⟩⟩
theorem ov_neB {i j : Bool} : OV K p rNe (.bl i) (.bl j) (.bl (!decide (i = j))) true c := by
  have h := ov_neS (K := K) (p := p) (c := c) (x := .bl i) (y := .bl j) rfl rfl rfl
  rw [dec_v (f := V.bl) fun x y e => by cases e; rfl] at h
  exact h
/-! lists added, repeated -/
theorem ov_cat {g1 g2 : G} {xs ys : List D} (h1 : g1.t = true) (h2 : g2.t = true) (hz : xs.length + ys.length ≤ 100000) : OV K p rCat (.lst g1 xs) (.lst g2 ys) (.lst ⟨false, true⟩ (xs ++ ys)) true c := fun v u H Q dv du hp k => by
  cases dv with
  | lst hb hq r =>
    cases du with
    | lst hb2 hq2 r2 =>
      refine ⟨_, _, _, _, rfl, rfl, (hide_some (hb.2 h1)).1, (hide_some (hb2.2 h2)).1, by rw [r.length, r2.length]; exact sz_le hz, fun q hn => ?_⟩
      exact k _ _ (Ext.new hn) (hp.upd hn) (.lst ⟨(fun z => nomatch z), fun _ => hide_upd hp hn⟩ (.inl (.inl (hide_upd hp hn))) ((r.mono (Ext.new hn)).app (r2.mono (Ext.new hn)))) fun _ => New.lst hp hn (r.app r2)
theorem dvs_rep {H : Hp} {us : List V} {ds : List D} (h : DVs K p H us ds) : ∀ n : Nat, DVs K p H (List.replicate n us).flatten (List.replicate n ds).flatten
  | 0 => .nil
  | n + 1 => by
    rw [List.replicate_succ, List.replicate_succ, List.flatten_cons, List.flatten_cons]
    exact h.app (dvs_rep h n)
theorem ov_rep {g1 : G} {xs : List D} {n : Int} (h1 : g1.t = true) (hn0 : -100000 ≤ n) (hn1 : n ≤ 100000) (hz : xs.length * n.toNat ≤ 100000) : OV K p L2.rRep (.lst g1 xs) (.int n) (.lst ⟨false, true⟩ (List.replicate n.toNat xs).flatten) true c := fun v u H Q dv du hp k => by
  cases du
  cases dv with
  | lst hb hq r =>
    have e1 : (-(2 ^ 63) : Int) = -9223372036854775808 := by decide
    have e2 : (2 ^ 63 : Int) = 9223372036854775808 := by decide
    refine ⟨_, n, _, rfl, rfl, (hide_some (hb.2 h1)).1, by omega, by omega, by rw [r.length]; exact sz_le hz, fun q hn => ?_⟩
    exact k _ _ (Ext.new hn) (hp.upd hn) (.lst ⟨(fun z => nomatch z), fun _ => hide_upd hp hn⟩ (.inl (.inl (hide_upd hp hn))) ((dvs_rep r _).mono (Ext.new hn))) fun _ => New.lst hp hn (dvs_rep r _)
end
/-! isinstance -/
def isIntD : D → Bool
  | .int _ => true
  | .bl _ => true
  | _ => false
def isBlD : D → Bool
  | .bl _ => true
  | _ => false
theorem isi_int {d : D} {t : String} (h : tyD d = some t) : kitB t "int" = some (isIntD d) := by
  cases d <;> first | (cases h; done) | (cases h; first | exact (show kitB _ "int" = some false by decide +kernel) | exact (show kitB _ "int" = some true by decide +kernel))
theorem isi_bool {d : D} {t : String} (h : tyD d = some t) : kitB t "bool" = some (isBlD d) := by
  cases d <;> first | (cases h; done) | (cases h; first | exact (show kitB _ "bool" = some false by decide +kernel) | exact (show kitB _ "bool" = some true by decide +kernel))
/-! ### collected lists, more -/
theorem range_get {α : Type} (l : List Nat) (f : Nat → α) : (List.range l.length).map (fun i => f (l.getD i 0)) = l.map f := by
  refine List.ext_getElem? fun i => ?_
  by_cases hi : i < l.length
  · simp [hi, List.getElem?_range]
  · simp [hi]
theorem all_get (l : List Nat) (f : Nat → Bool) : ((List.range l.length).all fun i => f (l.getD i 0)) = l.all f := by
  have h := congrArg (fun x : List Bool => x.all id) (range_get l f)
  rw [List.all_map, List.all_map] at h
  exact h
theorem coll_none (b : Nat → Bool) (y : Nat → D) (n : Nat) : (coll b y n).isEmpty = (List.range n).all fun i => !b i := by
  rw [coll_some, List.isEmpty_map]
  induction (List.range n) with
  | nil => rfl
  | cons a r ih =>
    rw [List.filter_cons, List.all_cons]
    cases b a <;> simp [ih]
theorem coll_congr {b b' : Nat → Bool} {y : Nat → D} : ∀ {n : Nat}, (∀ i, i < n → b i = b' i) → coll b y n = coll b' y n
  | 0, _ => rfl
  | n + 1, h => by
    show coll b y n ++ (if b n then [y n] else []) = coll b' y n ++ (if b' n then [y n] else [])
    rw [coll_congr fun i hi => h i (by omega), h n (by omega)]
theorem ints_flat (b : Nat → Bool) (n : Nat) : (coll b (fun i => D.int (i : Nat)) n).all flatOk = true := by
  rw [coll_some, List.all_map, List.all_eq_true]
  intro i _
  rfl
/-! ### what raises within arguments -/
section
variable {X : Cx} {W : WX} {p : HD} {ρ : Rho} {c c1 : PC} {e : Expr} {es : List Expr} {pos ps : Pos} {C : Addr} {fs : List (Str × D)} {nw : Bool} {g : G} {xs : List D}
theorem ra_ex (h : RE X W p ρ c e (.ex C fs c1)) (hs : starEach (e :: es) X.env = (false, eval e X.env) :: starEach es X.env := by rfl) : RA X W p ρ c (e :: es) (.ex C fs c1) :=
  pa_imp (pa_cons h (⟨fun _ _ _ _ _ _ _ z => z.elim⟩ : PA X es (fun _ _ _ => False)) hs) fun σ H Q h => h
theorem re_callBX {id : String} {x : Str} {r : List V → Hp → VK → Prop} (hc : CallR X (.builtin id) r) (hm : X.mg x = none) (hv : bootBuiltins x = some (.builtin id)) (ha : RA X W p ρ c (e :: es) (.ex C fs c1))
    (hg : Gl X x := by rfl) (hn : x ≠ "__name__" := by decide) (hdb : (x == ("__debug__" : Str)) = false := by decide)
    (he : starEach (e :: es) X.env = (false, eval e X.env) :: starEach es X.env := by rfl) (hpl : (backTo pos (starEach es X.env)).any (·.1) = false := by rfl) : RE X W p ρ c (.Call (.Name x ps) (e :: es) [] pos) (.ex C fs c1) :=
  pe_imp (pe_callB hc hg hm hv ha hn hdb he hpl) fun σ H Q h => h
/-- a list of which no more is told than that it may be written -/
theorem re_dull (h : RE X W p ρ c e (.val (.lst g xs) nw c1)) : RE X W p ρ c e (.val (.lst ⟨false, g.t⟩ xs) nw c1) := pe_imp h fun σ H Q ⟨s, k⟩ => ⟨s, fun v H1 e1 p1 dv hn => k v H1 e1 p1 (by
  cases dv with
  | lst hb hq r => exact .lst ⟨(fun z => nomatch z), hb.2⟩ hq r) fun q => (hn q).g⟩
end
/-! ### defs whose guards are in view -/
structure FnG (P : Program) (w : World) (K : PySem.W.Frag) (mg : Str → Option Value) (base : Heap) (k : Nat) (f : Addr) (fd : FuncData) (ps : List Str) (sp : Sp) : Prop where
  len : ∀ (vs : List V) (Hs : Hp) (R : VK) (Ex : XK), sp vs Hs R Ex → vs.length = ps.length
  run : ∀ (pl : Around) (up : List Env) (sh : Shared) (Hs : Hp) (ag : Args) (us : List Value) (vs : List V) (R : VK), pl.guards = some [] → Room k pl → Env0 P w K mg base pl up sh Hs → BindsTo sh fd ag (ps.zip us) → Vals vs us → sp vs Hs R E0 →
    codeAny (model P w) pl (.call (.ref f) ag) (CR CX0 up P w Hs sh R E0) sh
structure DefG (P : Program) (w : World) (K : PySem.W.Frag) (mg : Str → Option Value) (base : Heap) (k : Nat) (x : Str) (ps : List Str) (R : FSpec) : Prop where
  ex : ∃ (f : Addr) (fd : FuncData), FnG P w K mg base k f fd ps (spF K R) ∧ mg x = some (.ref f) ∧ PySem.W.keepIn K (.ref f) = true ∧ Binds K fd ps []
section
variable {P : Program} {w : World} {K : PySem.W.Frag} {mg : Str → Option Value} {base : Heap} {x qual : Str} {st : Stmt} {f : Addr} {fd : FuncData} {N ps : List Str} {k : Nat} {R : FSpec}
theorem fn_g (F : Fun K x qual st f fd) (S : FnScope N ps (defScope st)) (hl : ∀ ds c o, R ds c o → ds.length = ps.length) (hv : ∀ ds c o, R ds c o → ∃ d nw c', o = .val d nw c')
    (body : ∀ (cdv : Value) (A : Around) (outer : List Env) (s : Shared) (H : Hp), A.guards = some [] → Room k (A.deeper (envOfC qual (defScope st) s.heap.objs.size f cdv)) → ∀ (p : HD) (ds : List D) (c : PC) (o : EO), R ds c o →
      BodyOk (cxOf CX0 P w K mg base N qual (defScope st) f cdv A outer s H E0).nox Wf p (startR N ds) c (defBody st) o) : FnG P w K mg base (k + 1) f fd ps (spF K R) := by
  refine ⟨fun vs Hs Q Ex h => spF_len hl h, fun pl up sh Hs ag us vs Q gu room e0 bind rv h => ?_⟩
  refine call_at F S room e0 bind rv (spF_len hl h) fun cdv hr => ?_
  obtain ⟨p, c, ds, o, h1, h2, h3, h4⟩ := h
  have b := body cdv pl up sh Hs gu hr p ds c o h3
  obtain ⟨d, nw, c', rfl⟩ := hv _ _ _ h3
  rcases b with b | ⟨rfl, ρ', b⟩
  · exact ⟨_, b.nox, sr_start h1 h2, fun v H1 e1 p1 dv hn => h4 v H1 e1 p1 dv hn⟩
  · exact ⟨_, b.nox, sr_start h1 h2, fun σ' H1 e1 s1 => h4 .non H1 e1 s1.pl .non fun _ => New.sc (by intro a q; cases q)⟩
end
section
variable {X : Cx} {W : WX} {p : HD} {ρ : Rho} {c c1 c2 : PC} {e : Expr} {es : List Expr} {pos xp : Pos} {d : D} {nw : Bool} {k : Nat} {x : Str} {ps : List Str} {R : FSpec} {ds : List D}
theorem re_cG (T : DefG X.prog X.w X.K X.mg X.base k x ps R) (hr : Room k X.A) (gu : X.A.guards = some []) (ha : RA X W p ρ c (e :: es) (.val ds c1)) (ho : R ds c1 (.val d nw c2))
    (hg : Gl X x := by rfl) (hdb : (x == ("__debug__" : Str)) = false := by decide) (he : starEach (e :: es) X.env = (false, eval e X.env) :: starEach es X.env := by rfl) (hpl : (backTo pos (starEach es X.env)).any (·.1) = false := by rfl) :
    RE X W p ρ c (.Call (.Name x xp) (e :: es) [] pos) (.val d nw c2) := by
  obtain ⟨f, fd, F, hm, hk, hb⟩ := T.ex
  have P1 : PE X (.Call (.Name x xp) (e :: es) [] pos) (fun σ H Q => tA X.K W p ρ c (.val ds c1) σ H fun vs H1 => spF X.K R vs H1 Q E0) := by
    refine ⟨fun pins s σ H Q I h => ?_⟩
    refine wpAny_Call_Name_kw (ld_glob I hg hm ?_ hdb)
    refine PySem.W.callWith_K (h₀ := X.base) I.ok.mod.kin hk (thn (ha.run pos pins s σ H _ I h) fun us sh ⟨vs, H1, I1, r, q⟩ => ⟨I1.kIn, ?_⟩) he hpl
    have bd := hb sh us I1.kIn (by rw [List.append_nil, ← r.length]; exact F.len _ _ _ _ q)
    rw [List.append_nil] at bd
    refine wpAny_call (codeAny_mono (F.run X.A X.stack sh H1 ⟨us, []⟩ us vs Q gu hr I1.env0 bd r q) fun rs s' hq => ?_)
    cases rs with
    | error ev =>
      exact False.elim hq
    | ok fl =>
      cases fl with
      | ret u => exact I1.after hq
      | next => exact False.elim hq
      | brk => exact False.elim hq
      | cont => exact False.elim hq
  exact pe_imp P1 fun σ H Q ⟨s, kk⟩ => ⟨s, fun vs H1 e1 p1 dvs => ⟨p, c1, ds, .val d nw c2, dvs, p1, ho, fun v H2 e2 p2 dv hn => kk v H2 (e1.trans e2) p2 dv fun q => (hn q).back e1⟩⟩
end
section
variable {X : Cx} {W : WX} {p : HD} {ρ : Rho} {c c1 c2 : PC} {a b cc : Expr} {pos : Pos} {d1 d2 d3 : D} {n1 n2 n3 : Bool}
theorem rt_chain {op op' : CmpOp} {r r' : R2} {k1 k2 : Bool} (ho : OpR X (compareOp op) r) (ho' : OpR X (compareOp op') r') (ha : RE X W p ρ c a (.val d1 n1 c1)) (hb : RE X W p ρ c1 b (.val d2 n2 c2)) (hc : RE X W p ρ c2 cc (.val d3 n3 c2)) (h1 : OV X.K p r d1 d2 (.bl k1) true c2) (h2 : OV X.K p r' d2 d3 (.bl k2) true c2)
    (hm : lastMarks [op, op'] [b, cc] = false := by with_unfolding_all rfl) : RT X W p ρ c (.Compare a [op, op'] [b, cc] pos) (.val (k1 && k2) c2) :=
  pt_imp (pt_chain ho ho' ha hb hc hm) fun σ H Q ⟨s, k⟩ => ⟨s, fun v H1 e1 p1 dv _ => ⟨s.mono e1 p1, fun u H2 e2 p2 du _ => h1 v u H2 _ (dv.mono e2) du p2 fun w H3 e3 p3 dw _ => by
    cases dw
    refine ⟨k1, rfl, ?_⟩
    have e13 : Ext p H H3 := (e1.trans e2).trans e3
    cases k1 with
    | false => exact iteF ⟨false, rfl, k H3 e13 p3⟩
    | true => exact iteT ⟨s.mono e13 p3, fun w H4 e4 p4 dw _ => h2 u w H4 _ (du.mono (e3.trans e4)) dw p4 fun z H5 e5 p5 dz _ => by
        cases dz
        exact ⟨k2, rfl, k H5 ((e13.trans e4).trans e5) p5⟩⟩⟩⟩
end
/-! ### longer lists shown -/
theorem sz_big {d : PyData} (h1 : d.canLay0 = true) (h2 : PyData.intsShort 13 d = true) (h3 : d.weight ≤ 1000000) : d.shown.length ≤ sizeLine := by
  have h := PyData.shown_le 13 (by decide) d (PyData.leavesShort_of_canLay0 13 d h1 h2)
  have e : sizeLine = 16777216 := by decide
  omega
theorem shows_big {g : G} {ds : List D} (h : ds.all smallD = true) (hl : ds.length ≤ 5000) : Shows (.lst g ds) := by
  obtain ⟨b1, b2, b3, b4, b5, b6, b7⟩ := small_all h
  refine ⟨?_, ?_, ?_, sz_big ?_ ?_ ?_⟩
  · unfold toPy PyData.hasDict okD
    rw [b7, b1]
    simp
  · unfold toPy PyData.showable
    exact b2
  · unfold toPy PyData.depth
    omega
  · unfold toPy PyData.canLay0
    exact b3
  · unfold toPy PyData.intsShort
    exact b4
  · unfold toPy PyData.weight
    omega
theorem small_text {l : List Nat} (hl : l.length ≤ 100) (h : ∀ n ∈ l, n < 0x110000) : smallD (.str (tx l)) = true := by
  have ok : PyData.strOk (tx l) = true := by
    unfold PyData.strOk
    rw [← Array.all_toList, tx_list, List.all_eq_true]
    intro n hn
    exact decide_eq_true (h n hn)
  show (PyData.strOk (tx l) && decide ((tx l).length ≤ 100)) = true
  rw [ok, tx_len, decide_eq_true hl]
  rfl
end LA

namespace LA
open PySem PySem.Spec PyProof.Rows L2
/-! ### slices -/
section
variable {X : Cx} {W : WX} {p : HD} {ρ : Rho} {c c1 c2 c3 : PC} {e : Expr} {lo hi : Option Expr} {pos p2 : Pos} {n1 n2 nw : Bool} {i : Int} {ol oh : Option Int} {K : PySem.W.Frag} {g : G} {xs : List D}
def tPt (K : PySem.W.Frag) (p : HD) (ρ : Rho) (c : PC) (oi : Option Int) (c' : PC) : L2.TO := fun σ H R => SR K p H σ ρ c ∧ ∀ H', Ext p H H' → PoolAt K p H' c' → R oi H'
abbrev RP (X : Cx) (p : HD) (ρ : Rho) (c : PC) (o : Option Expr) (oi : Option Int) (c' : PC) : Prop := PO X o (tPt X.K p ρ c oi c')
theorem po_imp {o : Option Expr} {t t' : L2.TO} (h : PO X o t) (w : ∀ σ H Q, t' σ H Q → t σ H Q) : PO X o t' := ⟨fun pins s σ H Q I q => h.run pins s σ H Q I (w σ H Q q)⟩
theorem rp_none : RP X p ρ c none none c := po_imp po_none fun σ H R ⟨s, k⟩ => k H (Ext.refl _ _) s.pl
theorem rp_some (h : RE X W p ρ c e (.val (.int i) nw c1)) : RP X p ρ c (some e) (some i) c1 := po_imp (po_some h) fun σ H R ⟨s, k⟩ => ⟨s, fun v H1 e1 p1 dv _ => by
  cases dv
  exact ⟨i, rfl, k H1 e1 p1⟩⟩
theorem re_slS {z : Str} (he : RE X W p ρ c e (.val (.str z) n1 c1)) (hl : RP X p ρ c1 lo ol c2) (hh : RP X p ρ c2 hi oh c3) (hz : z.length ≤ sizeLine) : RE X W p ρ c (.Subscript e (.Slice lo hi none p2) pos) (.val (.str (cutS z ol oh)) true c3) :=
  pe_imp (pe_slice sl_str he hl hh) fun σ H Q ⟨s, k⟩ => ⟨s, fun v H1 e1 p1 dv _ => ⟨s.mono e1 p1, fun H2 e2 q2 => ⟨s.mono (e1.trans e2) q2, fun H3 e3 q3 => by
    cases dv
    exact ⟨z, rfl, hz, k _ H3 ((e1.trans e2).trans e3) q3 (.str _) fun _ => New.sc (by intro a h; cases h)⟩⟩⟩⟩
def cutD (xs : List D) (lo hi : Option Int) : List D := (xs.drop (HT.sIx xs.length 0 lo)).take (HT.sIx xs.length xs.length hi - HT.sIx xs.length 0 lo)
theorem dvs_drop {H : Hp} : ∀ (n : Nat) {us : List V} {ds : List D}, DVs K p H us ds → DVs K p H (us.drop n) (ds.drop n)
  | 0, _, _, h => h
  | n + 1, _, _, .nil => .nil
  | n + 1, _, _, .cons _ r => dvs_drop n r
theorem dvs_take {H : Hp} : ∀ (n : Nat) {us : List V} {ds : List D}, DVs K p H us ds → DVs K p H (us.take n) (ds.take n)
  | 0, _, _, _ => by simp only [List.take_zero]; exact .nil
  | n + 1, _, _, .nil => .nil
  | n + 1, _, _, .cons h r => .cons h (dvs_take n r)
theorem re_slL (he : RE X W p ρ c e (.val (.lst g xs) n1 c1)) (hl : RP X p ρ c1 lo ol c2) (hh : RP X p ρ c2 hi oh c3) : RE X W p ρ c (.Subscript e (.Slice lo hi none p2) pos) (.val (.lst ⟨false, true⟩ (cutD xs ol oh)) true c3) :=
  pe_imp (pe_slice sl_list he hl hh) fun σ H Q ⟨s, k⟩ => ⟨s, fun v H1 e1 p1 dv _ => ⟨s.mono e1 p1, fun H2 e2 q2 => ⟨s.mono (e1.trans e2) q2, fun H3 e3 q3 => by
    cases (dv.mono e2).mono e3 with
    | @lst a0 ys _ _ hb hq r =>
      refine ⟨_, _, rfl, un_sqL hq, fun a na => ?_⟩
      have e4 := (e1.trans e2).trans e3
      have key : DVs X.K p H3 (cutV ys ol oh) (cutD xs ol oh) := by
        unfold cutV cutD
        rw [r.length]
        exact dvs_take _ (dvs_drop _ r)
      exact k _ _ (e4.trans (Ext.new na)) (q3.upd na) (.lst ⟨(fun z => nomatch z), fun _ => hide_upd q3 na⟩ (.inl (.inl (hide_upd q3 na))) (key.mono (Ext.new na))) fun _ => (New.lst q3 na key).back e4⟩⟩⟩
end
/-! ### texts and numbers, tuples of lists -/
section
variable {K : PySem.W.Frag} {p : HD} {c : PC}
theorem cv_strI {i : Int} (h : i.natAbs.log2 < 1920) : CV K p (fun xs H Q => ∃ i, xs = [.int i] ∧ i.natAbs.log2 < 1920 ∧ Q (.str (toString i)) H) [.int i] (.str (toString i)) true c := fun vs H Q dvs hp k => by
  cases dvs with
  | cons h1 r =>
    cases r
    cases h1
    exact ⟨i, rfl, h, k _ H (Ext.refl p H) hp (.str _) fun _ => New.sc (by intro a h; cases h)⟩
theorem cv_intS {z : Str} {n : Int} (h : PySem.intText? z = some n) (hz : z.length ≤ 640) : CV K p (fun xs H Q => ∃ a n, xs = [.str a] ∧ PySem.intText? a = some n ∧ a.length ≤ 640 ∧ Q (.int n) H) [.str z] (.int n) true c := fun vs H Q dvs hp k => by
  cases dvs with
  | cons h1 r =>
    cases r
    cases h1
    exact ⟨z, n, rfl, h, hz, k _ H (Ext.refl p H) hp (.int _) fun _ => New.sc (by intro a h; cases h)⟩
theorem cv_tupL {g : G} {xs : List D} : CV K p (fun xs H Q => ∃ p ys, xs = [.ref p] ∧ ((SqL K H p ys ∧ ∀ l, H l = none → Q (.ref l) (upd H l (.tup ys))) ∨ (SqT K H p ys ∧ Q (.ref p) H))) [.lst g xs] (.tup xs) true c := fun vs H Q dvs hp k => by
  cases dvs with
  | cons h1 r =>
    cases r
    cases h1 with
    | lst hb hq ha =>
      exact ⟨_, _, rfl, .inl ⟨un_sqL hq, fun l nl => k _ _ (Ext.new nl) (hp.upd nl) (.tup (.inl (.inl (hide_upd hp nl))) (ha.mono (Ext.new nl))) fun _ => New.oth hp nl (by intro _ _ z; cases z)⟩⟩
/-- x in a list of flat items -/
theorem ov_inL {g : G} {x : D} {ds : List D} {v : V} {xs : List V} {neg : Bool} (hx : scD x = some v) (hs : ds.map scD = xs.map some) (fx : flatV v = true) (fs : xs.all flatV = true) :
    OV K p (rIn K neg) x (.lst g ds) (.bl (if neg then !inV v xs else inV v xs)) true c := fun v' u' H Q dv du hp k => by
  have e1 := dv_sc dv hx
  subst e1
  cases du with
  | lst hb h r =>
    have e2 := dvs_sc r hs
    subst e2
    exact ⟨_, _, rfl, .inl (un_sqL h), fx, fs, k _ H (Ext.refl p H) hp (.bl _) fun _ => New.sc (by intro a h; cases h)⟩
end
end LA
namespace LA
open PySem PySem.Spec PyProof.Rows L2
/-! ### isinstance by one of two types -/
section
variable {X : Cx} {W : WX} {p : HD} {ρ : Rho} {c c1 : PC} {e : Expr} {pos ps tp q1 q2 : Pos} {d : D} {nw b : Bool} {x1 x2 : Str} {t1 t2 t : String} {kk : Nat}
theorem re_isiT (hm : X.mg "isinstance" = none) (he : RE X W p ρ c e (.val d nw c1)) (h1 : X.mg x1 = none) (h2 : X.mg x2 = none) (b1 : bootBuiltins x1 = some (.type t1)) (b2 : bootBuiltins x2 = some (.type t2)) (ht : tyD d = some t) (hk : PySem.W.kitAny X.K (.type t) [.type t1, .type t2] = some b)
    (hg : Gl X "isinstance" := by rfl) (g1 : Gl X x1 := by rfl) (g2 : Gl X x2 := by rfl) (n1 : x1 ≠ "__name__" := by decide) (n2 : x2 ≠ "__name__" := by decide) (z1 : (x1 == ("__debug__" : Str)) = false := by decide) (z2 : (x2 == ("__debug__" : Str)) = false := by decide)
    (s0 : starEach [e, .Tuple [.Name x1 q1, .Name x2 q2] kk tp] X.env = (false, eval e X.env) :: starEach [.Tuple [.Name x1 q1, .Name x2 q2] kk tp] X.env := by rfl) (s1 : starEach [.Tuple [.Name x1 q1, .Name x2 q2] kk tp] X.env = (false, eval (.Tuple [.Name x1 q1, .Name x2 q2] kk tp) X.env) :: starEach [] X.env := by rfl)
    (s2 : starEach [.Name x1 q1, .Name x2 q2] X.env = (false, eval (.Name x1 q1) X.env) :: starEach [.Name x2 q2] X.env := by rfl) (s3 : starEach [.Name x2 q2] X.env = (false, eval (.Name x2 q2) X.env) :: starEach [] X.env := by rfl) (hpl : (backTo pos (starEach [.Tuple [.Name x1 q1, .Name x2 q2] kk tp] X.env)).any (·.1) = false := by rfl) :
    RE X W p ρ c (.Call (.Name "isinstance" ps) [e, .Tuple [.Name x1 q1, .Name x2 q2] kk tp] [] pos) (.val (.bl b) true c1) :=
  pe_imp (pe_callB call_isiT hg hm PyProof.Rows.boot_isinstance (pa_cons he (pa_cons (pe_tup (pa_cons (pe_bltn (v := .ty t1) g1 h1 b1 rfl n1 z1) (pa_cons (pe_bltn (v := .ty t2) g2 h2 b2 rfl n2 z2) (pa_nil (X := X)) s3) s2)) (pa_nil (X := X)) s1) s0) (by decide) (by decide) s0 hpl) fun σ H Q ⟨s, k⟩ => ⟨s, fun v H1 e1 p1 dv _ => ⟨by show 2 ≤ sizeLine; decide, fun a na =>
    ⟨v, a, _, _, _, b, rfl, upd_same, .cons (.ty t1) (.cons (.ty t2) .nil), tyx_of (dv.mono (Ext.new na)) ht, hk, k _ _ (e1.trans (Ext.new na)) (p1.upd na) (.bl b) fun _ => New.sc (by intro a h; cases h)⟩⟩⟩
end
end LA

namespace LA
open PySem PySem.Spec PyProof.Rows L2
/-! ### how many different ints -/
def difN (ns : List Int) (i : Nat) : Nat := (firstMet (fun i => ns.getD i 0) i).length
def dupAt (ns : List Int) (k : Nat) : Bool := (List.range k).any fun j => ns.getD j 0 == ns.getD k 0
theorem any_mem {l : List Int} {k : Int} : l.any (· == k) = true ↔ k ∈ l := by
  rw [List.any_eq_true]
  constructor
  · rintro ⟨x, h1, h2⟩
    rw [← eq_of_beq h2]
    exact h1
  · intro h
    exact ⟨k, h, beq_self_eq_true k⟩
theorem dif_succ (ns : List Int) (i : Nat) : difN ns (i + 1) = difN ns i + if dupAt ns i then 0 else 1 := by
  unfold difN
  rw [firstMet_succ]
  unfold step_dedup
  have e : (firstMet (fun i => ns.getD i 0) i).any (· == ns.getD i 0) = dupAt ns i := by
    rw [firstMet_any, List.any_map]
    rfl
  cases h : dupAt ns i with
  | true =>
    rw [h] at e
    rw [if_pos e]
    simp
  | false =>
    rw [h] at e
    rw [if_neg (by rw [e]; exact Bool.false_ne_true), List.length_append]
    simp
theorem dif_le (ns : List Int) (i : Nat) : difN ns i ≤ i := firstMet_length_le _ i
theorem dif_eq (ns : List Int) : ∀ i, difN ns i = i ↔ ∀ k, k < i → dupAt ns k = false
  | 0 => ⟨fun _ k h => absurd h (Nat.not_lt_zero k), fun _ => rfl⟩
  | i + 1 => by
    have ih := dif_eq ns i
    have le := dif_le ns i
    rw [dif_succ]
    constructor
    · intro h k hk
      by_cases hd : dupAt ns i = true
      · rw [if_pos hd] at h
        omega
      · rw [if_neg hd] at h
        by_cases e : k = i
        · rw [e]
          exact Bool.eq_false_iff.mpr hd
        · exact ih.mp (by omega) k (by omega)
    · intro h
      have h1 := ih.mpr fun k hk => h k (by omega)
      have h2 := h i (by omega)
      rw [h2, h1]
      rfl
theorem first_nodup (val : Nat → Int) : ∀ i, (firstMet val i).Nodup
  | 0 => List.nodup_nil
  | i + 1 => by
    rw [firstMet_succ]
    unfold step_dedup
    split
    · exact first_nodup val i
    · rename_i h
      rw [List.nodup_append]
      refine ⟨first_nodup val i, by simp, fun x hx y hy => ?_⟩
      rw [List.mem_singleton.mp hy]
      intro z
      exact h (any_mem.mpr (by rw [← z]; exact hx))
theorem first_mem {ns : List Int} {k : Int} : k ∈ firstMet (fun i => ns.getD i 0) ns.length ↔ k ∈ ns := by
  rw [← any_mem, firstMet_any, any_mem]
  have e : (List.range ns.length).map (fun i => ns.getD i 0) = ns := by
    refine List.ext_getElem? fun i => ?_
    by_cases hi : i < ns.length
    · rw [List.getElem?_map, List.getElem?_range hi, List.getElem?_eq_getElem hi]
      show some (ns.getD i 0) = _
      rw [List.getD_eq_getElem?_getD, List.getElem?_eq_getElem hi]
      rfl
    · rw [List.getElem?_eq_none (by simpa using hi), List.getElem?_eq_none (by omega)]
  rw [e]
section
variable {X : Cx} {W : WX} {p : HD} {ρ : Rho} {c c1 : PC} {a e tg : Expr} {pos p1 p2 q : Pos} {d : D} {nw : Bool} {ns : List Int} {K : PySem.W.Frag}
theorem of_ints {H : Hp} : ∀ {vs : List V} {ns : List Int}, DVs K p H vs (ns.map D.int) → vs = ns.map V.int
  | _, [], .nil => rfl
  | _, n :: r, .cons h t => by
    cases h
    rw [of_ints t]
    rfl
def isSeqOf (d : D) (ds : List D) : Prop := (∃ g, d = .lst g ds) ∨ d = .tup ds
def tLenSet (K : PySem.W.Frag) (ta : TE) : TE := fun σ H Q => ta σ H fun x H1 => ∃ (l : Addr) (ns : List Int), x = V.ref l ∧ (SqL K H1 l (ns.map V.int) ∨ SqT K H1 l (ns.map V.int)) ∧ ns.length < 64 ∧ Q (.int (difN ns ns.length : Nat)) H1
theorem pe_lenSet' {ta : TE} (hc : X.calm = true) (hg : Gl X "len") (hm : X.mg "len" = none) (hg2 : Gl X "set") (hm2 : X.mg "set" = none) (ha : PE X a ta)
    (na : starEach [a] X.env = (false, eval a X.env) :: starEach [] X.env := by rfl) : PE X (.Call (.Name "len" p1) [.Call (.Name "set" p2) [a] [] q] [] pos) (tLenSet X.K ta) := by
  refine ⟨fun pins s σ H Q I h => ?_⟩
  refine Call_ (ld_blt I hg hm PySem.boot_len ?_)
  refine PyProof.Rows.callWith_builtin1 (PyProof.Rows.args_cons ?_ rfl) rfl rfl
  refine Call_ (ld_blt I hg2 hm2 PyProof.Rows.boot_set ?_)
  refine PyProof.Rows.callWith_type1 (PyProof.Rows.args_cons (thn (ha.run pins s σ H _ I h) fun v s1 ⟨x, H1, I1, r1, q1⟩ => PyProof.Rows.args_nil ?_) na) na rfl
  obtain ⟨l, ns, rfl, hq, h1, q1⟩ := q1
  cases r1
  rcases hq with hq | hq
  · obtain ⟨its, r, pl, hz⟩ := I1.list hq
    have hl : its.toArray.size = ns.length := by rw [List.size_toArray, ← r.length, List.length_map]
    refine call_set_list (I1.ok.hd hc) pl.isList (ns := ns) (by simpa using r.ints) (by unfold scanBound; omega) fun h' tk hS hk => ?_
    rw [hl] at hS
    refine PyProof.Rows.args_nil ?_
    obtain ⟨o, es, ep, t, ho, hex, hd, _, _, _, hf, hn⟩ := hS
    have I2 : Inv X pins σ H1 { s1 with heap := h', toks := tk } := I1.kept fun b o e => hk b o (Heap.lt_size e) e
    have hn' : es.size = difN ns ns.length := hn
    have hle := dif_le ns ns.length
    refine call_len_set ho hex hd hf (by omega) ⟨.int (difN ns ns.length : Nat), H1, I2.tok _, ⟨_, by rw [hn']⟩, q1⟩
  · obtain ⟨its, rv, pt, hz⟩ := I1.tuple hq
    have hi : IntsAre its.toArray.toList ns := ints_of_vals rv
    have hd := I1.ok.hd hc
    refine call_set_tupI ns hd (show s1.heap.IsTuple l its.toArray from pt) hi (by unfold scanBound; omega) fun h' tk c R1 hcn k => ?_
    refine PyProof.Rows.args_nil ?_
    obtain ⟨o, es, ep, t, ho, hex, hdt, g, nd, hm3, hb, hf, hn, hr, hl2⟩ := R1
    have I2 : Inv X pins σ H1 { s1 with heap := h', toks := tk } := I1.kept fun b o e => k b o e
    have hn' : es.size = difN ns ns.length := by
      have pm : (es.toList.map keyOf).Perm (firstMet (fun i => ns.getD i 0) ns.length) := (List.perm_ext_iff_of_nodup nd (first_nodup _ _)).mpr fun k => by
        rw [first_mem, ← hm3 k, decide_eq_true_eq]
      have := pm.length_eq
      rw [List.length_map, Array.length_toList] at this
      exact this
    have hle := dif_le ns ns.length
    refine call_len_set ho hex hdt hf (by omega) ⟨.int (difN ns ns.length : Nat), H1, I2.tok _, ⟨_, by rw [hn']⟩, q1⟩
theorem re_lenSet (hc : X.calm = true) (hm : X.mg "len" = none) (hm2 : X.mg "set" = none) (ha : RE X W p ρ c a (.val d nw c1)) (hd : isSeqOf d (ns.map D.int)) (hl : ns.length < 64) {m : Nat} (hlm : ns.length = m) (hg : Gl X "len" := by rfl) (hg2 : Gl X "set" := by rfl)
    (na : starEach [a] X.env = (false, eval a X.env) :: starEach [] X.env := by rfl) : RE X W p ρ c (.Call (.Name "len" p1) [.Call (.Name "set" p2) [a] [] q] [] pos) (.val (.int (difN ns m : Nat)) true c1) := by
  subst hlm
  exact pe_imp (pe_lenSet' hc hg hm hg2 hm2 ha na) fun σ H Q ⟨s, k⟩ => ⟨s, fun v H1 e1 p1 dv _ => by
    have kk := k (.int (difN ns ns.length : Nat)) H1 e1 p1 (.int _) fun _ => New.sc (by intro a h; cases h)
    rcases hd with ⟨g, rfl⟩ | rfl
    · cases dv with
      | @lst a vs _ _ hb hq r =>
        rw [of_ints r] at hq
        exact ⟨a, ns, rfl, .inl (un_sqL hq), hl, kk⟩
    · cases dv with
      | @tup a vs _ hq r =>
        rw [of_ints r] at hq
        exact ⟨a, ns, rfl, .inr (un_sqT hq), hl, kk⟩⟩
/-! ### walks over tuples -/
theorem ri_tup {xs : List D} (h : RE X W p ρ c e (.val (.tup xs) nw c1)) : RI X W p ρ c tg e xs c1 :=
  pi_imp (pi_tup h) fun σ H R ⟨s, k⟩ => ⟨s, fun v H1 e1 p1 dv _ => by
    cases dv with
    | @tup a vs _ hq r =>
      refine ⟨a, rfl, ⟨vs, un_sqT hq⟩, k _ H1 e1 p1 fun q c' H2 qe qs p2 => ?_⟩
      have hq2 : SqT X.K H2 a vs := un_sqT (qs.sqT hq)
      refine ⟨⟨vs, hq2, Nat.le_of_eq r.length⟩, fun i d hd => ?_⟩
      obtain ⟨v, h1, h2⟩ := r.get hd
      refine ⟨⟨vs, v, hq2, h1⟩, fun x H3 y => ?_⟩
      obtain ⟨rfl, h3⟩ := y
      have e' : x = v := Option.some.inj ((h3 vs hq2).symm.trans h1)
      subst e'
      exact ⟨Ext.refl _ _, p2, h2.sub qs (fun i a z => by rw [qe]; exact z)⟩⟩
end
end LA

namespace LA
open PySem PySem.Spec PyProof.Rows L2
/-! ### what repr asks, of lists of lists -/
structure Tiny (w k : Nat) (d : D) : Prop where
  ok : okD false d = true
  sh : (toPy d).showable = true
  lay : (toPy d).canLay0 = true
  ish : PyData.intsShort 13 (toPy d) = true
  wt : (toPy d).weight ≤ w
  dp : (toPy d).depth ≤ k
  nd : (toPy d).hasDict = false
theorem tiny_small {d : D} (h : smallD d = true) : Tiny 100 0 d := by
  obtain ⟨a1, a2, a3, a4, a5, a6, a7⟩ := small_one h
  exact ⟨a1, a2, a3, a4, a5, Nat.le_of_eq a6, a7⟩
theorem Tiny.up {w k w' k' : Nat} {d : D} (h : Tiny w k d) (h1 : w ≤ w') (h2 : k ≤ k') : Tiny w' k' d := ⟨h.ok, h.sh, h.lay, h.ish, Nat.le_trans h.wt h1, Nat.le_trans h.dp h2, h.nd⟩
theorem tiny_all {w k : Nat} : ∀ {ds : List D}, (∀ d ∈ ds, Tiny w k d) → okDs false ds = true ∧ PyData.showableAll (toPys ds) = true ∧ PyData.canLayAll0 (toPys ds) = true ∧ PyData.intsShortAll 13 (toPys ds) = true ∧ PyData.weightAll (toPys ds) ≤ (w + 1) * ds.length ∧ PyData.depthAll (toPys ds) ≤ k ∧ PyData.hasDictAll (toPys ds) = false
  | [], _ => ⟨rfl, by unfold toPys; decide +kernel, by unfold toPys; decide +kernel, by unfold toPys; decide +kernel, by unfold toPys PyData.weightAll; omega, by unfold toPys PyData.depthAll; omega, by unfold toPys; decide +kernel⟩
  | d :: r, h => by
    obtain ⟨a1, a2, a3, a4, a5, a6, a7⟩ := h d List.mem_cons_self
    obtain ⟨b1, b2, b3, b4, b5, b6, b7⟩ := tiny_all (ds := r) fun x m => h x (List.mem_cons_of_mem _ m)
    unfold okDs toPys PyData.showableAll PyData.canLayAll0 PyData.intsShortAll PyData.weightAll PyData.depthAll PyData.hasDictAll
    rw [a1, a2, a3, a4, a7, b1, b2, b3, b4, b7, List.length_cons]
    refine ⟨rfl, rfl, rfl, rfl, ?_, ?_, rfl⟩
    · rw [Nat.mul_add, Nat.mul_one]
      omega
    · omega
theorem Tiny.lst {w k n : Nat} {g : G} {ds : List D} (h : ∀ d ∈ ds, Tiny w k d) (hl : ds.length ≤ n) : Tiny ((w + 1) * n + 10) (k + 1) (.lst g ds) := by
  obtain ⟨b1, b2, b3, b4, b5, b6, b7⟩ := tiny_all h
  have hm : (w + 1) * ds.length ≤ (w + 1) * n := Nat.mul_le_mul_left _ hl
  refine ⟨?_, ?_, ?_, ?_, ?_, ?_, ?_⟩
  · unfold okD
    rw [b1]
    simp
  · unfold toPy PyData.showable
    exact b2
  · unfold toPy PyData.canLay0
    exact b3
  · unfold toPy PyData.intsShort
    exact b4
  · unfold toPy PyData.weight
    omega
  · unfold toPy PyData.depth
    omega
  · unfold toPy PyData.hasDict
    exact b7
theorem Tiny.tup {w k n : Nat} {ds : List D} (h : ∀ d ∈ ds, Tiny w k d) (hl : ds.length ≤ n) : Tiny ((w + 1) * n + 10) (k + 1) (.tup ds) := by
  obtain ⟨b1, b2, b3, b4, b5, b6, b7⟩ := tiny_all h
  have hm : (w + 1) * ds.length ≤ (w + 1) * n := Nat.mul_le_mul_left _ hl
  refine ⟨?_, ?_, ?_, ?_, ?_, ?_, ?_⟩
  · unfold okD
    exact b1
  · unfold toPy PyData.showable
    exact b2
  · unfold toPy PyData.canLay0
    exact b3
  · unfold toPy PyData.intsShort
    exact b4
  · unfold toPy PyData.weight
    omega
  · unfold toPy PyData.depth
    omega
  · unfold toPy PyData.hasDict
    exact b7
theorem Tiny.shows {w k : Nat} {d : D} (h : Tiny w k d) (hw : w ≤ 1000000) (hk : k ≤ 60) : Shows d := by
  have := h.wt
  have := h.dp
  exact ⟨by rw [h.nd]; exact h.ok, h.sh, by omega, sz_big h.lay h.ish (by omega)⟩
theorem Tiny.one {w k : Nat} {d : D} (h : Tiny w k d) {s : Str} (hs : smallD (.str s) = true) (hw : 100 ≤ w) (hw2 : w ≤ 100000) (hk : k ≤ 50) : Shows (.lst ⟨true, true⟩ [.str s, d]) := by
  refine (Tiny.lst (w := w) (k := k) (n := 2) (ds := [.str s, d]) (fun x m => ?_) (Nat.le_refl 2)).shows (by omega) (by omega)
  rcases List.mem_cons.mp m with rfl | m
  · exact (tiny_small hs).up hw (Nat.zero_le _)
  · rw [List.mem_singleton.mp m]
    exact h
/-! ### the pool -/
structure Pl where
  cell : Int
  cnt : Int
  big : Bool
  k : Int
def Pl.ds (c : Pl) : List D := [.int c.cell, .int c.cnt, .bl c.big, .int c.k]
def Pl.c (c : Pl) : Cell := .lst c.ds
def celOf (ns : List Int) (k : Int) : Int := ns.getD k.toNat 0
def bigOf (x : Int) : Bool := decide (x ≥ 10 ^ 18)
def poolOf (ns : List Int) (k : Int) : Pl := ⟨celOf ns k, 0, bigOf (celOf ns k), k⟩
def drawV (c : Pl) (m : Int) : Int := if c.big then c.cell % m else (((((c.cell * 48271 + (c.cnt + 1) * 104729 + c.k * 8191 + 11) % 2147483647) ^ (3 : Int).toNat + (c.cnt + 1) * 7919) % 2147483629) ^ (5 : Int).toNat % 2147483587) / 16 % m
def drawC (c : Pl) (m : Int) : Pl := ⟨if c.big then c.cell / m else c.cell, c.cnt + 1, c.big, c.k⟩
theorem drawV_in {c : Pl} {m : Int} (h : 0 < m) : 0 ≤ drawV c m ∧ drawV c m < m := by
  unfold drawV
  split
  · exact ⟨Int.emod_nonneg _ (by omega), Int.emod_lt_of_pos _ h⟩
  · exact ⟨Int.emod_nonneg _ (by omega), Int.emod_lt_of_pos _ h⟩
/-- the digit drawn, as a place -/
def drawN (c : Pl) (n : Nat) : Nat := (drawV c (n : Nat)).toNat
theorem drawN_lt {c : Pl} {n : Nat} (h : 0 < n) : drawN c n < n := by
  have := drawV_in (c := c) (m := (n : Nat)) (by omega)
  unfold drawN
  omega
theorem drawN_eq {c : Pl} {n : Nat} (h : 0 < n) : drawV c (n : Nat) = ((drawN c n : Nat) : Int) := by
  have := drawV_in (c := c) (m := (n : Nat)) (by omega)
  unfold drawN
  omega
def poolR : FSpec := fun ds c o => ∃ (g : G) (ns : List Int) (k : Nat), ds = [.lst g (ns.map D.int), .int (k : Nat)] ∧ o = .val (.lst ⟨true, true⟩ (poolOf ns k).ds) true c
def drawR : FSpec := fun ds c o => ∃ (i : Nat) (m : Int) (x : Pl), ds = [.mut i, .int m] ∧ c[i]? = some x.c ∧ 0 < m ∧ m < 1073741824 ∧ o = .val (.int (drawV x m)) false (c.set i (drawC x m).c)
theorem at_set {α : Type} {c : List α} {i : Nat} {x y : α} (h : c[i]? = some x) : (c.set i y)[i]? = some y := by
  rw [List.getElem?_set_self (List.getElem?_eq_some_iff.mp h).1]
theorem small_pow {x m : Int} (h : 0 < m) (hm : m ≤ 2147483648) : (x % m).natAbs < 2 ^ 64 := by
  have h1 := Int.emod_nonneg x (show m ≠ 0 by omega)
  have h2 := Int.emod_lt_of_pos x h
  have : (2 : Nat) ^ 64 = 18446744073709551616 := by decide
  omega
theorem cmul_r {i j : Int} (h1 : -1000000000 < j) (h2 : j < 1000000000) : CMul i j := by
  have e1 : (-(2 ^ 64) : Int) = -18446744073709551616 := by decide
  have e2 : (2 ^ 64 : Int) = 18446744073709551616 := by decide
  exact .inr ⟨by omega, by omega⟩
end LA

namespace LA
open PySem PySem.Spec PyProof.Rows L2
/-! ### error classes of one field -/
structure Err1 (P : Program) (w : World) (K : PySem.W.Frag) (mg : Str → Option Value) (base : Heap) (x f : Str) (C : Addr) : Prop where
  ox : OexC K C
  xf : XfC K C
  no : PySem.W.findIn K (.ref C) f = some none
  ini : ∃ g fd pn, PySem.W.findIn K (.ref C) "__init__" = some (some (.ref g)) ∧ PySem.W.typeIn K (.ref g) = some (.type "function") ∧ FnOk P w K mg base CX0 1 g fd ["self", pn] (spIni1 K f) ∧ Binds K fd ["self", pn] []
  mg : mg x = some (.ref C)
section
variable {X : Cx} {W : WX} {p : HD} {ρ : Rho} {c c1 : PC} {e : Expr} {pos pos2 xp : Pos} {d : D} {n1 : Bool} {x f : Str} {C : Addr}
theorem rs_raiseG (hc : X.calm = true) (tk : Takes X W) (E : Err1 X.prog X.w X.K X.mg X.base x f C) (hr : Room 2 X.A) (he : RE X W p ρ c e (.val d n1 c1)) (hg : Gl X x := by rfl)
    (hdb : (x == ("__debug__" : Str)) = false := by decide) (hs : starEach (e :: []) X.env = (false, eval e X.env) :: starEach [] X.env := by rfl) (hpl : (backTo pos (starEach [] X.env)).any (·.1) = false := by rfl) :
    RS X W p ρ c (.Raise (some (.Call (.Name x xp) [e] [] pos)) none pos2) (.ex C [(f, d)] c1) := by
  obtain ⟨g, fd, pn, h1, h2, h3, h4⟩ := E.ini
  exact rs_raise1 hc tk E.ox E.no h1 h2 h3 hr h4 E.mg he hg hdb hs hpl
end
theorem cv_lenTup {K : PySem.W.Frag} {p : HD} {c : PC} {ds : List D} : CV K p (fun xs H Q => ∃ x n, xs = [x] ∧ LenV K x H n ∧ Q (.int n) H) [.tup ds] (.int (ds.length : Nat)) true c := fun vs H Q dvs hp k => by
  cases dvs with
  | cons h r =>
    cases r
    cases h with
    | tup hq ha =>
      refine ⟨_, ds.length, rfl, .inr ⟨_, un_sqT hq, ha.length.symm⟩, k _ H (Ext.refl p H) hp (.int _) fun _ => New.sc (by intro a h; cases h)⟩
theorem kit2 {K : PySem.W.Frag} {t a b : String} {b1 b2 : Bool} (h1 : kitB t a = some b1) (h2 : kitB t b = some b2) : PySem.W.kitAny K (.type t) [.type a, .type b] = some (b1 || b2) := by
  unfold PySem.W.kitAny
  rw [kit_ty h1]
  cases b1 with
  | true => rfl
  | false =>
    show PySem.W.kitAny K (.type t) [.type b] = some b2
    unfold PySem.W.kitAny
    rw [kit_ty h2]
    cases b2 <;> rfl
/-! ### what an expression gives, as what a statement does -/
def asSt : EO → SO
  | .val d nw c => .rt d nw c
  | .ex C fs c => .ex C fs c
theorem rss_retO {X : Cx} {W : WX} {p : HD} {ρ : Rho} {c : PC} {e : Expr} {pos : Pos} {o : EO} {rest : List Stmt} (h : RE X W p ρ c e o) : RSs X W p ρ c (.Return (some e) pos :: rest) (asSt o) := by
  cases o with
  | val d nw c' => exact rss_ret (rs_ret h)
  | ex C fs c' => exact rss_ex (rs_retX h)
theorem rss_ifO {X : Cx} {W : WX} {p : HD} {ρ : Rho} {c c1 : PC} {t : Expr} {A : List Stmt} {pos : Pos} {o : EO} {rest : List Stmt} (ht : RT X W p ρ c t (.val true c1)) (h : RSs X W p ρ c1 A (asSt o)) : RSs X W p ρ c (.If t A [] pos :: rest) (asSt o) := by
  cases o with
  | val d nw c' => exact rss_ret (rs_if (kb := true) ht (fun _ => h) fun z => nomatch z)
  | ex C fs c' => exact rss_ex (rs_if (kb := true) ht (fun _ => h) fun z => nomatch z)
theorem bodyOk_of {X : Cx} {W : WX} {p : HD} {ρ : Rho} {c : PC} {body : List Stmt} {o : EO} (h : RSs X W p ρ c body (asSt o)) : BodyOk X W p ρ c body o := by
  cases o with
  | val d nw c' => exact .inl h
  | ex C fs c' => exact h
/-! ### parts of texts -/
theorem cut_lo {l : List Nat} {i : Nat} (h : i ≤ l.length) : cutS (tx l) none (some (i : Nat)) = tx (l.take i) := by
  unfold cutS
  rw [HT.sIx_none, HT.sIx_nat, tx_list, tx_len, Nat.min_eq_left h]
  rfl
theorem cut_hi {l : List Nat} {i : Nat} (h : i ≤ l.length) : cutS (tx l) (some (i : Nat)) none = tx (l.drop i) := by
  unfold cutS
  rw [HT.sIx_none, HT.sIx_nat, tx_list, tx_len, Nat.min_eq_left h, List.take_of_length_le (by rw [List.length_drop]; omega)]
  rfl
theorem set_cut {l : List Nat} {i : Nat} {a : Nat} (h : i < l.length) : l.take i ++ [a] ++ l.drop (i + 1) = l.set i a := by
  rw [List.set_eq_take_append_cons_drop, if_pos h, List.append_assoc]
  rfl
theorem digit_str {i : Int} (h : i = 0 ∨ i = 1) : (toString i).toList.map Char.toNat = [48 + i.toNat] := by
  rcases h with rfl | rfl <;> decide
/-! ### signs that are not of a text -/
def odds (a l : List Nat) : List D := coll (fun i => !decide (l.getD i 0 ∈ a)) (fun i => .str (chr1 (l.getD i 0))) l.length
theorem odds_nil (a l : List Nat) : (odds a l).isEmpty = l.all fun n => decide (n ∈ a) := by
  unfold odds
  rw [coll_none, ← all_get l]
  congr 1
  funext i
  rw [Bool.not_not]
theorem odds_ok {a l : List Nat} (h : ∀ n ∈ l, n < 0x110000) : (odds a l).all flatOk = true := by
  unfold odds
  rw [coll_some, List.all_map, List.all_eq_true]
  intro i hi
  have hi' := List.mem_range.mp (List.mem_filter.mp hi).1
  show PyData.strOk (chr1 (l.getD i 0)) = true
  unfold PyData.strOk chr1
  have : l.getD i 0 ∈ l := by
    rw [List.getD_eq_getElem?_getD, List.getElem?_eq_getElem hi']
    exact List.getElem_mem _
  have q := h _ this
  generalize l.getD i 0 = m at q
  simp [q]
/-- the first place at which a test fails -/
theorem first_bad (b : Nat → Bool) : ∀ n : Nat, ∃ m, m ≤ n ∧ (∀ i, i < m → b i = true) ∧ (m = n ∨ (m < n ∧ b m = false))
  | 0 => ⟨0, Nat.le_refl _, (fun i h => absurd h (Nat.not_lt_zero i)), .inl rfl⟩
  | n + 1 => by
    obtain ⟨m, h1, h2, h3⟩ := first_bad b n
    rcases h3 with rfl | ⟨h3, h4⟩
    · cases hb : b m with
      | false => exact ⟨m, by omega, h2, .inr ⟨by omega, hb⟩⟩
      | true => exact ⟨m + 1, Nat.le_refl _, (fun i hi => by
          by_cases e : i = m
          · rw [e, hb]
          · exact h2 i (by omega)), .inl rfl⟩
    · exact ⟨m, by omega, h2, .inr ⟨by omega, h4⟩⟩
theorem ov_ixSeq {K : PySem.W.Frag} {p : HD} {c : PC} {b d : D} {xs : List D} {i : Int} {j : Nat} (h : isSeqOf b xs) (e : i = (j : Int)) (hx : xs[j]? = some d) : OV K p (rIx K) b (.int i) d false c := by
  rcases h with ⟨g, rfl⟩ | rfl
  · exact ov_ixL e hx
  · exact ov_ixT e hx
theorem cv_lenSeq {K : PySem.W.Frag} {p : HD} {c : PC} {b : D} {xs : List D} (h : isSeqOf b xs) : CV K p (fun xs H Q => ∃ x n, xs = [x] ∧ LenV K x H n ∧ Q (.int n) H) [b] (.int (xs.length : Nat)) true c := by
  rcases h with ⟨g, rfl⟩ | rfl
  · exact cv_lenL
  · exact cv_lenTup
structure Def1K (P : Program) (w : World) (K : PySem.W.Frag) (mg : Str → Option Value) (base : Heap) (k : Nat) (x : Str) (ps : List Str) (R : FSpec) (n : Nat) (ks : List Str) (g : List Value → List Value → List Value) (gV : List V → List V → List V) : Prop where
  ex : ∃ (f : Addr) (fd : FuncData), FnOk P w K mg base (L2.CX P w) k f fd ps (spF K R) ∧ mg x = some (.ref f) ∧ PySem.W.keepIn K (.ref f) = true ∧ KBn K fd ps n ks g gV
/-! ### what the head leaves -/
/-- a def of the top as the head has left it -/
structure Gf (K : PySem.W.Frag) (x : Str) (st : Stmt) : Prop where
  ex : ∃ f fd, PySem.W.nsIn K mainGlobals x = some (some (.ref f)) ∧ Fun K x x st f fd
theorem gf_mk {K : PySem.W.Frag} {x : Str} {st : Stmt} {f : Addr} {oc kV dc pm cd ct : Value} {od an : Option Addr} {sl : Array (Option Value)} (a : PySem.W.nsIn K mainGlobals x = some (some (.ref f)))
    (l : K.lookup f = some ⟨oc, od, .func (PySem.W.fnOf x x (defArgs st) (defBody st) (defScope st) .none kV dc pm an cd ct), sl⟩) (c : PySem.W.codeIn K cd x = true) (k : PySem.W.keepIn K (.ref f) = true) : Gf K x st := ⟨⟨f, _, a, fun_mk l c k⟩⟩
/-- an error class and its maker -/
structure Ge (K : PySem.W.Frag) (x q : Str) (st : Stmt) (C : Addr) : Prop where
  ns : PySem.W.nsIn K mainGlobals x = some (some (.ref C))
  ox : OexC K C
  xf : XfC K C
  ini : ∃ f fd, PySem.W.findIn K (.ref C) "__init__" = some (some (.ref f)) ∧ PySem.W.typeIn K (.ref f) = some (.type "function") ∧ Fun K "__init__" q st f fd
theorem ge_mk {K : PySem.W.Frag} {x q nm qn : Str} {st : Stmt} {C f N : Addr} {bs bm sub : List Value} {sn : List Str} {ab : Bool} {col : Option Bool} {dd od an : Option Addr} {m0 m1 m2 m3 m5 : Option Value} {oc kV dc pm cd ct : Value} {sl : Array (Option Value)}
    (ns : PySem.W.nsIn K mainGlobals x = some (some (.ref C))) (xL : K.lookup C = some (excClassObj nm qn C N bs bm true sn sub ab col dd m0 m1 m2 m3 m5 "ValueError.__new__")) (hv : PySem.HandSPX.refsVE bm = true) (sa : PySem.W.findIn K (.ref C) "__setattr__" = some (some (.builtin "object.__setattr__")))
    (eC : PySem.W.subIn K (.ref C) (.type "BaseException") = some true) (tC : PySem.W.typeIn K (.ref C) = some (.type "type")) (kC : PySem.W.keepIn K (.ref C) = true) (ga : PySem.W.findIn K (.ref C) "__getattribute__" = some (some (.builtin "BaseException.__getattribute__"))) (gg : PySem.W.findIn K (.ref C) "__getattr__" = some none) (hC : PySem.W.hasDictIn K C = true)
    (a : PySem.W.findIn K (.ref C) "__init__" = some (some (.ref f))) (t : PySem.W.typeIn K (.ref f) = some (.type "function")) (l : K.lookup f = some ⟨oc, od, .func (PySem.W.fnOf "__init__" q (defArgs st) (defBody st) (defScope st) .none kV dc pm an cd ct), sl⟩) (c : PySem.W.codeIn K cd q = true) (k : PySem.W.keepIn K (.ref f) = true) : Ge K x q st C :=
  ⟨ns, ⟨⟨nm, qn, N, bs, bm, sn, sub, ab, col, dd, m0, m1, m2, m3, m5, xL, hv⟩, sa, eC, tC, kC⟩, ⟨ga, gg, eC, hC⟩, f, _, a, t, fun_mk l c k⟩
theorem gn_mk {K : PySem.W.Frag} {x : Str} {C : Addr} (ns : PySem.W.nsIn K mainGlobals x = some (some (.ref C))) : PySem.W.nsIn K mainGlobals x = some (some (.ref C)) := ns
section
variable {P : Program} {w : World} {K : PySem.W.Frag} {mg : Str → Option Value} {base h : Heap} {x : Str} {st : Stmt} {ps : List Str} {k : Nat} {R : FSpec}
theorem def0 (X : K.In h) (G : h.Ns mainGlobals mg) (g : Gf K x st) (hf : ∀ f fd, Fun K x x st f fd → FnOk P w K mg base CX0 k f fd ps (spF K R))
    (hb : ∀ (kV doc pm : Value) (an : Option Addr) (cdv ct : Value) (us : List Value), us.length = ps.length → bindArgs (PySem.W.fnOf x x (defArgs st) (defBody st) (defScope st) .none kV doc pm an cdv ct) ⟨us, []⟩ = pure (ps.zip us)) : Def0 P w K mg base k x ps R := by
  obtain ⟨f, fd, a, F⟩ := g.ex
  exact ⟨⟨f, fd, hf f fd F, PySem.W.mg_of X G a, F.kp, F.binds hb⟩⟩
theorem def1 (X : K.In h) (G : h.Ns mainGlobals mg) (g : Gf K x st) (hf : ∀ f fd, Fun K x x st f fd → FnOk P w K mg base (L2.CX P w) k f fd ps (spF K R))
    (hb : ∀ (kV doc pm : Value) (an : Option Addr) (cdv ct : Value) (us : List Value), us.length = ps.length → bindArgs (PySem.W.fnOf x x (defArgs st) (defBody st) (defScope st) .none kV doc pm an cdv ct) ⟨us, []⟩ = pure (ps.zip us)) : Def1 P w K mg base k x ps R := by
  obtain ⟨f, fd, a, F⟩ := g.ex
  exact ⟨⟨f, fd, hf f fd F, PySem.W.mg_of X G a, F.kp, F.binds hb⟩⟩
theorem err1 {q f pn : Str} {C : Addr} {q1 q2 q3 q4 : Pos} (X : K.In h) (G : h.Ns mainGlobals mg) (g : Ge K x q st C) (no : PySem.W.findIn K (.ref C) f = some none) (S : FnScope ["self", pn] ["self", pn] (defScope st)) (hb : defBody st = [.Assign [.Attribute (.Name "self" q1) f q2] (.Name pn q3) q4])
    (h1 : (pn == ("__debug__" : Str)) = false) (h2 : (pn == ("__classdict__" : Str)) = false)
    (hbd : ∀ (kV doc pm : Value) (an : Option Addr) (cdv ct : Value) (us : List Value), us.length = (["self", pn] : List Str).length → bindArgs (PySem.W.fnOf "__init__" q (defArgs st) (defBody st) (defScope st) .none kV doc pm an cdv ct) ⟨us, []⟩ = pure ((["self", pn] : List Str).zip us)) : Err1 P w K mg base x f C := by
  obtain ⟨f1, fd, i1, t1, F⟩ := g.ini
  exact ⟨g.ox, g.xf, no, ⟨f1, fd, pn, i1, t1, ok_ini1 F S hb h1 h2, F.binds hbd⟩, PySem.W.mg_of X G g.ns⟩
theorem def1K {n : Nat} {ks : List Str} {g' : List Value → List Value → List Value} {gV : List V → List V → List V} (X : K.In h) (G : h.Ns mainGlobals mg) (g : Gf K x st) (hf : ∀ f fd, Fun K x x st f fd → FnOk P w K mg base (L2.CX P w) k f fd ps (spF K R))
    (hb : ∀ (kV doc pm : Value) (an : Option Addr) (cdv ct : Value) (us ws : List Value), us.length = n → ws.length = ks.length → bindArgs (PySem.W.fnOf x x (defArgs st) (defBody st) (defScope st) .none kV doc pm an cdv ct) ⟨us, ks.zip ws⟩ = pure (ps.zip (g' us ws)))
    (hv : ∀ {vs : List V} {us : List Value} {zs : List V} {ws : List Value}, Vals vs us → Vals zs ws → Vals (gV vs zs) (g' us ws)) : Def1K P w K mg base k x ps R n ks g' gV := by
  obtain ⟨f, fd, a, F⟩ := g.ex
  refine ⟨⟨f, fd, hf f fd F, PySem.W.mg_of X G a, F.kp, ⟨fun s us ws _ h1 h2 => ?_, hv⟩⟩⟩
  obtain ⟨oc, od, kV, doc, pm, an, cdv, ct, osl, rfl, _⟩ := F.ex
  exact .of_eq (hb kV doc pm an cdv ct us ws h1 h2)
theorem vals_rev : ∀ {vs : List V} {us : List Value}, Vals vs us → Vals vs.reverse us.reverse
  | _, _, .nil => .nil
  | _, _, .cons h r => by
    rw [List.reverse_cons, List.reverse_cons]
    exact (vals_rev r).append (.cons h .nil)
end
theorem dvs_script {K : PySem.W.Frag} {H : Hp} {a : Addr} {ns : List Int} (sq : SqL K H a (ns.map V.int)) : DVs K ⟨[], []⟩ H [.ref a] [.lst ⟨false, false⟩ (ns.map D.int)] := by
  refine .cons (.lst ⟨(fun z => nomatch z), fun z => nomatch z⟩ (Sub.sqL (fun b o y => ?_) sq) ?_) .nil
  · rw [hide_ne]
    · exact y
    · rintro (z | z)
      · cases z
      · cases z
  · clear sq
    induction ns with
    | nil => exact .nil
    | cons n r ih => exact .cons (.int n) ih
theorem pool_none {K : PySem.W.Frag} {H : Hp} : PoolAt K ⟨[], []⟩ H [] := ⟨⟨List.nodup_nil, rfl, fun i b x h => by simp at h⟩, fun b z => nomatch z⟩
end LA

namespace LA
open PySem PySem.Spec PyProof.Rows L2
/-! ### the bag -/
structure Bg where
  xs : List Int
  w : Int
  s : Int
  n : Int
def Bg.ds (b : Bg) : List D := [.lst ⟨false, true⟩ (b.xs.map D.int), .int b.w, .int b.s, .int b.n]
def Bg.c (b : Bg) : Cell := .lst b.ds
def abI (i : Int) : Int := if i < 0 then -i else i
/-- a cell is taken -/
def Bg.took (b : Bg) : Bg := match b.xs with
  | [] => b
  | x :: r => if b.w = 0 then ⟨r, if abI x ≥ 10 ^ (18 : Int).toNat then abI x else b.w, (b.s * 69069 + x * 48271 + 5) % 2147483647, b.n⟩ else b
def mixV (s n m : Int) : Int := (((((s + n * 40692) % 2147483647) ^ (3 : Int).toNat + n * 16807 + 7) % 2147483629) ^ (2 : Int).toNat + 3 * ((((s + n * 40692) % 2147483647) ^ (3 : Int).toNat + n * 16807 + 7) % 2147483629)) % 2147483587 / 8 % m
def bagV (b : Bg) (m : Int) : Int := if b.took.w > 0 then b.took.w % m else mixV b.took.s (b.took.n + 1) m
def bagC (b : Bg) (m : Int) : Bg := if b.took.w > 0 then { b.took with w := b.took.w / m } else { b.took with n := b.took.n + 1 }
theorem bagV_in {b : Bg} {m : Int} (h : 0 < m) : 0 ≤ bagV b m ∧ bagV b m < m := by
  unfold bagV mixV
  split
  · exact ⟨Int.emod_nonneg _ (by omega), Int.emod_lt_of_pos _ h⟩
  · exact ⟨Int.emod_nonneg _ (by omega), Int.emod_lt_of_pos _ h⟩
def bagR : FSpec := fun ds c o => ∃ (g : G) (ns : List Int), ds = [.lst g (ns.map D.int)] ∧ o = .val (.lst ⟨true, true⟩ (Bg.ds ⟨ns, 0, 29, 0⟩)) true c
def bdrawR : FSpec := fun ds c o => ∃ (m : Int) (b : Bg), ds = [.mut 0, .int m] ∧ c = [b.c] ∧ 0 < m ∧ m.natAbs.log2 < 9000 ∧ o = .val (.int (bagV b m)) false [(bagC b m).c]
section
variable {X : Cx} {W : WX} {p : HD} {ρ : Rho} {c c1 : PC} {e : Expr} {es : List Expr} {pos xp : Pos} {d : D} {nw : Bool} {K : PySem.W.Frag} {g : G} {xs : List D} {ds : List D} {x : Str}
theorem cv_listL : CV K p (fun vs H Q => ∃ p ys, vs = [.ref p] ∧ (SqL K H p ys ∨ SqT K H p ys) ∧ ∀ l, H l = none → Q (.ref l) (upd H l (.lst ys))) [.lst g xs] (.lst ⟨false, true⟩ xs) true c := fun vs H Q dvs hp k => by
  cases dvs with
  | cons h1 r =>
    cases r
    cases h1 with
    | lst hb hq ha =>
      exact ⟨_, _, rfl, .inl (un_sqL hq), fun l nl => k _ _ (Ext.new nl) (hp.upd nl) (.lst ⟨(fun z => nomatch z), fun _ => hide_upd hp nl⟩ (.inl (.inl (hide_upd hp nl))) (ha.mono (Ext.new nl))) fun _ => New.lst hp nl ha⟩
theorem cv_listT : CV K p (fun vs H Q => ∃ p ys, vs = [.ref p] ∧ (SqL K H p ys ∨ SqT K H p ys) ∧ ∀ l, H l = none → Q (.ref l) (upd H l (.lst ys))) [.tup xs] (.lst ⟨false, true⟩ xs) true c := fun vs H Q dvs hp k => by
  cases dvs with
  | cons h1 r =>
    cases r
    cases h1 with
    | tup hq ha =>
      exact ⟨_, _, rfl, .inr (un_sqT hq), fun l nl => k _ _ (Ext.new nl) (hp.upd nl) (.lst ⟨(fun z => nomatch z), fun _ => hide_upd hp nl⟩ (.inl (.inl (hide_upd hp nl))) (ha.mono (Ext.new nl))) fun _ => New.lst hp nl ha⟩
theorem cv_abs {i : Int} : CV K p (fun xs H Q => ∃ i, xs = [.int i] ∧ Q (.int (if i < 0 then -i else i)) H) [.int i] (.int (abI i)) true c := fun vs H Q dvs hp k => by
  cases dvs with
  | cons h r =>
    cases r
    cases h
    exact ⟨i, rfl, k _ H (Ext.refl p H) hp (.int _) fun _ => New.sc (by intro a h; cases h)⟩
theorem cv_gcd {a b : Int} : CV K p rGcd [.int a, .int b] (.int ((Nat.gcd a.natAbs b.natAbs : Nat) : Int)) true c := fun vs H Q dvs hp k => by
  cases dvs with
  | cons h r =>
    cases r with
    | cons h2 r =>
      cases r
      cases h
      cases h2
      exact ⟨a, b, rfl, k _ H (Ext.refl p H) hp (.int _) fun _ => New.sc (by intro a h; cases h)⟩
/-- a call of a built-in that stands under a module's name -/
theorem re_callBf {id : String} {r : List V → Hp → VK → Prop} (hc : CallR X (.builtin id) r) (hm : X.mg x = some (.builtin id)) (ha : RA X W p ρ c (e :: es) (.val ds c1)) (hr : CV X.K p r ds d nw c1)
    (hg : Gl X x := by rfl) (hdb : (x == ("__debug__" : Str)) = false := by decide)
    (he : starEach (e :: es) X.env = (false, eval e X.env) :: starEach es X.env := by rfl) (hpl : (backTo pos (starEach es X.env)).any (·.1) = false := by rfl) : RE X W p ρ c (.Call (.Name x xp) (e :: es) [] pos) (.val d nw c1) :=
  pe_imp (pe_callBfun hc hg hm ha hdb he hpl) fun σ H Q ⟨s, k⟩ => ⟨s, fun vs H1 e1 p1 dvs => hr vs H1 Q dvs p1 fun w H2 e2 p2 dw hn => k w H2 (e1.trans e2) p2 dw fun q => (hn q).back e1⟩
end
/-- // by any int but 0 -/
theorem op_fdivA {X : Cx} : OpR X (binaryOp .FloorDiv) (rI (fun _ j => j ≠ 0 ∧ j.natAbs.log2 < 9000) fun i j => .int (i.fdiv j)) := opI fun i j _ _ _ _ _ hc q => floordiv_int hc.1 q (.inl (PyProof.noPylong_of_log2 hc.2))
theorem log_lt {m : Int} {n : Nat} (h : m.natAbs < 2 ^ n) (hn : 0 < n) : m.natAbs.log2 < n := PySem.Flt.log2_lt_of hn h
end LA

namespace K60
open PySem PySem.Spec PyProof.Rows L2 LA
def top (i : Nat) : Stmt := PySem.Challenge.pw_leastlooks_k60_fractions.main.body.getD i (.Pass ⟨0, 0, 0, 0⟩)
abbrev sBag : Stmt := top 7
abbrev sDraw : Stmt := top 8
/-- built-in names that the text leaves alone -/
structure Glb (mg : Str → Option Value) : Prop where
  len : mg "len" = none
  int : mg "int" = none
  range : mg "range" = none
  list : mg "list" = none
  isi : mg "isinstance" = none
  bool : mg "bool" = none
  abs : mg "abs" = none
  tuple : mg "tuple" = none
section
variable {P : Program} {w : World} {K : PySem.W.Frag} {mg : Str → Option Value} {base : Heap}
theorem scBag : FnScope ["_law_script"] ["_law_script"] (defScope sBag) := ⟨rfl, rfl, rfl, by decide +kernel, rfl, by decide +kernel, by decide +kernel⟩
theorem ok_bag {f : Addr} {fd : FuncData} (G : Glb mg) (F : Fun K "_law_bag" "_law_bag" sBag f fd) : FnOk P w K mg base CX0 1 f fd ["_law_script"] (spF K bagR) := by
  refine fn_val F scBag (fun ds c o h => ?_) (fun ds c o h => ?_) (fun cdv A outer s H E hr p ds c o h => ?_)
  · obtain ⟨g, ns, rfl, _⟩ := h
    rfl
  · obtain ⟨g, ns, _, rfl⟩ := h
    exact ⟨_, _, _, rfl⟩
  · obtain ⟨g, ns, rfl, rfl⟩ := h
    exact .inl (rss_ret (rs_ret (re_lst (ra_cons (re_callT call_list_of G.list PyProof.Rows.boot_list (ra_cons (re_var 0) ra_nil) cv_listL) (ra_cons re_int (ra_cons re_int (ra_cons re_int ra_nil)))) (by show 4 ≤ 100000; decide))))
abbrev nBd : List Str := ["_law_bag_here", "_law_many", "_law_cell", "_law_digit", "_law_mixed"]
theorem scBd : FnScope nBd ["_law_bag_here", "_law_many"] (defScope sDraw) := ⟨rfl, rfl, rfl, by decide +kernel, rfl, by decide +kernel, by decide +kernel⟩
theorem low_i (n : Nat) : ∀ ns : List Int, lowDs n (ns.map D.int) = true
  | [] => rfl
  | a :: r => low_i n r
theorem flat_i (ns : List Int) : (ns.map D.int).all flatOk = true := by
  rw [List.all_map, List.all_eq_true]
  intro n _
  rfl
theorem cut_tail (x : Int) (r : List Int) : LA.cutD ((x :: r).map D.int) (some 1) none = r.map D.int := by
  unfold LA.cutD
  have e : HT.sIx ((x :: r).map D.int).length 0 (some 1) = 1 := by
    have := HT.sIx_nat ((x :: r).map D.int).length 0 1
    rw [List.length_map, List.length_cons] at *
    exact this.trans (Nat.min_eq_left (by omega))
  rw [e, HT.sIx_none, List.length_map, List.length_cons]
  show ((r.map D.int).take _) = _
  rw [List.take_of_length_le (by rw [List.length_map]; omega)]
variable {f : Addr} {cdv : Value} {A : Around} {outer : List Env} {s : Shared} {H : Hp} {E : XK}
abbrev cxBd (P : Program) (w : World) (K : PySem.W.Frag) (mg : Str → Option Value) (base : Heap) (f : Addr) (cdv : Value) (A : Around) (outer : List Env) (s : Shared) (H : Hp) (E : XK) : Cx := (cxOf CX0 P w K mg base nBd "_law_draw" (defScope sDraw) f cdv A outer s H E).nox
/-- behind the taking of a cell -/
theorem draw_rest {p : HD} {b : Bg} {m : Int} {o : Option D} (G : Glb mg) (h0 : 0 < m) (h1 : m.natAbs.log2 < 9000) :
    RSs (cxBd P w K mg base f cdv A outer s H E) Wf p [some (.mut 0), some (.int m), o, none, none] [b.c] ((defBody sDraw).drop 1) (.rt (.int (if b.w > 0 then b.w % m else mixV b.s (b.n + 1) m)) false [(if b.w > 0 then ({ b with w := b.w / m } : Bg) else { b with n := b.n + 1 }).c]) := by
  obtain ⟨xs, wd, sd, nd⟩ := b
  have hb : ([Bg.c ⟨xs, wd, sd, nd⟩] : LA.PC)[0]? = some (.lst (Bg.ds ⟨xs, wd, sd, nd⟩)) := rfl
  have tt : ∀ {k : Bool}, decide (wd > 0) = k → OV K p (rI0 fun i j => V.bl (decide (i > j))) (.int wd) (.int 0) (.bl k) true [Bg.c ⟨xs, wd, sd, nd⟩] := fun {k} hk => by
    have q := ov_ib (K := K) (p := p) (c := [Bg.c ⟨xs, wd, sd, nd⟩]) (f := fun i j => decide (i > j)) (i := wd) (j := 0)
    rw [hk] at q
    exact q
  by_cases hw : wd > 0
  · rw [if_pos (show (Bg.w ⟨xs, wd, sd, nd⟩) > 0 from hw), if_pos (show (Bg.w ⟨xs, wd, sd, nd⟩) > 0 from hw)]
    refine rss_ret (rs_if (kb := true) (rt_cmp op_gt (re_mix 0 0 1 hb rfl) re_int (tt (decide_eq_true hw))) (fun _ => ?_) fun z => nomatch z)
    refine rss_cons (rs_set 3 scBd.nd (re_bin op_mod (re_callT call_int1 G.int PyProof.Rows.boot_int (ra_cons (re_mix 0 0 1 hb rfl) ra_nil) cv_int) (re_var 1) (ov_cii h0))) ?_
    refine rss_cons (c1 := [Bg.c ⟨xs, wd / m, sd, nd⟩]) (rs_mst 0 0 1 (d := .int (wd / m)) (ds := Bg.ds ⟨xs, wd, sd, nd⟩) (re_bin op_fdivW (re_mix 0 0 1 hb rfl) (re_var 1) (ov_cii ⟨h0, h1⟩)) re_int hb (by show 1 < 4; decide) rfl) ?_
    exact rss_ret (rs_ret (re_var 3))
  · rw [if_neg (show ¬ (Bg.w ⟨xs, wd, sd, nd⟩) > 0 from hw), if_neg (show ¬ (Bg.w ⟨xs, wd, sd, nd⟩) > 0 from hw)]
    refine rss_cons (c1 := [Bg.c ⟨xs, wd, sd, nd⟩]) (rs_if (kb := false) (rt_cmp op_gt (re_mix 0 0 1 hb rfl) re_int (tt (decide_eq_false hw))) (fun z => nomatch z) fun _ => rss_nil) ?_
    have hb1 : ([Bg.c ⟨xs, wd, sd, nd + 1⟩] : LA.PC)[0]? = some (.lst (Bg.ds ⟨xs, wd, sd, nd + 1⟩)) := rfl
    refine rss_cons (c1 := [Bg.c ⟨xs, wd, sd, nd + 1⟩]) (rs_mst 0 0 3 (d := .int (nd + 1)) (ds := Bg.ds ⟨xs, wd, sd, nd⟩) (re_bin op_add (re_mix 0 0 3 hb rfl) re_int ov_ii) re_int hb (by show 3 < 4; decide) rfl) ?_
    refine rss_cons (rs_set 4 scBd.nd (re_bin op_mod (re_callT call_int1 G.int PyProof.Rows.boot_int (ra_cons (re_bin op_add (re_mix 0 0 2 hb1 rfl) (re_bin op_mul (re_mix 0 0 3 hb1 rfl) re_int (ov_cii (cmul_r (by decide) (by decide)))) ov_ii) ra_nil) cv_int) re_int (ov_cii (by show (0 : Int) < _; decide)))) ?_
    refine rss_cons (rs_set 4 scBd.nd (re_bin op_mod (re_callT call_int1 G.int PyProof.Rows.boot_int (ra_cons (re_bin op_add (re_bin op_add (re_bin op_pow (re_var 4) re_int (ov_cii ⟨by decide, by decide, small_pow (by decide) (by decide)⟩)) (re_bin op_mul (re_mix 0 0 3 hb1 rfl) re_int (ov_cii (cmul_r (by decide) (by decide)))) ov_ii) re_int ov_ii) ra_nil) cv_int) re_int (ov_cii (by show (0 : Int) < _; decide)))) ?_
    refine rss_ret (rs_ret (re_old (re_bin op_mod (re_bin op_fdiv (re_bin op_mod (re_callT call_int1 G.int PyProof.Rows.boot_int (ra_cons (re_bin op_add (re_bin op_pow (re_var 4) re_int (ov_cii ⟨by decide, by decide, small_pow (by decide) (by decide)⟩)) (re_bin op_mul re_int (re_var 4) (ov_cii (.inl ⟨by decide, by decide⟩))) ov_ii) ra_nil) cv_int) re_int (ov_cii (by show (0 : Int) < _; decide))) re_int (ov_cii ⟨by decide, by decide⟩)) (re_var 1) (ov_cii h0))))
theorem ok_bdraw {f : Addr} {fd : FuncData} (G : Glb mg) (F : Fun K "_law_draw" "_law_draw" sDraw f fd) : FnOk P w K mg base CX0 1 f fd ["_law_bag_here", "_law_many"] (spF K bdrawR) := by
  refine fn_val F scBd (fun ds c o h => ?_) (fun ds c o h => ?_) (fun cdv A outer s H E hr p ds c o h => ?_)
  · obtain ⟨m, b, rfl, _⟩ := h
    rfl
  · obtain ⟨m, b, _, _, _, _, rfl⟩ := h
    exact ⟨_, _, _, rfl⟩
  · obtain ⟨m, b, rfl, rfl, h0, h1, rfl⟩ := h
    obtain ⟨xs, wd, sd, nd⟩ := b
    have hb : ([Bg.c ⟨xs, wd, sd, nd⟩] : LA.PC)[0]? = some (.lst (Bg.ds ⟨xs, wd, sd, nd⟩)) := rfl
    have hu : (cxBd P w K mg base f cdv A outer s H E).A.units + 64 < cLine := hr.units
    have nope : ∀ b', Bg.took ⟨xs, wd, sd, nd⟩ = b' → b' = ⟨xs, wd, sd, nd⟩ → RS (cxBd P w K mg base f cdv A outer s H E) Wf p (startR nBd [.mut 0, .int m]) [Bg.c ⟨xs, wd, sd, nd⟩] ((defBody sDraw).getD 0 (.Pass ⟨0, 0, 0, 0⟩)) (.nx [some (.mut 0), some (.int m), none, none, none] [Bg.c ⟨xs, wd, sd, nd⟩]) → RSs (cxBd P w K mg base f cdv A outer s H E) Wf p (startR nBd [.mut 0, .int m]) [Bg.c ⟨xs, wd, sd, nd⟩] (defBody sDraw) (.rt (.int (bagV ⟨xs, wd, sd, nd⟩ m)) false [(bagC ⟨xs, wd, sd, nd⟩ m).c]) := fun b' e1 e2 h => by
      unfold bagV bagC
      rw [e1, e2]
      exact rss_cons h (draw_rest G h0 h1)
    have t0 : ∀ {k : Bool}, decide (wd = 0) = k → RT (cxBd P w K mg base f cdv A outer s H E) Wf p (startR nBd [.mut 0, .int m]) [Bg.c ⟨xs, wd, sd, nd⟩] (match defBody sDraw with | .If (.BoolOp _ (t :: _) _) _ _ _ :: _ => t | _ => .Constant .none 0 ⟨0, 0, 0, 0⟩) (.val k [Bg.c ⟨xs, wd, sd, nd⟩]) := fun {k} hk => by
      rw [← hk]
      exact rt_cmp op_eq (re_mix 0 0 1 hb rfl) re_int ov_eqI
    have t1 : ∀ {k : Bool}, (!(xs.map D.int).isEmpty) = k → RT (cxBd P w K mg base f cdv A outer s H E) Wf p (startR nBd [.mut 0, .int m]) [Bg.c ⟨xs, wd, sd, nd⟩] (match defBody sDraw with | .If (.BoolOp _ [_, t] _) _ _ _ :: _ => t | _ => .Constant .none 0 ⟨0, 0, 0, 0⟩) (.val k [Bg.c ⟨xs, wd, sd, nd⟩]) := fun {k} hk => by
      rw [← hk]
      exact rt_cmp (op_neD hu) (n1 := false) (d1 := .lst ⟨false, true⟩ (xs.map D.int)) (re_mix 0 0 0 hb rfl) (re_lst ra_nil (by show 0 ≤ 100000; decide)) (ov_neNil (flat_i xs))
    refine .inl ?_
    by_cases hw : wd = 0
    · cases xs with
      | nil =>
        exact nope _ rfl rfl (rs_if (kb := false) (RW.rt (rw_and (k1 := true) (k2 := false) (t0 (decide_eq_true hw)) fun _ => rw_and1 (t1 rfl))) (fun z => nomatch z) fun _ => rss_nil)
      | cons x r =>
        subst hw
        have eT : Bg.took ⟨x :: r, 0, sd, nd⟩ = ⟨r, if abI x ≥ 10 ^ (18 : Int).toNat then abI x else 0, (sd * 69069 + x * 48271 + 5) % 2147483647, nd⟩ := by
          unfold Bg.took
          simp only [if_true]
        unfold bagV bagC
        rw [eT]
        have hb2 : ([Bg.c ⟨r, 0, sd, nd⟩] : LA.PC)[0]? = some (.lst (Bg.ds ⟨r, 0, sd, nd⟩)) := rfl
        have hb3 : ([Bg.c ⟨r, 0, (sd * 69069 + x * 48271 + 5) % 2147483647, nd⟩] : LA.PC)[0]? = some (.lst (Bg.ds ⟨r, 0, (sd * 69069 + x * 48271 + 5) % 2147483647, nd⟩)) := rfl
        have body : RSs (cxBd P w K mg base f cdv A outer s H E) Wf p (startR nBd [.mut 0, .int m]) [Bg.c ⟨x :: r, 0, sd, nd⟩] (match defBody sDraw with | .If _ a _ _ :: _ => a | _ => []) (.nx [some (.mut 0), some (.int m), some (.int x), none, none] [Bg.c ⟨r, if abI x ≥ 10 ^ (18 : Int).toNat then abI x else 0, (sd * 69069 + x * 48271 + 5) % 2147483647, nd⟩]) := by
          refine rss_cons (c1 := [Bg.c ⟨x :: r, 0, sd, nd⟩]) (rs_set (nw := false) 2 scBd.nd (re_ix ix_seq (d1 := .lst ⟨false, true⟩ ((x :: r).map D.int)) (re_mix 0 0 0 hb rfl) re_int (ov_ixL (j := 0) rfl rfl))) ?_
          refine rss_cons (c1 := [Bg.c ⟨r, 0, sd, nd⟩]) (rs_mst 0 0 0 (d := .lst ⟨false, true⟩ (r.map D.int)) (ds := Bg.ds ⟨x :: r, 0, sd, nd⟩) (by
            have q := re_slL (X := cxBd P w K mg base f cdv A outer s H E) (W := Wf) (p := p) (ρ := (startR nBd [.mut 0, .int m]).set 2 (some (.int x))) (c := [Bg.c ⟨x :: r, 0, sd, nd⟩]) (g := ⟨false, true⟩) (xs := (x :: r).map D.int) (ol := some 1) (oh := none) (c1 := [Bg.c ⟨x :: r, 0, sd, nd⟩]) (c2 := [Bg.c ⟨x :: r, 0, sd, nd⟩]) (c3 := [Bg.c ⟨x :: r, 0, sd, nd⟩])
              (e := match (match defBody sDraw with | .If _ a _ _ :: _ => a | _ => []) with | _ :: .Assign _ (.Subscript t _ _) _ :: _ => t | _ => .Constant .none 0 ⟨0, 0, 0, 0⟩) (lo := match (match defBody sDraw with | .If _ a _ _ :: _ => a | _ => []) with | _ :: .Assign _ (.Subscript _ (.Slice t _ _ _) _) _ :: _ => t | _ => none) (hi := match (match defBody sDraw with | .If _ a _ _ :: _ => a | _ => []) with | _ :: .Assign _ (.Subscript _ (.Slice _ t _ _) _) _ :: _ => t | _ => none)
              (p2 := match (match defBody sDraw with | .If _ a _ _ :: _ => a | _ => []) with | _ :: .Assign _ (.Subscript _ (.Slice _ _ _ t) _) _ :: _ => t | _ => ⟨0, 0, 0, 0⟩) (pos := match (match defBody sDraw with | .If _ a _ _ :: _ => a | _ => []) with | _ :: .Assign _ (.Subscript _ _ t) _ :: _ => t | _ => ⟨0, 0, 0, 0⟩)
              (re_mix 0 0 0 hb rfl) (rp_some (W := Wf) re_int) rp_none
            rw [cut_tail] at q
            exact q) re_int hb (by show 0 < 4; decide) (low_i 0 r)) ?_
          refine rss_cons (c1 := [Bg.c ⟨r, 0, (sd * 69069 + x * 48271 + 5) % 2147483647, nd⟩]) (rs_mst 0 0 2 (d := .int ((sd * 69069 + x * 48271 + 5) % 2147483647)) (ds := Bg.ds ⟨r, 0, sd, nd⟩) (re_bin op_mod (re_callT call_int1 G.int PyProof.Rows.boot_int (ra_cons (re_bin op_add (re_bin op_add (re_bin op_mul (re_mix 0 0 2 hb2 rfl) re_int (ov_cii (cmul_r (by decide) (by decide)))) (re_bin op_mul (re_var 2) re_int (ov_cii (cmul_r (by decide) (by decide)))) ov_ii) re_int ov_ii) ra_nil) cv_int) re_int (ov_cii (by show (0 : Int) < _; decide))) re_int hb2 (by show 2 < 4; decide) rfl) ?_
          have tb : ∀ {k : Bool}, decide (abI x ≥ 10 ^ (18 : Int).toNat) = k → OV K p (rI0 fun i j => V.bl (decide (i ≥ j))) (.int (abI x)) (.int (10 ^ (18 : Int).toNat)) (.bl k) true [Bg.c ⟨r, 0, (sd * 69069 + x * 48271 + 5) % 2147483647, nd⟩] := fun {k} hk => by
            have q := ov_ib (K := K) (p := p) (c := [Bg.c ⟨r, 0, (sd * 69069 + x * 48271 + 5) % 2147483647, nd⟩]) (f := fun i j => decide (i ≥ j)) (i := abI x) (j := 10 ^ (18 : Int).toNat)
            rw [hk] at q
            exact q
          by_cases hx : abI x ≥ 10 ^ (18 : Int).toNat
          · rw [if_pos hx]
            refine rss_cons (c1 := [Bg.c ⟨r, abI x, (sd * 69069 + x * 48271 + 5) % 2147483647, nd⟩]) (rs_if (kb := true) (rt_cmp op_ge (re_callB call_abs G.abs PyProof.Rows.boot_abs (ra_cons (re_var 2) ra_nil) cv_abs) (re_bin op_pow re_int re_int (ov_cii (by show (0 : Int) ≤ 18 ∧ (18 : Int) ≤ 1000000 ∧ _; decide))) (tb (decide_eq_true hx))) (fun _ => ?_) fun z => nomatch z) rss_nil
            exact rss_cons (c1 := [Bg.c ⟨r, abI x, (sd * 69069 + x * 48271 + 5) % 2147483647, nd⟩]) (rs_mst 0 0 1 (d := .int (abI x)) (ds := Bg.ds ⟨r, 0, (sd * 69069 + x * 48271 + 5) % 2147483647, nd⟩) (re_callB call_abs G.abs PyProof.Rows.boot_abs (ra_cons (re_var 2) ra_nil) cv_abs) re_int hb3 (by show 1 < 4; decide) rfl) rss_nil
          · rw [if_neg hx]
            exact rss_cons (c1 := [Bg.c ⟨r, 0, (sd * 69069 + x * 48271 + 5) % 2147483647, nd⟩]) (rs_if (kb := false) (rt_cmp op_ge (re_callB call_abs G.abs PyProof.Rows.boot_abs (ra_cons (re_var 2) ra_nil) cv_abs) (re_bin op_pow re_int re_int (ov_cii (by show (0 : Int) ≤ 18 ∧ (18 : Int) ≤ 1000000 ∧ _; decide))) (tb (decide_eq_false hx))) (fun z => nomatch z) fun _ => rss_nil) rss_nil
        exact rss_cons (rs_if (kb := true) (RW.rt (rw_and (k1 := true) (k2 := true) (t0 (decide_eq_true rfl)) fun _ => rw_and1 (t1 rfl))) (fun _ => body) fun z => nomatch z) (draw_rest G h0 h1)
    · refine nope _ rfl ?_ (rs_if (kb := false) (RW.rt (rw_and (k1 := false) (k2 := false) (t0 (decide_eq_false hw)) fun z => nomatch z)) (fun z => nomatch z) fun _ => rss_nil)
      unfold Bg.took
      cases xs with
      | nil => rfl
      | cons x r =>
        show (if wd = 0 then _ else _) = _
        rw [if_neg hw]
abbrev BagD (P : Program) (w : World) (K : PySem.W.Frag) (mg : Str → Option Value) (base : Heap) := Def0 P w K mg base 1 "_law_bag" ["_law_script"] bagR
abbrev BdrawD (P : Program) (w : World) (K : PySem.W.Frag) (mg : Str → Option Value) (base : Heap) := Def0 P w K mg base 1 "_law_draw" ["_law_bag_here", "_law_many"] bdrawR
section
variable {X : Cx} {W : WX} {p : HD} {ρ : Rho} {p2 p3 p5 : Pos} {e : Expr} {nw : Bool}
theorem re_bdraw (i : Nat) {m : Int} {b : Bg} (T : BdrawD X.prog X.w X.K X.mg X.base) (hr : Room 1 X.A) (he : RE X W p ρ [b.c] e (.val (.int m) nw [b.c])) (h0 : 0 < m) (h1 : m.natAbs.log2 < 9000) (hρ : ρ[i]? = some (some (.mut 0)) := by rfl) (hN : X.N[i]? = some ("_law_bag_here" : Str) := by rfl) (hv : Vis X.env.scope ("_law_bag_here" : Str) := by first | exact Or.inl rfl | exact Or.inr (Or.inl rfl) | exact Or.inr (Or.inr rfl))
    (hg : Gl X "_law_draw" := by rfl) (hs : starEach [e] X.env = (false, eval e X.env) :: starEach [] X.env := by rfl) (hs2 : starEach [.Name "_law_bag_here" p3, e] X.env = (false, eval (.Name "_law_bag_here" p3) X.env) :: starEach [e] X.env := by rfl) (hpl : (backTo p5 (starEach [e] X.env)).any (·.1) = false := by rfl) : RE X W p ρ [b.c] (.Call (.Name "_law_draw" p2) [.Name "_law_bag_here" p3, e] [] p5) (.val (.int (bagV b m)) false [(bagC b m).c]) :=
  re_c0 T hr (ra_cons (re_var i hN hρ hv) (ra_cons he ra_nil hs) hs2) ⟨m, b, rfl, rfl, h0, h1, rfl⟩ hg (by decide) hs2 hpl
end
end
end K60

namespace K60
open PySem PySem.Spec PyProof.Rows L2 LA
/-! ### the law's own greatest divisor -/
structure Eu where
  a : Nat
  b : Nat
def eu (a b : Nat) : Nat → Eu
  | 0 => ⟨a, b⟩
  | n + 1 => ⟨(eu a b n).b, (eu a b n).a % (eu a b n).b⟩
theorem eu_gcd (a b : Nat) : ∀ n, Nat.gcd (eu a b n).a (eu a b n).b = Nat.gcd a b
  | 0 => rfl
  | n + 1 => by
    show Nat.gcd (eu a b n).b ((eu a b n).a % (eu a b n).b) = _
    rw [Nat.gcd_comm, ← Nat.gcd_rec, Nat.gcd_comm, eu_gcd a b n]
theorem half_rem {b r : Nat} (h0 : 0 < r) (h1 : r < b) : 2 * (b % r) ≤ b := by
  have h2 := Nat.mod_lt b h0
  have h3 : b % r + r ≤ b := by
    have := Nat.div_add_mod b r
    have hd : 1 ≤ b / r := (Nat.le_div_iff_mul_le h0).mpr (by omega)
    have hm : r * 1 ≤ r * (b / r) := Nat.mul_le_mul_left r hd
    omega
  omega
theorem eu_half {a b : Nat} (n : Nat) (h0 : 0 < (eu a b n).b) (h1 : 0 < (eu a b (n + 1)).b) : 2 * (eu a b (n + 2)).b ≤ (eu a b n).b := by
  have lt : (eu a b (n + 1)).b < (eu a b n).b := Nat.mod_lt _ h0
  show 2 * ((eu a b n).b % (eu a b (n + 1)).b) ≤ (eu a b n).b
  exact half_rem h1 lt
theorem eu_small {a b : Nat} (h : ∀ i, i < 400 → 0 < (eu a b i).b) : ∀ k, 2 * k < 400 → (eu a b (2 * k)).b * 2 ^ k ≤ b
  | 0, _ => by simp [eu]
  | k + 1, hk => by
    have ih := eu_small h k (by omega)
    have q := eu_half (a := a) (b := b) (2 * k) (h _ (by omega)) (h _ (by omega))
    have e : 2 * (k + 1) = 2 * k + 2 := by omega
    rw [e, Nat.pow_succ]
    have : (eu a b (2 * k + 2)).b * (2 ^ k * 2) = (2 * (eu a b (2 * k + 2)).b) * 2 ^ k := by
      rw [Nat.mul_comm (2 ^ k) 2, ← Nat.mul_assoc, Nat.mul_comm _ 2]
    rw [this]
    exact Nat.le_trans (Nat.mul_le_mul_right _ q) ih
/-- the first turn at which nothing is left -/
theorem eu_end {a b : Nat} (hb : b < 2 ^ 190) : ∃ m, m < 400 ∧ (∀ i, i < m → 0 < (eu a b i).b) ∧ (eu a b m).b = 0 := by
  obtain ⟨m, h1, h2, h3⟩ := first_bad (fun i => decide (0 < (eu a b i).b)) 400
  have h2' : ∀ i, i < m → 0 < (eu a b i).b := fun i hi => of_decide_eq_true (h2 i hi)
  rcases h3 with rfl | ⟨h3, h4⟩
  · exfalso
    have q := eu_small h2' 190 (by omega)
    have p := h2' 380 (by omega)
    have e : 2 * 190 = 380 := rfl
    rw [e] at q
    have : 1 * 2 ^ 190 ≤ (eu a b 380).b * 2 ^ 190 := Nat.mul_le_mul_right _ p
    omega
  · have h4 := of_decide_eq_false h4
    exact ⟨m, h3, h2', by omega⟩
theorem eu_le (a b : Nat) (M : Nat) (ha : a < M) (hb : b < M) : ∀ n, (∀ i, i < n → 0 < (eu a b i).b) → (eu a b n).a < M ∧ (eu a b n).b < M
  | 0, _ => ⟨ha, hb⟩
  | n + 1, h => by
    obtain ⟨h1, h2⟩ := eu_le a b M ha hb n fun i hi => h i (by omega)
    have := Nat.mod_lt (eu a b n).a (h n (by omega))
    exact ⟨h2, by show (eu a b n).a % (eu a b n).b < M; omega⟩
def B190 (i : Int) : Prop := i.natAbs < 2 ^ 190
def gcdR : FSpec := fun ds c o => ∃ a b : Int, ds = [.int a, .int b] ∧ B190 a ∧ B190 b ∧ o = .val (.int (Nat.gcd a.natAbs b.natAbs : Nat)) false c
theorem abI_nat (i : Int) : abI i = (i.natAbs : Nat) := by
  unfold abI
  split <;> omega
section
variable {P : Program} {w : World} {K : PySem.W.Frag} {mg : Str → Option Value} {base : Heap}
abbrev nG : List Str := ["_law_one", "_law_other", "_law_k", "_law_rest"]
theorem scG : FnScope nG ["_law_one", "_law_other"] (defScope (top 10)) := ⟨rfl, rfl, rfl, by decide +kernel, rfl, by decide +kernel, by decide +kernel⟩
abbrev bG : List Stmt := match defBody (top 10) with
  | [_, _, .For _ _ b _ _, _] => b
  | _ => []
theorem ok_gcd {f : Addr} {fd : FuncData} (G : Glb mg) (F : Fun K "_law_gcd" "_law_gcd" (top 10) f fd) : FnOk P w K mg base CX0 1 f fd ["_law_one", "_law_other"] (spF K gcdR) := by
  refine fn_val F scG (fun ds c o h => ?_) (fun ds c o h => ?_) (fun cdv A outer s H E hr p ds c o h => ?_)
  · obtain ⟨a, b, rfl, _⟩ := h
    rfl
  · obtain ⟨a, b, _, _, _, rfl⟩ := h
    exact ⟨_, _, _, rfl⟩
  · obtain ⟨a, b, rfl, ha, hb, rfl⟩ := h
    have s1 : RS (cxOf CX0 P w K mg base nG "_law_gcd" (defScope (top 10)) f cdv A outer s H E).nox Wf p (startR nG [.int a, .int b]) c ((defBody (top 10)).getD 0 (.Pass ⟨0, 0, 0, 0⟩)) (.nx [some (.int (a.natAbs : Nat)), some (.int b), none, none] c) := by
      rw [← abI_nat]
      exact rs_set (nw := true) 0 scG.nd (re_callB call_abs G.abs PyProof.Rows.boot_abs (ra_cons (re_var 0) ra_nil) cv_abs)
    have s2 : RS (cxOf CX0 P w K mg base nG "_law_gcd" (defScope (top 10)) f cdv A outer s H E).nox Wf p [some (.int (a.natAbs : Nat)), some (.int b), none, none] c ((defBody (top 10)).getD 1 (.Pass ⟨0, 0, 0, 0⟩)) (.nx [some (.int (a.natAbs : Nat)), some (.int (b.natAbs : Nat)), none, none] c) := by
      rw [← abI_nat b]
      exact rs_set (nw := true) 1 scG.nd (re_callB call_abs G.abs PyProof.Rows.boot_abs (ra_cons (re_var 1) ra_nil) cv_abs)
    obtain ⟨m, hm, hpos, hend⟩ := eu_end (a := a.natAbs) hb
    have hg : (eu a.natAbs b.natAbs m).a = Nat.gcd a.natAbs b.natAbs := by
      have := eu_gcd a.natAbs b.natAbs m
      rw [hend, Nat.gcd_zero_right] at this
      exact this
    refine .inl (rss_cons s1 (rss_cons s2 (rss_ret ?_)))
    rw [← hg]
    refine rs_for (xs := intsD (400 : Int).toNat) (vs := [2]) (g := gName 2) (body := bG) m (fun i => [some (.int ((eu a.natAbs b.natAbs i).a : Nat)), some (.int ((eu a.natAbs b.natAbs i).b : Nat)), none, none]) (fun i => [some (.int ((eu a.natAbs b.natAbs i).a : Nat)), some (.int ((eu a.natAbs b.natAbs i).b : Nat)), some (.int (i : Nat)), none]) (fun _ => c) _ PassesOwn.never rfl rfl (ri_range G.range re_int (by decide) (by decide)) (pg_name (i := 2) scG.nd rfl (Or.inl rfl)) (fun i d h _ => by
      obtain ⟨rfl, _⟩ := intsD_at h
      exact tg_name (by decide)) (fun i d h hi => ?_) (.inr ⟨.int (m : Nat), _, _, _, ?_, rfl, ?_⟩)
    · obtain ⟨l1, l2⟩ := eu_le a.natAbs b.natAbs _ ha hb i fun j hj => hpos j (by omega)
      have h0 := hpos i hi
      generalize he : eu a.natAbs b.natAbs i = e at *
      obtain ⟨x, y⟩ := e
      have enx : eu a.natAbs b.natAbs (i + 1) = ⟨y, x % y⟩ := by
        show (⟨(eu a.natAbs b.natAbs i).b, _⟩ : Eu) = _
        rw [he]
      rw [enx]
      have hx : ((x : Nat) : Int).natAbs < 2 ^ 190 := l1
      have hy : ((y : Nat) : Int).natAbs < 2 ^ 190 := l2
      have hq : ((x : Nat) / (y : Nat) : Int).natAbs < 2 ^ 190 := by
        have : ((x : Int) / (y : Int)) = ((x / y : Nat) : Int) := by omega
        rw [this]
        have := Nat.div_le_self x y
        show x / y < _
        have : x < 2 ^ 190 := l1
        omega
      have er : (x : Int) - (y : Int) * ((x : Int) / (y : Int)) = ((x % y : Nat) : Int) := by
        have := Nat.div_add_mod x y
        have e1 : ((x : Int) / (y : Int)) = ((x / y : Nat) : Int) := by omega
        rw [e1, ← Int.natCast_mul]
        omega
      have y0 : 0 < y := h0
      refine rss_less (ρ1 := [some (.int (y : Nat)), some (.int (x % y : Nat)), some (.int (i : Nat)), some (.int (x % y : Nat))]) (rss_cons (c1 := c) (rs_if (kb := false) (rt_cmp op_eq (re_var 1) re_int (ov_eqIf (by show ¬ ((y : Nat) : Int) = 0; omega))) (fun z => nomatch z) fun _ => rss_nil) ?_) (by repeat (first | exact Less.nil | apply Less.same | apply Less.skip))
      rw [← er]
      exact rss_cons (c1 := c) (rs_set (nw := true) 3 scG.nd (re_bin op_sub (re_var 0) (re_bin op_mulW (re_var 1) (re_bin op_fdivW (re_var 0) (re_var 1) (ov_cii ⟨by omega, log_lt (n := 9000) (Nat.lt_of_lt_of_le hy (Nat.pow_le_pow_right (by decide) (by decide))) (by decide)⟩)) (ov_cii (wide_mul hy hq (by decide) (by decide) (by decide)))) ov_ii)) (rss_cons (c1 := c) (rs_set (nw := false) 0 scG.nd (re_var 1)) (rss_cons (c1 := c) (rs_set (nw := false) 1 scG.nd (re_var 3)) rss_nil))
    · unfold intsD
      rw [List.getElem?_map, List.getElem?_range (by show m < 400; omega)]
      rfl
    · exact rss_ret (rs_if (kb := true) (rt_cmp op_eq (re_var 1) re_int (ov_eqIt (by rw [hend]; rfl))) (fun _ => rss_ret (rs_ret (re_var 0))) fun z => nomatch z)
end
end K60

namespace K60
open PySem PySem.Spec PyProof.Rows L2 LA
def isTupD : D → Bool
  | .tup _ => true
  | _ => false
theorem isi_tup {d : D} {t : String} (h : tyD d = some t) : kitB t "tuple" = some (isTupD d) := by
  cases d <;> first | (cases h; done) | (cases h; first | exact (show kitB _ "tuple" = some false by decide +kernel) | exact (show kitB _ "tuple" = some true by decide +kernel))
def Ty (d : D) : Prop := ∃ t, tyD d = some t
def wholeD : D → Bool
  | .int _ => true
  | _ => false
def wholeR : FSpec := fun ds c o => ∃ d, ds = [d] ∧ Ty d ∧ o = .val (.bl (wholeD d)) true c
structure FitV (d : D) : Prop where
  ty : Ty d
  its : ∀ xs, d = .tup xs → ∀ x ∈ xs, Ty x ∧ ∀ i, x = .int i → B190 i
def gcB (a b : Int) : Bool := decide (Nat.gcd a.natAbs b.natAbs = 1)
def fracB : D → Bool
  | .tup [.int a, .int b] => decide (0 < b) && gcB a b
  | _ => false
def fracR : FSpec := fun ds c o => ∃ d, ds = [d] ∧ FitV d ∧ o = .val (.bl (fracB d)) true c
section
variable {P : Program} {w : World} {K : PySem.W.Frag} {mg : Str → Option Value} {base : Heap}
theorem ok_whole {f : Addr} {fd : FuncData} (G : Glb mg) (F : Fun K "is_whole" "is_whole" (top 2) f fd) : FnOk P w K mg base CX0 1 f fd ["value"] (spF K wholeR) := by
  refine fn_val F (N := ["value"]) ⟨rfl, rfl, rfl, by decide +kernel, rfl, by decide +kernel, by decide +kernel⟩ (fun ds c o h => ?_) (fun ds c o h => ?_) (fun cdv A outer s H E hr p ds c o h => ?_)
  · obtain ⟨d, rfl, _⟩ := h
    rfl
  · obtain ⟨d, _, _, rfl⟩ := h
    exact ⟨_, _, _, rfl⟩
  · obtain ⟨d, rfl, ⟨t, ht⟩, rfl⟩ := h
    have e : wholeD d = (isIntD d && !isBlD d) := by cases d <;> rfl
    rw [e]
    exact .inl (rss_ret (rs_ret (re_and (re_callB call_isi G.isi PyProof.Rows.boot_isinstance (ra_cons (re_var 0) (ra_cons (re_ty G.int PyProof.Rows.boot_int) ra_nil)) (cv_isi ht (isi_int ht))) fun _ => re_and1 (re_not (re_callB call_isi G.isi PyProof.Rows.boot_isinstance (ra_cons (re_var 0) (ra_cons (re_ty G.bool PyProof.Rows.boot_bool) ra_nil)) (cv_isi ht (isi_bool ht)))))))
theorem ok_lwhole {f : Addr} {fd : FuncData} (G : Glb mg) (F : Fun K "_law_is_whole" "_law_is_whole" (top 9) f fd) : FnOk P w K mg base CX0 1 f fd ["_law_value"] (spF K wholeR) := by
  refine fn_val F (N := ["_law_value"]) ⟨rfl, rfl, rfl, by decide +kernel, rfl, by decide +kernel, by decide +kernel⟩ (fun ds c o h => ?_) (fun ds c o h => ?_) (fun cdv A outer s H E hr p ds c o h => ?_)
  · obtain ⟨d, rfl, _⟩ := h
    rfl
  · obtain ⟨d, _, _, rfl⟩ := h
    exact ⟨_, _, _, rfl⟩
  · obtain ⟨d, rfl, ⟨t, ht⟩, rfl⟩ := h
    have e : wholeD d = (isIntD d && !isBlD d) := by cases d <;> rfl
    rw [e]
    exact .inl (rss_ret (rs_ret (re_and (re_callB call_isi G.isi PyProof.Rows.boot_isinstance (ra_cons (re_var 0) (ra_cons (re_ty G.int PyProof.Rows.boot_int) ra_nil)) (cv_isi ht (isi_int ht))) fun _ => re_and1 (re_not (re_callB call_isi G.isi PyProof.Rows.boot_isinstance (ra_cons (re_var 0) (ra_cons (re_ty G.bool PyProof.Rows.boot_bool) ra_nil)) (cv_isi ht (isi_bool ht)))))))
abbrev WholeD (P : Program) (w : World) (K : PySem.W.Frag) (mg : Str → Option Value) (base : Heap) := Def0 P w K mg base 1 "is_whole" ["value"] wholeR
abbrev LwholeD (P : Program) (w : World) (K : PySem.W.Frag) (mg : Str → Option Value) (base : Heap) := Def0 P w K mg base 1 "_law_is_whole" ["_law_value"] wholeR
abbrev GcdD (P : Program) (w : World) (K : PySem.W.Frag) (mg : Str → Option Value) (base : Heap) := Def0 P w K mg base 1 "_law_gcd" ["_law_one", "_law_other"] gcdR
theorem neN {n : Nat} : decide (((n : Nat) : Int) = 2) = decide (n = 2) := by
  rw [Bool.eq_iff_iff, decide_eq_true_eq, decide_eq_true_eq]
  omega
theorem ok_lfrac {f : Addr} {fd : FuncData} (G : Glb mg) (TW : LwholeD P w K mg base) (TG : GcdD P w K mg base) (F : Fun K "_law_is_fraction" "_law_is_fraction" (top 11) f fd) : FnOk P w K mg base CX0 2 f fd ["_law_value"] (spF K fracR) := by
  refine fn_val F (N := ["_law_value"]) ⟨rfl, rfl, rfl, by decide +kernel, rfl, by decide +kernel, by decide +kernel⟩ (fun ds c o h => ?_) (fun ds c o h => ?_) (fun cdv A outer s H E hr p ds c o h => ?_)
  · obtain ⟨d, rfl, _⟩ := h
    rfl
  · obtain ⟨d, _, _, rfl⟩ := h
    exact ⟨_, _, _, rfl⟩
  · obtain ⟨d, rfl, ⟨⟨t, ht⟩, hits⟩, rfl⟩ := h
    refine .inl ?_
    have t0 : ∀ {b : Bool}, isTupD d = b → RT (cxOf CX0 P w K mg base ["_law_value"] "_law_is_fraction" (defScope (top 11)) f cdv A outer s H E).nox Wf p (startR ["_law_value"] [d]) c (match defBody (top 11) with | .If (.BoolOp _ (t :: _) _) _ _ _ :: _ => t | _ => .Constant .none 0 ⟨0, 0, 0, 0⟩) (.val (!b) c) := fun {b} hb => by
      rw [← hb]
      exact rt_not (rt_val (re_callB call_isi G.isi PyProof.Rows.boot_isinstance (ra_cons (re_var 0) (ra_cons (re_ty G.tuple PyProof.Rows.boot_tuple) ra_nil)) (cv_isi ht (isi_tup ht))))
    cases d with
    | tup xs =>
      have t1 : RT (cxOf CX0 P w K mg base ["_law_value"] "_law_is_fraction" (defScope (top 11)) f cdv A outer s H E).nox Wf p (startR ["_law_value"] [.tup xs]) c (match defBody (top 11) with | .If (.BoolOp _ (_ :: t :: _) _) _ _ _ :: _ => t | _ => .Constant .none 0 ⟨0, 0, 0, 0⟩) (.val (!decide (xs.length = 2)) c) := by
        rw [← neN]
        exact rt_cmp op_ne (re_callB call_len G.len PySem.boot_len (ra_cons (re_var 0) ra_nil) cv_lenTup) re_int ov_neI
      by_cases h2 : xs.length = 2
      · rw [decide_eq_true h2] at t1
        match xs, h2 with
        | [x, y], _ =>
          have tx := (hits _ rfl x (by simp)).1
          have ty := (hits _ rfl y (by simp)).1
          have w0 : ∀ {b : Bool}, wholeD x = b → RT (cxOf CX0 P w K mg base ["_law_value"] "_law_is_fraction" (defScope (top 11)) f cdv A outer s H E).nox Wf p (startR ["_law_value"] [.tup [x, y]]) c (match defBody (top 11) with | .If (.BoolOp _ (_ :: _ :: t :: _) _) _ _ _ :: _ => t | _ => .Constant .none 0 ⟨0, 0, 0, 0⟩) (.val (!b) c) := fun {b} hb => rt_not (rt_val (re_c0 TW hr (ra_cons (re_ix ix_seq (re_var 0) re_int (ov_ixT (j := 0) rfl rfl)) ra_nil) ⟨x, rfl, tx, by rw [hb]⟩))
          have w1 : ∀ {b : Bool}, wholeD y = b → RT (cxOf CX0 P w K mg base ["_law_value"] "_law_is_fraction" (defScope (top 11)) f cdv A outer s H E).nox Wf p (startR ["_law_value"] [.tup [x, y]]) c (match defBody (top 11) with | .If (.BoolOp _ (_ :: _ :: _ :: t :: _) _) _ _ _ :: _ => t | _ => .Constant .none 0 ⟨0, 0, 0, 0⟩) (.val (!b) c) := fun {b} hb => rt_not (rt_val (re_c0 TW hr (ra_cons (re_ix ix_seq (re_var 0) re_int (ov_ixT (j := 1) rfl rfl)) ra_nil) ⟨y, rfl, ty, by rw [hb]⟩))
          cases hx : wholeD x with
          | false =>
            have e : fracB (.tup [x, y]) = false := by cases x <;> first | (cases hx; done) | rfl
            rw [e]
            exact rss_ret (rs_if (kb := true) (RW.rt (rw_or (k1 := false) (k2 := true) (t0 rfl) fun _ => rw_or (k1 := false) (k2 := true) t1 fun _ => rw_or (k1 := true) (k2 := true) (w0 hx) fun z => nomatch z)) (fun _ => rss_ret (rs_ret re_bl)) fun z => nomatch z)
          | true =>
            cases hy : wholeD y with
            | false =>
              have e : fracB (.tup [x, y]) = false := by cases x <;> cases y <;> first | (cases hy; done) | (cases hx; done) | rfl
              rw [e]
              exact rss_ret (rs_if (kb := true) (RW.rt (rw_or (k1 := false) (k2 := true) (t0 rfl) fun _ => rw_or (k1 := false) (k2 := true) t1 fun _ => rw_or (k1 := false) (k2 := true) (w0 hx) fun _ => rw_or1 (k := true) (w1 hy))) (fun _ => rss_ret (rs_ret re_bl)) fun z => nomatch z)
            | true =>
              obtain ⟨a, rfl⟩ : ∃ a, x = .int a := by cases x <;> first | exact ⟨_, rfl⟩ | cases hx
              obtain ⟨b, rfl⟩ : ∃ b, y = .int b := by cases y <;> first | exact ⟨_, rfl⟩ | cases hy
              have ba := (hits _ rfl (.int a) (by simp)).2 a rfl
              have bb := (hits _ rfl (.int b) (by simp)).2 b rfl
              refine rss_cons (c1 := c) (rs_if (kb := false) (RW.rt (rw_or (k1 := false) (k2 := false) (t0 rfl) fun _ => rw_or (k1 := false) (k2 := false) t1 fun _ => rw_or (k1 := false) (k2 := false) (w0 rfl) fun _ => rw_or1 (k := false) (w1 rfl))) (fun z => nomatch z) fun _ => rss_nil) ?_
              have eg : gcB a b = decide (((Nat.gcd a.natAbs b.natAbs : Nat) : Int) = 1) := by
                unfold gcB
                rw [Bool.eq_iff_iff, decide_eq_true_eq, decide_eq_true_eq]
                omega
              show RSs _ _ _ _ _ _ (.rt (.bl (decide (0 < b) && gcB a b)) true c)
              rw [eg]
              exact rss_ret (rs_ret (re_and (n1 := true) (k1 := decide (0 < b)) (re_cmp op_gt (re_ix ix_seq (re_var 0) re_int (ov_ixT (j := 1) rfl rfl)) re_int ov_ib) fun _ => re_and1 (re_cmp op_eq (re_c0 TG hr (ra_cons (re_ix ix_seq (re_var 0) re_int (ov_ixT (j := 0) rfl rfl)) (ra_cons (re_ix ix_seq (re_var 0) re_int (ov_ixT (j := 1) rfl rfl)) ra_nil)) ⟨a, b, rfl, ba, bb, rfl⟩) re_int ov_eqI)))
      · rw [decide_eq_false h2] at t1
        have e : fracB (.tup xs) = false := by
          match xs, h2 with
          | [], _ => rfl
          | [x], _ => cases x <;> rfl
          | [x, y], h => exact absurd rfl h
          | x :: y :: z :: r, _ => cases x <;> cases y <;> rfl
        rw [e]
        exact rss_ret (rs_if (kb := true) (RW.rt (rw_or (k1 := false) (k2 := true) (t0 rfl) fun _ => rw_or (k1 := true) (k2 := true) t1 fun z => nomatch z)) (fun _ => rss_ret (rs_ret re_bl)) fun z => nomatch z)
    | _ => exact rss_ret (rs_if (kb := true) (RW.rt (rw_or (k1 := true) (k2 := true) (t0 rfl) fun z => nomatch z)) (fun _ => rss_ret (rs_ret re_bl)) fun z => nomatch z)
abbrev nIf : List Str := ["value", "top", "bottom"]
theorem scIf : FnScope nIf ["value"] (defScope (top 5)) := ⟨rfl, rfl, rfl, by decide +kernel, rfl, by decide +kernel, by decide +kernel⟩
theorem ok_frac {f : Addr} {fd : FuncData} (G : Glb mg) (hgcd : mg "gcd" = some (.builtin "math.gcd")) (TW : WholeD P w K mg base) (F : Fun K "is_fraction" "is_fraction" (top 5) f fd) : FnOk P w K mg base CX0 2 f fd ["value"] (spF K fracR) := by
  refine fn_val F scIf (fun ds c o h => ?_) (fun ds c o h => ?_) (fun cdv A outer s H E hr p ds c o h => ?_)
  · obtain ⟨d, rfl, _⟩ := h
    rfl
  · obtain ⟨d, _, _, rfl⟩ := h
    exact ⟨_, _, _, rfl⟩
  · obtain ⟨d, rfl, ⟨⟨t, ht⟩, hits⟩, rfl⟩ := h
    refine .inl ?_
    have t0 : ∀ {b : Bool}, isTupD d = b → RT (cxOf CX0 P w K mg base nIf "is_fraction" (defScope (top 5)) f cdv A outer s H E).nox Wf p (startR nIf [d]) c (match defBody (top 5) with | .If (.BoolOp _ (t :: _) _) _ _ _ :: _ => t | _ => .Constant .none 0 ⟨0, 0, 0, 0⟩) (.val (!b) c) := fun {b} hb => by
      rw [← hb]
      exact rt_not (rt_val (re_callB call_isi G.isi PyProof.Rows.boot_isinstance (ra_cons (re_var 0) (ra_cons (re_ty G.tuple PyProof.Rows.boot_tuple) ra_nil)) (cv_isi ht (isi_tup ht))))
    cases d with
    | tup xs =>
      have t1 : RT (cxOf CX0 P w K mg base nIf "is_fraction" (defScope (top 5)) f cdv A outer s H E).nox Wf p (startR nIf [.tup xs]) c (match defBody (top 5) with | .If (.BoolOp _ (_ :: t :: _) _) _ _ _ :: _ => t | _ => .Constant .none 0 ⟨0, 0, 0, 0⟩) (.val (!decide (xs.length = 2)) c) := by
        rw [← neN]
        exact rt_cmp op_ne (re_callB call_len G.len PySem.boot_len (ra_cons (re_var 0) ra_nil) cv_lenTup) re_int ov_neI
      by_cases h2 : xs.length = 2
      · rw [decide_eq_true h2] at t1
        match xs, h2 with
        | [x, y], _ =>
          have tx := (hits _ rfl x (by simp)).1
          have ty := (hits _ rfl y (by simp)).1
          refine rss_cons (c1 := c) (ρ1 := [some (.tup [x, y]), none, none]) (rs_if (kb := false) (RW.rt (rw_or (k1 := false) (k2 := false) (t0 rfl) fun _ => rw_or1 (k := false) t1)) (fun z => nomatch z) fun _ => rss_nil) ?_
          refine rss_cons (c1 := c) (ρ1 := [some (.tup [x, y]), some x, some y]) (rs_tg (vs := [1, 2]) (re_var 0) (pg_tup rfl (pgs_cons (pg_name (i := 1) scIf.nd rfl (Or.inl rfl)) (pgs_cons (pg_name (i := 2) scIf.nd rfl (Or.inl rfl)) pgs_nil))) (tg_two (by decide) (by decide))) ?_
          have e : fracB (.tup [x, y]) = (wholeD x && (wholeD y && (fracB (.tup [x, y])))) := by cases x <;> cases y <;> first | rfl | (unfold fracB wholeD; simp)
          rw [e]
          refine rss_ret (rs_ret (re_and (k1 := wholeD x) (re_c0 TW hr (ra_cons (re_var 1) ra_nil) ⟨x, rfl, tx, rfl⟩) fun hx => re_and (k1 := wholeD y) (re_c0 TW hr (ra_cons (re_var 2) ra_nil) ⟨y, rfl, ty, rfl⟩) fun hy => ?_))
          obtain ⟨a, rfl⟩ : ∃ a, x = .int a := by cases x <;> first | exact ⟨_, rfl⟩ | cases hx
          obtain ⟨b, rfl⟩ : ∃ b, y = .int b := by cases y <;> first | exact ⟨_, rfl⟩ | cases hy
          have eg : gcB a b = decide (((Nat.gcd a.natAbs b.natAbs : Nat) : Int) = 1) := by
            unfold gcB
            rw [Bool.eq_iff_iff, decide_eq_true_eq, decide_eq_true_eq]
            omega
          have e0 : fracB (.tup [.int a, .int b]) = (decide (b ≥ 1) && decide (((Nat.gcd a.natAbs b.natAbs : Nat) : Int) = 1)) := by
            rw [← eg]
            show (decide (0 < b) && gcB a b) = _
            congr 1
          rw [e0]
          exact re_and (n1 := true) (re_cmp op_ge (re_var 2) re_int ov_ib) fun _ => re_and1 (re_cmp op_eq (re_callBf cr_gcd hgcd (ra_cons (re_var 1) (ra_cons (re_var 2) ra_nil)) cv_gcd) re_int ov_eqI)
      · rw [decide_eq_false h2] at t1
        have e : fracB (.tup xs) = false := by
          match xs, h2 with
          | [], _ => rfl
          | [x], _ => cases x <;> rfl
          | [x, y], h => exact absurd rfl h
          | x :: y :: z :: r, _ => cases x <;> cases y <;> rfl
        rw [e]
        exact rss_ret (rs_if (kb := true) (RW.rt (rw_or (k1 := false) (k2 := true) (t0 rfl) fun _ => rw_or1 (k := true) t1)) (fun _ => rss_ret (rs_ret re_bl)) fun z => nomatch z)
    | _ => exact rss_ret (rs_if (kb := true) (RW.rt (rw_or (k1 := true) (k2 := true) (t0 rfl) fun z => nomatch z)) (fun _ => rss_ret (rs_ret re_bl)) fun z => nomatch z)
/-! ### the fraction -/
def shD (a b : Int) : Int := if b < 0 then -((Nat.gcd a.natAbs b.natAbs : Nat) : Int) else ((Nat.gcd a.natAbs b.natAbs : Nat) : Int)
def frT (a b : Int) : Int := a.fdiv (shD a b)
def frB (a b : Int) : Int := b.fdiv (shD a b)
def fraR : FSpec := fun ds c o => ∃ a b : Int, ds = [.int a, .int b] ∧ b ≠ 0 ∧ B190 a ∧ B190 b ∧ o = .val (.tup [.int (frT a b), .int (frB a b)]) true c
theorem gcd_pos {a b : Int} (h : b ≠ 0) : 0 < Nat.gcd a.natAbs b.natAbs := Nat.gcd_pos_of_pos_right _ (by omega)
theorem sh_ne {a b : Int} (h : b ≠ 0) : shD a b ≠ 0 := by
  have := gcd_pos (a := a) h
  unfold shD
  split <;> omega
theorem sh_abs (a b : Int) : (shD a b).natAbs = Nat.gcd a.natAbs b.natAbs := by
  unfold shD
  split <;> omega
theorem sh_dvd (a b : Int) : shD a b ∣ a ∧ shD a b ∣ b := by
  refine ⟨Int.natAbs_dvd_natAbs.mp ?_, Int.natAbs_dvd_natAbs.mp ?_⟩
  · rw [sh_abs]
    exact Nat.gcd_dvd_left _ _
  · rw [sh_abs]
    exact Nat.gcd_dvd_right _ _
theorem fr_T (a b : Int) : shD a b * frT a b = a := by
  unfold frT
  exact Int.mul_fdiv_cancel' (sh_dvd a b).1
theorem fr_B (a b : Int) : shD a b * frB a b = b := by
  unfold frB
  exact Int.mul_fdiv_cancel' (sh_dvd a b).2
theorem ok_fra {f : Addr} {fd : FuncData} (G : Glb mg) (hgcd : mg "gcd" = some (.builtin "math.gcd")) (F : Fun K "fraction" "fraction" (top 4) f fd) : FnOk P w K mg base CX0 1 f fd ["top", "bottom"] (spF K fraR) := by
  refine fn_val F (N := ["top", "bottom", "shared"]) ⟨rfl, rfl, rfl, by decide +kernel, rfl, by decide +kernel, by decide +kernel⟩ (fun ds c o h => ?_) (fun ds c o h => ?_) (fun cdv A outer s H E hr p ds c o h => ?_)
  · obtain ⟨a, b, rfl, _⟩ := h
    rfl
  · obtain ⟨a, b, _, _, _, _, rfl⟩ := h
    exact ⟨_, _, _, rfl⟩
  · obtain ⟨a, b, rfl, h0, ha, hb, rfl⟩ := h
    have nd : (["top", "bottom", "shared"] : List Str).Nodup := by decide +kernel
    have hl : (shD a b).natAbs.log2 < 9000 := by
      rw [sh_abs]
      have : Nat.gcd a.natAbs b.natAbs ≤ b.natAbs := Nat.gcd_le_right _ (by omega)
      have hb : b.natAbs < 2 ^ 190 := hb
      have z := log_lt (m := ((Nat.gcd a.natAbs b.natAbs : Nat) : Int)) (n := 190) (by show Nat.gcd a.natAbs b.natAbs < _; omega) (by decide)
      have z : (Nat.gcd a.natAbs b.natAbs).log2 < 190 := z
      omega
    refine .inl (rss_cons (c1 := c) (rs_set (nw := true) 2 nd (re_callBf cr_gcd hgcd (ra_cons (re_var 0) (ra_cons (re_var 1) ra_nil)) cv_gcd)) (rss_cons (c1 := c) (ρ1 := [some (.int a), some (.int b), some (.int (shD a b))]) ?_ (rss_ret (rs_ret (re_tup (ra_cons (re_bin op_fdivA (re_var 0) (re_var 2) (ov_cii ⟨sh_ne h0, hl⟩)) (ra_cons (re_bin op_fdivA (re_var 1) (re_var 2) (ov_cii ⟨sh_ne h0, hl⟩)) ra_nil)) (by show 2 ≤ 100000; decide))))))
    have tb : ∀ {k : Bool}, decide (b < 0) = k → OV K p (rI0 fun i j => V.bl (decide (i < j))) (.int b) (.int 0) (.bl k) true c := fun {k} hk => by
      have q := ov_ib (K := K) (p := p) (c := c) (f := fun i j => decide (i < j)) (i := b) (j := 0)
      rw [hk] at q
      exact q
    by_cases hn : b < 0
    · unfold shD
      rw [if_pos hn]
      exact rs_if (kb := true) (rt_cmp op_lt (re_var 1) re_int (tb (decide_eq_true hn))) (fun _ => rss_cons (rs_set (nw := true) 2 nd (re_neg (re_var 2))) rss_nil) fun z => nomatch z
    · unfold shD
      rw [if_neg hn]
      exact rs_if (kb := false) (rt_cmp op_lt (re_var 1) re_int (tb (decide_eq_false hn))) (fun z => nomatch z) fun _ => rss_nil
end
end K60

namespace K60
open PySem PySem.Spec PyProof.Rows L2 LA
/-! ### the fraction is one -/
theorem pos_of {g x : Int} (hg : 0 < g) (h : 0 < g * x) : 0 < x := by
  rcases Int.lt_or_le 0 x with q | q
  · exact q
  · have := Int.mul_le_mul_of_nonneg_left q (show 0 ≤ g by omega)
    rw [Int.mul_zero] at this
    omega
theorem fr_pos {a b : Int} (h : b ≠ 0) : 0 < frB a b := by
  have e := fr_B a b
  have g := gcd_pos (a := a) h
  unfold shD at e
  by_cases hb : b < 0
  · rw [if_pos hb] at e
    have e2 : ((Nat.gcd a.natAbs b.natAbs : Nat) : Int) * frB a b = -b := by
      rw [Int.neg_mul] at e
      omega
    have : 0 < ((Nat.gcd a.natAbs b.natAbs : Nat) : Int) * frB a b := by omega
    exact pos_of (by omega) this
  · rw [if_neg hb] at e
    have : 0 < ((Nat.gcd a.natAbs b.natAbs : Nat) : Int) * frB a b := by omega
    exact pos_of (by omega) this
theorem fr_abs (a b : Int) : Nat.gcd a.natAbs b.natAbs * (frT a b).natAbs = a.natAbs ∧ Nat.gcd a.natAbs b.natAbs * (frB a b).natAbs = b.natAbs := by
  refine ⟨?_, ?_⟩
  · have e := congrArg Int.natAbs (fr_T a b)
    rw [Int.natAbs_mul, sh_abs] at e
    exact e
  · have e := congrArg Int.natAbs (fr_B a b)
    rw [Int.natAbs_mul, sh_abs] at e
    exact e
theorem fr_one {a b : Int} (h : b ≠ 0) : gcB (frT a b) (frB a b) = true := by
  obtain ⟨h1, h2⟩ := fr_abs a b
  have g := gcd_pos (a := a) h
  unfold gcB
  refine decide_eq_true ?_
  have e : Nat.gcd a.natAbs b.natAbs * Nat.gcd (frT a b).natAbs (frB a b).natAbs = Nat.gcd a.natAbs b.natAbs * 1 := by
    rw [← Nat.gcd_mul_left, h1, h2, Nat.mul_one]
  exact Nat.eq_of_mul_eq_mul_left g e
theorem fr_le {a b : Int} (h : b ≠ 0) {M : Nat} (ha : a.natAbs < M) (hb : b.natAbs < M) : (frT a b).natAbs < M ∧ (frB a b).natAbs < M := by
  obtain ⟨h1, h2⟩ := fr_abs a b
  have g := gcd_pos (a := a) h
  have l1 : 1 * (frT a b).natAbs ≤ Nat.gcd a.natAbs b.natAbs * (frT a b).natAbs := Nat.mul_le_mul_right _ g
  have l2 : 1 * (frB a b).natAbs ≤ Nat.gcd a.natAbs b.natAbs * (frB a b).natAbs := Nat.mul_le_mul_right _ g
  omega
theorem fr_cross {a b : Int} (h : b ≠ 0) : frT a b * b = a * frB a b := by
  have e1 := fr_T a b
  have e2 := fr_B a b
  calc frT a b * b = frT a b * (shD a b * frB a b) := by rw [e2]
    _ = (shD a b * frT a b) * frB a b := by rw [← Int.mul_assoc, Int.mul_comm (frT a b)]
    _ = a * frB a b := by rw [e1]
theorem fr_is {a b : Int} (h : b ≠ 0) : fracB (.tup [.int (frT a b), .int (frB a b)]) = true := by
  show (decide (0 < frB a b) && gcB _ _) = true
  rw [decide_eq_true (fr_pos h), fr_one h]
  rfl
/-! ### the values -/
def OkI (x : D) : Prop := Ty x ∧ ∀ i, x = .int i → B190 i
theorem oki_int {i : Int} (h : B190 i) : OkI (.int i) := ⟨⟨_, rfl⟩, fun j e => by cases e; exact h⟩
theorem oki_bl {b : Bool} : OkI (.bl b) := ⟨⟨_, rfl⟩, fun j e => nomatch e⟩
theorem oki_non : OkI .non := ⟨⟨_, rfl⟩, fun j e => nomatch e⟩
theorem oki_str {x : Str} : OkI (.str x) := ⟨⟨_, rfl⟩, fun j e => nomatch e⟩
theorem oki_tup {xs : List D} : OkI (.tup xs) := ⟨⟨_, rfl⟩, fun j e => nomatch e⟩
theorem fit_tup {xs : List D} (h : ∀ x ∈ xs, OkI x) : FitV (.tup xs) := ⟨⟨_, rfl⟩, fun ys e x hx => by cases e; exact h x hx⟩
theorem fit_oth {d : D} (h : Ty d) (n : isTupD d = false) : FitV d := ⟨h, fun xs e => by subst e; cases n⟩
theorem fc {P : D → Prop} {x : D} {xs : List D} (h : P x) (hr : ∀ y ∈ xs, P y) : ∀ y ∈ x :: xs, P y := fun y hy => by
  rcases List.mem_cons.mp hy with rfl | hy
  · exact h
  · exact hr y hy
theorem fn0 {P : D → Prop} : ∀ y ∈ ([] : List D), P y := fun y hy => nomatch hy
theorem fa {P : D → Prop} {xs ys : List D} (h : ∀ y ∈ xs, P y) (hr : ∀ y ∈ ys, P y) : ∀ y ∈ xs ++ ys, P y := fun y hy => (List.mem_append.mp hy).elim (h y) (hr y)
theorem b_of {i : Int} (h : i.natAbs < 2 ^ 130) : B190 i := Nat.lt_of_lt_of_le h (by decide)
def bad0 : List D := [.non, .int 3, .str "1/2", .lst ⟨true, true⟩ [.int 1, .int 2], .tup [.int 1], .tup [.int 1, .int 2, .int 3], .tup [.int 2, .int 4]]
def bad1 : List D := [.tup [.int 1, .int 0], .tup [.int 1, .int (-2)], .tup [.bl true, .int 2], .tup [.int 1, .bl true], .tup [.int 0, .int 2], .tup [.str "1", .int 2]]
def bad2 (T B : Int) : List D := [.tup [.int (T * 2), .int (B * 2)], .tup [.int T, .int (-B)], .lst ⟨false, true⟩ [.int T, .int B]]
def bad3 (T B : Int) : List D := [.tup [.tup [.int T, .int B]], .tup [.int T, .non]]
def last4 (T B : Int) : List D := [.tup [.int 0, .int 1], .tup [.int (-1), .int 1], .tup [.int 5, .int 3], .tup [.int T, .int B]]
def allV (T B : Int) : List D := (((bad0 ++ bad1) ++ bad2 T B) ++ bad3 T B) ++ last4 T B
theorem all_fit {T B : Int} (hT : T.natAbs < 2 ^ 129) (hB : B.natAbs < 2 ^ 129) : ∀ d ∈ allV T B, FitV d := by
  have s : ∀ {i : Int}, i.natAbs < 100 → OkI (.int i) := fun {i} h => oki_int (Nat.lt_of_lt_of_le h (by decide))
  have e : (2 : Nat) ^ 130 = 2 * 2 ^ 129 := by decide
  have t : OkI (.int T) := oki_int (b_of (by omega))
  have b : OkI (.int B) := oki_int (b_of (by omega))
  have t2 : OkI (.int (T * 2)) := oki_int (b_of (by omega))
  have b2 : OkI (.int (B * 2)) := oki_int (b_of (by omega))
  have bn : OkI (.int (-B)) := oki_int (b_of (by omega))
  refine fa (fa (fa (fa ?_ ?_) ?_) ?_) ?_
  · exact fc (fit_oth ⟨_, rfl⟩ rfl) (fc (fit_oth ⟨_, rfl⟩ rfl) (fc (fit_oth ⟨_, rfl⟩ rfl) (fc (fit_oth ⟨_, rfl⟩ rfl) (fc (fit_tup (fc (s (by decide)) fn0)) (fc (fit_tup (fc (s (by decide)) (fc (s (by decide)) (fc (s (by decide)) fn0)))) (fc (fit_tup (fc (s (by decide)) (fc (s (by decide)) fn0))) fn0))))))
  · exact fc (fit_tup (fc (s (by decide)) (fc (s (by decide)) fn0))) (fc (fit_tup (fc (s (by decide)) (fc (s (by decide)) fn0))) (fc (fit_tup (fc oki_bl (fc (s (by decide)) fn0))) (fc (fit_tup (fc (s (by decide)) (fc oki_bl fn0))) (fc (fit_tup (fc (s (by decide)) (fc (s (by decide)) fn0))) (fc (fit_tup (fc oki_str (fc (s (by decide)) fn0))) fn0)))))
  · exact fc (fit_tup (fc t2 (fc b2 fn0))) (fc (fit_tup (fc t (fc bn fn0))) (fc (fit_oth ⟨_, rfl⟩ rfl) fn0))
  · exact fc (fit_tup (fc oki_tup fn0)) (fc (fit_tup (fc t (fc oki_non fn0))) fn0)
  · exact fc (fit_tup (fc (s (by decide)) (fc (s (by decide)) fn0))) (fc (fit_tup (fc (s (by decide)) (fc (s (by decide)) fn0))) (fc (fit_tup (fc (s (by decide)) (fc (s (by decide)) fn0))) (fc (fit_tup (fc t (fc b fn0))) fn0)))
/-! ### one turn of the law -/
def gL : List Int := [3, 30, 10 ^ (9 : Int).toNat, 10 ^ (19 : Int).toNat]
def gO (b : Bg) : Int := gL.getD (bagV b 4).toNat 3
def nx1 (b : Bg) : Bg := bagC b 4
def nx2 (b : Bg) : Bg := bagC (nx1 b) (gO b)
def nx3 (b : Bg) : Bg := bagC (nx2 b) (2 * gO b)
def nx4 (b : Bg) : Bg := bagC (nx3 b) (gO b)
def nx5 (b : Bg) : Bg := bagC (nx4 b) 2
def faO (b : Bg) : Int := 1 + bagV (nx1 b) (gO b)
def toO (b : Bg) : Int := (bagV (nx2 b) (2 * gO b) - gO b) * faO b
def siO (b : Bg) : Int := ([1, -1] : List Int).getD (bagV (nx4 b) 2).toNat 1
def boO (b : Bg) : Int := (1 + bagV (nx3 b) (gO b)) * faO b * siO b
theorem gO_in (b : Bg) : 3 ≤ gO b ∧ gO b ≤ 10000000000000000000 := by
  have h := bagV_in (b := b) (show (0 : Int) < 4 by decide)
  have all : ∀ i < 4, 3 ≤ gL.getD i 3 ∧ gL.getD i 3 ≤ 10000000000000000000 := by decide
  exact all _ (by omega)
theorem faO_in (b : Bg) : 1 ≤ faO b ∧ faO b ≤ gO b := by
  have g := gO_in b
  have h := bagV_in (b := nx1 b) (m := gO b) (by omega)
  unfold faO
  omega
theorem siO_in (b : Bg) : siO b = 1 ∨ siO b = -1 := by
  have h := bagV_in (b := nx4 b) (show (0 : Int) < 2 by decide)
  have all : ∀ i < 2, ([1, -1] : List Int).getD i 1 = 1 ∨ ([1, -1] : List Int).getD i 1 = -1 := by decide
  exact all _ (by omega)
theorem abs64 {i : Int} (h0 : -10000000000000000000 ≤ i) (h1 : i ≤ 10000000000000000000) : i.natAbs < 2 ^ 64 := by
  have : (2 : Nat) ^ 64 = 18446744073709551616 := by decide
  omega
theorem m1_in (b : Bg) : (bagV (nx2 b) (2 * gO b) - gO b).natAbs < 2 ^ 64 := by
  have g := gO_in b
  have h := bagV_in (b := nx2 b) (m := 2 * gO b) (by omega)
  exact abs64 (by omega) (by omega)
theorem fa_in (b : Bg) : (faO b).natAbs < 2 ^ 64 := by
  have g := gO_in b
  have f := faO_in b
  exact abs64 (by omega) (by omega)
theorem m2_in (b : Bg) : (1 + bagV (nx3 b) (gO b)).natAbs < 2 ^ 64 ∧ 1 ≤ 1 + bagV (nx3 b) (gO b) := by
  have g := gO_in b
  have h := bagV_in (b := nx3 b) (m := gO b) (by omega)
  exact ⟨abs64 (by omega) (by omega), by omega⟩
theorem toO_in (b : Bg) : (toO b).natAbs < 2 ^ 128 := wide_lt (a := 64) (b := 64) (m1_in b) (fa_in b)
theorem bo1_in (b : Bg) : ((1 + bagV (nx3 b) (gO b)) * faO b).natAbs < 2 ^ 128 := wide_lt (a := 64) (b := 64) (m2_in b).1 (fa_in b)
theorem boO_in (b : Bg) : (boO b).natAbs < 2 ^ 128 ∧ boO b ≠ 0 := by
  have h := bo1_in b
  have p1 := (m2_in b).2
  have p2 := (faO_in b).1
  have p : 0 < (1 + bagV (nx3 b) (gO b)) * faO b := Int.mul_pos (by omega) (by omega)
  unfold boO
  generalize (1 + bagV (nx3 b) (gO b)) * faO b = x at *
  rcases siO_in b with e | e <;> rw [e] <;> omega
end K60

namespace K60
open PySem PySem.Spec PyProof.Rows L2 LA
section
variable {P : Program} {w : World} {K : PySem.W.Frag} {mg : Str → Option Value} {base : Heap}
abbrev FracD (P : Program) (w : World) (K : PySem.W.Frag) (mg : Str → Option Value) (base : Heap) := Def0 P w K mg base 2 "is_fraction" ["value"] fracR
abbrev LfracD (P : Program) (w : World) (K : PySem.W.Frag) (mg : Str → Option Value) (base : Heap) := Def0 P w K mg base 2 "_law_is_fraction" ["_law_value"] fracR
abbrev FraD (P : Program) (w : World) (K : PySem.W.Frag) (mg : Str → Option Value) (base : Heap) := Def0 P w K mg base 1 "fraction" ["top", "bottom"] fraR
abbrev nLaw : List Str := ["_law_script", "_law_bag_here", "_law_k", "_law_great", "_law_factor", "_law_top", "_law_bottom", "_law_told", "_law_bad", "_law_value", "_law_answer"]
theorem scLaw : FnScope nLaw ["_law_script"] (defScope (top 12)) := ⟨rfl, rfl, rfl, by decide +kernel, rfl, by decide +kernel, by decide +kernel⟩
abbrev cxL (P : Program) (w : World) (K : PySem.W.Frag) (mg : Str → Option Value) (base : Heap) (f : Addr) (cdv : Value) (A : Around) (outer : List Env) (s : Shared) (H : Hp) (E : XK) : Cx := (cxOf CX0 P w K mg base nLaw "law" (defScope (top 12)) f cdv A outer s H E).nox
abbrev bK : List Stmt := match defBody (top 12) with
  | _ :: .For _ _ b _ _ :: _ => b
  | _ => []
abbrev bV : List Stmt := match bK.drop 11 with
  | .For _ _ b _ _ :: _ => b
  | _ => []
variable {f : Addr} {cdv : Value} {A : Around} {outer : List Env} {s : Shared} {H : Hp} {E : XK} {p : HD} {S kk : D}
theorem value_ok {c : LA.PC} {v : D} (G : Glb mg) (TF : FracD P w K mg base) (TL : LfracD P w K mg base) (hr : Room 2 (cxL P w K mg base f cdv A outer s H E).A) (fv : FitV v) {a b cc d e g h i : Option D} :
    RSs (cxL P w K mg base f cdv A outer s H E) Wf p [a, b, cc, d, e, g, h, i, none, some v, none] c bV (.nx [a, b, cc, d, e, g, h, i, none, none, none] c) := by
  refine rss_less (ρ1 := [a, b, cc, d, e, g, h, i, none, some v, some (.bl (fracB v))]) (rss_cons (c1 := c) (rs_set (nw := true) 10 scLaw.nd (re_c0 TF hr (ra_cons (re_var 9) ra_nil) ⟨v, rfl, fv, rfl⟩)) (rss_cons (c1 := c) (rs_if (kb := false) (RW.rt (rw_or (k1 := false) (k2 := false) (rt_not (rt_val (re_callB (d := .bl true) call_isi G.isi PyProof.Rows.boot_isinstance (ra_cons (re_var 10) (ra_cons (re_ty G.bool PyProof.Rows.boot_bool) ra_nil)) (cv_isi (d := .bl (fracB v)) rfl (isi_bool (d := .bl (fracB v)) rfl))))) fun _ => rw_or1 (rt_cmp (nw := true) op_ne (re_var 10) (re_c0 TL hr (ra_cons (re_var 9) ra_nil) ⟨v, rfl, fv, rfl⟩) ?_))) (fun z => nomatch z) fun _ => rss_nil) rss_nil)) (by repeat (first | exact Less.nil | apply Less.same | apply Less.skip))
  have q := ov_neB (K := K) (p := p) (c := c) (i := fracB v) (j := fracB v)
  rw [decide_eq_true rfl] at q
  exact q
theorem value_ok8 {c : LA.PC} {v : D} (G : Glb mg) (TF : FracD P w K mg base) (TL : LfracD P w K mg base) (hr : Room 2 (cxL P w K mg base f cdv A outer s H E).A) (fv : FitV v) {a b cc d e g h i l : Option D} :
    RSs (cxL P w K mg base f cdv A outer s H E) Wf p [a, b, cc, d, e, g, h, i, l, some v, none] c bV (.nx [a, b, cc, d, e, g, h, i, none, none, none] c) := by
  refine rss_less (ρ1 := [a, b, cc, d, e, g, h, i, l, some v, some (.bl (fracB v))]) (rss_cons (c1 := c) (rs_set (nw := true) 10 scLaw.nd (re_c0 TF hr (ra_cons (re_var 9) ra_nil) ⟨v, rfl, fv, rfl⟩)) (rss_cons (c1 := c) (rs_if (kb := false) (RW.rt (rw_or (k1 := false) (k2 := false) (rt_not (rt_val (re_callB (d := .bl true) call_isi G.isi PyProof.Rows.boot_isinstance (ra_cons (re_var 10) (ra_cons (re_ty G.bool PyProof.Rows.boot_bool) ra_nil)) (cv_isi (d := .bl (fracB v)) rfl (isi_bool (d := .bl (fracB v)) rfl))))) fun _ => rw_or1 (rt_cmp (nw := true) op_ne (re_var 10) (re_c0 TL hr (ra_cons (re_var 9) ra_nil) ⟨v, rfl, fv, rfl⟩) ?_))) (fun z => nomatch z) fun _ => rss_nil) rss_nil)) (by repeat (first | exact Less.nil | apply Less.same | apply Less.skip))
  have q := ov_neB (K := K) (p := p) (c := c) (i := fracB v) (j := fracB v)
  rw [decide_eq_true rfl] at q
  exact q
theorem turn_ok {b : Bg} (G : Glb mg) (TB : BdrawD P w K mg base) (TF : FracD P w K mg base) (TL : LfracD P w K mg base) (TR : FraD P w K mg base) (hr : Room 2 (cxL P w K mg base f cdv A outer s H E).A) :
    RSs (cxL P w K mg base f cdv A outer s H E) Wf p [some S, some (.mut 0), some kk, none, none, none, none, none, none, none, none] [b.c] bK (.nx [some S, some (.mut 0), none, none, none, none, none, none, none, none, none] [(nx5 b).c]) := by
  have h4 := bagV_in (b := b) (show (0 : Int) < 4 by decide)
  have hg := gO_in b
  have h2 := bagV_in (b := nx4 b) (show (0 : Int) < 2 by decide)
  have lg : ∀ {m : Int}, 0 < m → m ≤ 20000000000000000000 → m.natAbs.log2 < 9000 := fun {m} h0 h1 => by
    have e : (2 : Nat) ^ 65 = 36893488147419103232 := by decide
    have := log_lt (m := m) (n := 65) (by omega) (by decide)
    omega
  have l4 : (4 : Int).natAbs.log2 < 9000 := lg (by decide) (by decide)
  have l2 : (2 : Int).natAbs.log2 < 9000 := lg (by decide) (by decide)
  -- great
  refine rss_less (ρ1 := [some S, some (.mut 0), some kk, some (.int (gO b)), some (.int (faO b)), some (.int (toO b)), some (.int (boO b)), some (.tup [.int (frT (toO b) (boO b)), .int (frB (toO b) (boO b))]), none, none, none]) (rss_cons (c1 := [(nx1 b).c]) (ρ1 := [some S, some (.mut 0), some kk, some (.int (gO b)), none, none, none, none, none, none, none]) (rs_set (nw := false) 3 scLaw.nd (re_ix ix_seq (d1 := .lst ⟨true, true⟩ (gL.map D.int)) (re_lst (ra_cons re_int (ra_cons re_int (ra_cons (re_bin op_pow re_int re_int (ov_cii (by show (0 : Int) ≤ 9 ∧ (9 : Int) ≤ 1000000 ∧ _; decide))) (ra_cons (re_bin op_pow re_int re_int (ov_cii (by show (0 : Int) ≤ 19 ∧ (19 : Int) ≤ 1000000 ∧ _; decide))) ra_nil)))) (by show 4 ≤ 100000; decide)) (re_bdraw 1 (b := b) TB (hr.mono (by decide)) re_int (by decide) l4) (ov_ixL (j := (bagV b 4).toNat) (Int.toNat_of_nonneg h4.1).symm ?_))) ?_) (by repeat (first | exact Less.nil | apply Less.same | apply Less.skip))
  · have hl : (bagV b 4).toNat < gL.length := by show _ < 4; omega
    unfold gO
    rw [List.getElem?_map, List.getD_eq_getElem?_getD, List.getElem?_eq_getElem hl]
    rfl
  -- factor
  refine rss_cons (c1 := [(nx2 b).c]) (ρ1 := [some S, some (.mut 0), some kk, some (.int (gO b)), some (.int (faO b)), none, none, none, none, none, none]) (rs_set (nw := true) 4 scLaw.nd (re_bin op_add re_int (re_bdraw 1 (b := nx1 b) TB (hr.mono (by decide)) (re_var 3) (by omega) (lg (by omega) (by omega))) ov_ii)) ?_
  -- top
  refine rss_cons (c1 := [(nx3 b).c]) (ρ1 := [some S, some (.mut 0), some kk, some (.int (gO b)), some (.int (faO b)), some (.int (toO b)), none, none, none, none, none]) (rs_set (nw := true) 5 scLaw.nd (re_bin op_mulW (re_bin op_sub (re_bdraw 1 (b := nx2 b) TB (hr.mono (by decide)) (re_bin op_mul re_int (re_var 3) (ov_cii (.inl ⟨by decide, by decide⟩))) (by omega) (lg (by omega) (by omega))) (re_var 3) ov_ii) (re_var 4) (ov_cii (wide_mul (m1_in b) (fa_in b) (by decide) (by decide) (by decide))))) ?_
  -- bottom
  refine rss_cons (c1 := [(nx5 b).c]) (ρ1 := [some S, some (.mut 0), some kk, some (.int (gO b)), some (.int (faO b)), some (.int (toO b)), some (.int (boO b)), none, none, none, none]) (rs_set (nw := true) 6 scLaw.nd (re_bin op_mulW (re_bin op_mulW (re_bin op_add re_int (re_bdraw 1 (b := nx3 b) TB (hr.mono (by decide)) (re_var 3) (by omega) (lg (by omega) (by omega))) ov_ii) (re_var 4) (ov_cii (wide_mul (m2_in b).1 (fa_in b) (by decide) (by decide) (by decide)))) (re_ix ix_seq (d := .int (siO b)) (d1 := .lst ⟨true, true⟩ [.int 1, .int (-1)]) (re_lst (ra_cons re_int (ra_cons (re_neg re_int) ra_nil)) (by show 2 ≤ 100000; decide)) (re_bdraw 1 (b := nx4 b) TB (hr.mono (by decide)) re_int (by decide) l2) (ov_ixL (j := (bagV (nx4 b) 2).toNat) (Int.toNat_of_nonneg h2.1).symm ?_)) (ov_cii (wide_mul (bo1_in b) (b := 64) (by rcases siO_in b with e | e <;> rw [e] <;> decide) (by decide) (by decide) (by decide))))) ?_
  · have all : ∀ i < 2, ([D.int 1, .int (-1)] : List D)[i]? = some (.int (([1, -1] : List Int).getD i 1)) := fun i hi => by
      match i, hi with
      | 0, _ => rfl
      | 1, _ => rfl
    exact all _ (by omega)
  obtain ⟨b1, b0⟩ := boO_in b
  have t1 := toO_in b
  have e190 : (2 : Nat) ^ 128 ≤ 2 ^ 190 := by decide
  have e129 : (2 : Nat) ^ 129 = 2 * 2 ^ 128 := by decide
  obtain ⟨lT, lB⟩ := fr_le (a := toO b) b0 t1 b1
  have isF := fr_is (a := toO b) b0
  have cross := fr_cross (a := toO b) b0
  -- told
  refine rss_cons (c1 := [(nx5 b).c]) (ρ1 := [some S, some (.mut 0), some kk, some (.int (gO b)), some (.int (faO b)), some (.int (toO b)), some (.int (boO b)), some (.tup [.int (frT (toO b) (boO b)), .int (frB (toO b) (boO b))]), none, none, none]) (rs_set (nw := true) 7 scLaw.nd (re_c0 TR (hr.mono (by decide)) (ra_cons (re_var 5) (ra_cons (re_var 6) ra_nil)) ⟨_, _, rfl, b0, Nat.lt_of_lt_of_le t1 e190, Nat.lt_of_lt_of_le b1 e190, rfl⟩)) ?_
  generalize hT : frT (toO b) (boO b) = T at *
  generalize hB : frB (toO b) (boO b) = B at *
  have fits := all_fit (T := T) (B := B) (by omega) (by omega)
  have fT : FitV (.tup [.int T, .int B]) := fits _ (by unfold allV last4; simp)
  refine rss_cons (c1 := [(nx5 b).c]) (ρ1 := [some S, some (.mut 0), some kk, some (.int (gO b)), some (.int (faO b)), some (.int (toO b)), some (.int (boO b)), some (.tup [.int T, .int B]), none, none, none]) (rs_if (kb := false) (RW.rt (rw_or (k1 := false) (k2 := false) (rt_not (rt_val (re_c0 (d := .bl true) TL hr (ra_cons (re_var 7) ra_nil) ⟨_, rfl, fT, by rw [isF]⟩))) fun _ => rw_or1 (rt_cmp (nw := true) op_ne (re_bin op_mulW (re_ix ix_seq (re_var 7) re_int (ov_ixT (j := 0) rfl rfl)) (re_var 6) (ov_cii (wide_mul lT b1 (by decide) (by decide) (by decide)))) (re_bin op_mulW (re_var 5) (re_ix ix_seq (re_var 7) re_int (ov_ixT (j := 1) rfl rfl)) (ov_cii (wide_mul t1 lB (by decide) (by decide) (by decide)))) ?_))) (fun z => nomatch z) fun _ => rss_nil) ?_
  · have q := ov_neI (K := K) (p := p) (c := [(nx5 b).c]) (i := T * boO b) (j := toO b * B)
    rw [decide_eq_true cross] at q
    exact q
  refine rss_cons (c1 := [(nx5 b).c]) (ρ1 := [some S, some (.mut 0), some kk, some (.int (gO b)), some (.int (faO b)), some (.int (toO b)), some (.int (boO b)), some (.tup [.int T, .int B]), none, none, none]) (rs_if (kb := false) (rt_not (rt_val (re_c0 (d := .bl true) TF hr (ra_cons (re_var 7) ra_nil) ⟨_, rfl, fT, by rw [isF]⟩))) (fun z => nomatch z) fun _ => rss_nil) ?_
  -- the other values
  have dbl : ∀ {i : Int}, i.natAbs < 2 ^ 128 → CMul i 2 := fun {i} _ => cmul_r (by decide) (by decide)
  refine rss_cons (c1 := [(nx5 b).c]) (ρ1 := [some S, some (.mut 0), some kk, some (.int (gO b)), some (.int (faO b)), some (.int (toO b)), some (.int (boO b)), some (.tup [.int T, .int B]), some (.lst ⟨true, true⟩ bad0), none, none]) (rs_set (nw := true) 8 scLaw.nd (re_lst (ra_cons re_non (ra_cons re_int (ra_cons re_str (ra_cons (re_lst (ra_cons re_int (ra_cons re_int ra_nil)) (by show 2 ≤ 100000; decide)) (ra_cons (re_tup (ra_cons re_int ra_nil) (by show 1 ≤ 100000; decide)) (ra_cons (re_tup (ra_cons re_int (ra_cons re_int (ra_cons re_int ra_nil))) (by show 3 ≤ 100000; decide)) (ra_cons (re_tup (ra_cons re_int (ra_cons re_int ra_nil)) (by show 2 ≤ 100000; decide)) ra_nil))))))) (by show 7 ≤ 100000; decide))) ?_
  refine rss_cons (c1 := [(nx5 b).c]) (ρ1 := [some S, some (.mut 0), some kk, some (.int (gO b)), some (.int (faO b)), some (.int (toO b)), some (.int (boO b)), some (.tup [.int T, .int B]), some (.lst ⟨false, true⟩ (bad0 ++ bad1)), none, none]) (rs_set (nw := true) 8 scLaw.nd (re_bin op_cat (re_var 8) (re_lst (ra_cons (re_tup (ra_cons re_int (ra_cons re_int ra_nil)) (by show 2 ≤ 100000; decide)) (ra_cons (re_tup (ra_cons re_int (ra_cons (re_neg re_int) ra_nil)) (by show 2 ≤ 100000; decide)) (ra_cons (re_tup (ra_cons re_bl (ra_cons re_int ra_nil)) (by show 2 ≤ 100000; decide)) (ra_cons (re_tup (ra_cons re_int (ra_cons re_bl ra_nil)) (by show 2 ≤ 100000; decide)) (ra_cons (re_tup (ra_cons re_int (ra_cons re_int ra_nil)) (by show 2 ≤ 100000; decide)) (ra_cons (re_tup (ra_cons re_str (ra_cons re_int ra_nil)) (by show 2 ≤ 100000; decide)) ra_nil)))))) (by show 6 ≤ 100000; decide)) (ov_cat rfl rfl (by show 7 + 6 ≤ 100000; decide)))) ?_
  refine rss_cons (c1 := [(nx5 b).c]) (ρ1 := [some S, some (.mut 0), some kk, some (.int (gO b)), some (.int (faO b)), some (.int (toO b)), some (.int (boO b)), some (.tup [.int T, .int B]), some (.lst ⟨false, true⟩ ((bad0 ++ bad1) ++ bad2 T B)), none, none]) (rs_set (nw := true) 8 scLaw.nd (re_bin op_cat (re_var 8) (re_lst (ra_cons (re_tup (ra_cons (re_bin op_mul (re_ix ix_seq (re_var 7) re_int (ov_ixT (j := 0) rfl rfl)) re_int (ov_cii (dbl lT))) (ra_cons (re_bin op_mul (re_ix ix_seq (re_var 7) re_int (ov_ixT (j := 1) rfl rfl)) re_int (ov_cii (dbl lB))) ra_nil)) (by show 2 ≤ 100000; decide)) (ra_cons (re_tup (ra_cons (re_ix ix_seq (re_var 7) re_int (ov_ixT (j := 0) rfl rfl)) (ra_cons (re_neg (re_ix ix_seq (re_var 7) re_int (ov_ixT (j := 1) rfl rfl))) ra_nil)) (by show 2 ≤ 100000; decide)) (ra_cons (re_callT call_list_of G.list PyProof.Rows.boot_list (ra_cons (re_var 7) ra_nil) cv_listT) ra_nil))) (by show 3 ≤ 100000; decide)) (ov_cat rfl rfl (by show 13 + 3 ≤ 100000; decide)))) ?_
  refine rss_cons (c1 := [(nx5 b).c]) (ρ1 := [some S, some (.mut 0), some kk, some (.int (gO b)), some (.int (faO b)), some (.int (toO b)), some (.int (boO b)), some (.tup [.int T, .int B]), some (.lst ⟨false, true⟩ (((bad0 ++ bad1) ++ bad2 T B) ++ bad3 T B)), none, none]) (rs_set (nw := true) 8 scLaw.nd (re_bin op_cat (re_var 8) (re_lst (ra_cons (re_tup (ra_cons (re_var 7) ra_nil) (by show 1 ≤ 100000; decide)) (ra_cons (re_tup (ra_cons (re_ix ix_seq (re_var 7) re_int (ov_ixT (j := 0) rfl rfl)) (ra_cons re_non ra_nil)) (by show 2 ≤ 100000; decide)) ra_nil)) (by show 2 ≤ 100000; decide)) (ov_cat rfl rfl (by show 16 + 2 ≤ 100000; decide)))) ?_
  refine rss_less (ρ1 := [some S, some (.mut 0), some kk, some (.int (gO b)), some (.int (faO b)), some (.int (toO b)), some (.int (boO b)), some (.tup [.int T, .int B]), none, none, none]) (rss_cons (c1 := [(nx5 b).c]) (rs_for_all (vs := [9]) (g := gName 9) (xs := allV T B) (fun i => if i = 0 then [some S, some (.mut 0), some kk, some (.int (gO b)), some (.int (faO b)), some (.int (toO b)), some (.int (boO b)), some (.tup [.int T, .int B]), some (.lst ⟨false, true⟩ (((bad0 ++ bad1) ++ bad2 T B) ++ bad3 T B)), none, none] else [some S, some (.mut 0), some kk, some (.int (gO b)), some (.int (faO b)), some (.int (toO b)), some (.int (boO b)), some (.tup [.int T, .int B]), none, none, none]) (fun i => if i = 0 then [some S, some (.mut 0), some kk, some (.int (gO b)), some (.int (faO b)), some (.int (toO b)), some (.int (boO b)), some (.tup [.int T, .int B]), some (.lst ⟨false, true⟩ (((bad0 ++ bad1) ++ bad2 T B) ++ bad3 T B)), some ((allV T B).getD i .non), none] else [some S, some (.mut 0), some kk, some (.int (gO b)), some (.int (faO b)), some (.int (toO b)), some (.int (boO b)), some (.tup [.int T, .int B]), none, some ((allV T B).getD i .non), none]) (fun _ => [(nx5 b).c]) PassesOwn.never rfl rfl
    (ri_lst (re_bin op_cat (re_var 8) (re_lst (ra_cons (re_tup (ra_cons re_int (ra_cons re_int ra_nil)) (by show 2 ≤ 100000; decide)) (ra_cons (re_tup (ra_cons (re_neg re_int) (ra_cons re_int ra_nil)) (by show 2 ≤ 100000; decide)) (ra_cons (re_tup (ra_cons re_int (ra_cons re_int ra_nil)) (by show 2 ≤ 100000; decide)) (ra_cons (re_var 7) ra_nil)))) (by show 4 ≤ 100000; decide)) (ov_cat rfl rfl (by show 18 + 4 ≤ 100000; decide)))) (pg_name (i := 9) scLaw.nd rfl (Or.inl rfl)) (fun i d h => ?_) (fun i d h => ?_)) rss_nil) (by repeat (first | exact Less.nil | apply Less.same | apply Less.skip))
  · have ed : (allV T B).getD i .non = d := by rw [List.getD_eq_getElem?_getD, h]; rfl
    rw [ed]
    by_cases e : i = 0
    · rw [if_pos e, if_pos e]
      exact tg_name (by decide)
    · rw [if_neg e, if_neg e]
      exact tg_name (by decide)
  · have ed : (allV T B).getD i .non = d := by rw [List.getD_eq_getElem?_getD, h]; rfl
    have fd := fits d (List.mem_of_getElem? h)
    rw [ed, if_neg (show ¬ i + 1 = 0 by omega)]
    by_cases e : i = 0
    · rw [if_pos e]
      exact value_ok8 G TF TL hr fd
    · rw [if_neg e]
      exact value_ok G TF TL hr fd
end
end K60

namespace K60
open PySem PySem.Spec PyProof.Rows L2 LA
section
variable {P : Program} {w : World} {K : PySem.W.Frag} {mg : Str → Option Value} {base : Heap}
variable {f : Addr} {cdv : Value} {A : Around} {outer : List Env} {s : Shared} {H : Hp} {E : XK} {p : HD}
def bgs (b : Bg) : Nat → Bg
  | 0 => b
  | n + 1 => nx5 (bgs b n)
theorem low_is (n : Nat) : ∀ ns : List Int, lowDs n (ns.map D.int) = true
  | [] => rfl
  | a :: r => low_is n r
theorem law_ok {g : G} {ns : List Int} (G : Glb mg) (TP : BagD P w K mg base) (TB : BdrawD P w K mg base) (TF : FracD P w K mg base) (TL : LfracD P w K mg base) (TR : FraD P w K mg base) (hr : Room 2 (cxL P w K mg base f cdv A outer s H E).A) :
    RSs (cxL P w K mg base f cdv A outer s H E) Wf ⟨[], []⟩ [some (.lst g (ns.map D.int)), none, none, none, none, none, none, none, none, none, none] [] (defBody (top 12)) (.rt (.bl true) true []) := by
  refine rso_of (rso_new (g := ⟨true, true⟩) (ds := Bg.ds ⟨ns, 0, 29, 0⟩) (c1 := []) 1 (rn_set (W := Wf) 1 scLaw.nd (re_c0 TP (hr.mono (by decide)) (ra_cons (re_var 0) ra_nil) ⟨g, ns, rfl, rfl⟩)) ?_ fun a => ?_)
  · show (lowDs 0 (ns.map D.int) && true) = true
    rw [low_is]
    rfl
  refine rso_end (so' := .rt (.bl true) true [(bgs ⟨ns, 0, 29, 0⟩ 4).c]) 0 (rss_cons (c1 := [(bgs ⟨ns, 0, 29, 0⟩ 4).c]) (ρ1 := [some (.lst g (ns.map D.int)), some (.mut 0), none, none, none, none, none, none, none, none, none]) (rs_for_all (xs := intsD (4 : Int).toNat) (vs := [2]) (g := gName 2) (fun _ => [some (.lst g (ns.map D.int)), some (.mut 0), none, none, none, none, none, none, none, none, none]) (fun i => [some (.lst g (ns.map D.int)), some (.mut 0), some (.int (i : Nat)), none, none, none, none, none, none, none, none]) (fun i => [(bgs ⟨ns, 0, 29, 0⟩ i).c]) PassesOwn.never rfl rfl (ri_range G.range re_int (by decide) (by decide)) (pg_name (i := 2) scLaw.nd rfl (Or.inl rfl)) (fun i d h => by
      obtain ⟨rfl, _⟩ := intsD_at h
      exact tg_name (by decide)) (fun i d h => turn_ok G TB TF TL TR hr)) (rss_ret (rs_ret re_bl))) (.rt rfl rfl) rfl
end
/-- all that the end asks of the text -/
structure Txt (K : PySem.W.Frag) : Prop where
  free : ∀ x ∈ (["len", "int", "range", "list", "isinstance", "bool", "abs", "tuple"] : List Str), PySem.W.nsIn K mainGlobals x = some none
  gcd : PySem.W.nsIn K mainGlobals "gcd" = some (some (.builtin "math.gcd"))
  f2 : Gf K "is_whole" (top 2)
  f4 : Gf K "fraction" (top 4)
  f5 : Gf K "is_fraction" (top 5)
  f7 : Gf K "_law_bag" (top 7)
  f8 : Gf K "_law_draw" (top 8)
  f9 : Gf K "_law_is_whole" (top 9)
  f10 : Gf K "_law_gcd" (top 10)
  f11 : Gf K "_law_is_fraction" (top 11)
  f12 : Gf K "law" (top 12)
section
variable {P : Program} {w : World} {K : PySem.W.Frag} {mg : Str → Option Value} {base h : Heap}
theorem run60 {fa : Addr} (T : Txt K) (X : K.In h) (G : h.Ns mainGlobals mg) (hfa : mg "law" = some (.ref fa)) {s0 : Shared} {H : Hp} {a : Addr} {ns : List Int} (e0 : Env0 P w K mg base callerA [] s0 H) (sq : SqL K H a (ns.map V.int)) (hl : ns.length ≤ 63) :
    codeAny (model P w) callerA (.call (.ref fa) ⟨[.ref a], []⟩) (CR CX0 [] P w H s0 (fun v _ => v = .bl true) fun _ _ _ => False) s0 := by
  have fr := fun x (m : x ∈ (["len", "int", "range", "list", "isinstance", "bool", "abs", "tuple"] : List Str)) => PySem.W.mg_none_of X G (T.free x m)
  have Gb : Glb mg := ⟨fr _ (by decide), fr _ (by decide), fr _ (by decide), fr _ (by decide), fr _ (by decide), fr _ (by decide), fr _ (by decide), fr _ (by decide)⟩
  have hg := PySem.W.mg_of X G T.gcd
  have D7 : BagD P w K mg base := def0 X G T.f7 (fun f fd F => ok_bag Gb F) fun _ _ _ _ _ _ us hl => match us, hl with | [_], _ => rfl
  have D8 : BdrawD P w K mg base := def0 X G T.f8 (fun f fd F => ok_bdraw Gb F) fun _ _ _ _ _ _ us hl => match us, hl with | [_, _], _ => rfl
  have D2 : WholeD P w K mg base := def0 X G T.f2 (fun f fd F => ok_whole Gb F) fun _ _ _ _ _ _ us hl => match us, hl with | [_], _ => rfl
  have D9 : LwholeD P w K mg base := def0 X G T.f9 (fun f fd F => ok_lwhole Gb F) fun _ _ _ _ _ _ us hl => match us, hl with | [_], _ => rfl
  have D10 : GcdD P w K mg base := def0 X G T.f10 (fun f fd F => ok_gcd Gb F) fun _ _ _ _ _ _ us hl => match us, hl with | [_, _], _ => rfl
  have D11 : LfracD P w K mg base := def0 X G T.f11 (fun f fd F => ok_lfrac Gb D9 D10 F) fun _ _ _ _ _ _ us hl => match us, hl with | [_], _ => rfl
  have D5 : FracD P w K mg base := def0 X G T.f5 (fun f fd F => ok_frac Gb hg D2 F) fun _ _ _ _ _ _ us hl => match us, hl with | [_], _ => rfl
  have D4 : FraD P w K mg base := def0 X G T.f4 (fun f fd F => ok_fra Gb hg F) fun _ _ _ _ _ _ us hl => match us, hl with | [_, _], _ => rfl
  obtain ⟨f, fd, aF, F⟩ := T.f12.ex
  cases hfa.symm.trans (PySem.W.mg_of X G aF)
  have bd : BindsTo s0 fd ⟨[.ref a], []⟩ ((["_law_script"] : List Str).zip [.ref a]) := by
    obtain ⟨oc, od, kV, doc, pm, an, cdv, ct, osl, rfl, _⟩ := F.ex
    exact .of_eq rfl
  refine call_at (k := 7) (vs := [.ref a]) F scLaw ⟨rfl, by decide, by decide⟩ e0 bd (.cons rfl .nil) rfl fun cdv hr => ?_
  refine ⟨_, (law_ok (f := fa) (cdv := cdv) (A := callerA) (outer := []) (s := s0) (H := H) (E := fun _ _ _ => False) (g := ⟨false, false⟩) (ns := ns) Gb D7 D8 D5 D11 D4 (hr.mono (by decide))).nox, ?_, fun v H1 e1 p1 dv _ => ?_⟩
  · exact sr_start (N := nLaw) (dvs_script sq) pool_none
  · cases dv
    rfl
end
theorem walk60 {l : PySem.W.OpenLaw} {q : Program} {loose : List Str} {XP : (Str → Option Value) → Heap → Prop} {YP : World → Heap → Prop} {d : DefRec} {K : Params → PySem.W.Frag} (hn : l.most = some 63) (hdf : d.params.defaults = []) (hd : d.name = "law")
    (hY : ∀ (w : World) (h : Heap), YP w h → (K w.params).In h) (F : ∀ w : World, Txt (K w.params)) : PySem.W.WalkO q loose XP YP l.row.toRowW d [] (fun f vs => PySem.call f vs) := by
  refine Att.attach_call hn hdf fun w s₀ s₁ mg mb fa o pm cd doc a vs ns G Y ho hd' hcd hmg hobj hints hlen hg => ?_
  have KX := hY w _ Y
  rw [hd] at hmg
  exact law_at KX G.T.g G.T.b G.T.builtins G.T.nolimit hg hobj hints (Nat.le_trans hlen (by decide)) fun base H _ _ e0 sq => run60 (F w) KX G.T.g hmg e0 sq hlen
end K60

open PySem PySem.W PyProof.Rows
set_option maxRecDepth 100000 in
set_option maxHeartbeats 0 in
theorem PySem.Challenge.cw_leastlooks_k60_fractions_holds : PySem.Challenge.rw_leastlooks_k60_fractions.Holds := by
  w_on; o_law; k_head; (case hw => w_witness2)
  k_fill
  refine K60.walk60 (l := PySem.Challenge.rw_leastlooks_k60_fractions) rfl rfl rfl (fun w h Y => PySem.W.kIn_of Y) ?F
  case F =>
    intro w
    refine' ⟨?free, ?gcd, ?f2, ?f4, ?f5, ?f7, ?f8, ?f9, ?f10, ?f11, ?f12⟩
    case free =>
      intro x hx
      simp only [List.mem_cons, List.not_mem_nil, or_false] at hx
      rcases hx with rfl | rfl | rfl | rfl | rfl | rfl | rfl | rfl
      all_goals k_is
    case gcd => k_is
    case f2 =>
      refine' LA.gf_mk ?a ?l ?c ?k
      (case a => k_is); (case l => k_is); (case c => k_is); (case k => k_is)
    case f4 =>
      refine' LA.gf_mk ?a ?l ?c ?k
      (case a => k_is); (case l => k_is); (case c => k_is); (case k => k_is)
    case f5 =>
      refine' LA.gf_mk ?a ?l ?c ?k
      (case a => k_is); (case l => k_is); (case c => k_is); (case k => k_is)
    case f7 =>
      refine' LA.gf_mk ?a ?l ?c ?k
      (case a => k_is); (case l => k_is); (case c => k_is); (case k => k_is)
    case f8 =>
      refine' LA.gf_mk ?a ?l ?c ?k
      (case a => k_is); (case l => k_is); (case c => k_is); (case k => k_is)
    case f9 =>
      refine' LA.gf_mk ?a ?l ?c ?k
      (case a => k_is); (case l => k_is); (case c => k_is); (case k => k_is)
    case f10 =>
      refine' LA.gf_mk ?a ?l ?c ?k
      (case a => k_is); (case l => k_is); (case c => k_is); (case k => k_is)
    case f11 =>
      refine' LA.gf_mk ?a ?l ?c ?k
      (case a => k_is); (case l => k_is); (case c => k_is); (case k => k_is)
    case f12 =>
      refine' LA.gf_mk ?a ?l ?c ?k
      (case a => k_is); (case l => k_is); (case c => k_is); (case k => k_is)

